import PyProof.Rows.All
import Wide.All
import OpenK.AllK
import Wide.FinOn
import Lean
import PyProof.EqAt
import PyProof.EqKinds
import PyProof.TupleCall
import PyProof.CompFree
import PySem.SetTable
import PyProof.SetScanFacts
import PyProof.TupleKey
import PyProof.SetKind
import PyProof.IsRules
import PyProof.SetRoads
import PyProof.InstSpecial
import PyProof.Rows.SetFrom
import KE.KSortTup
import PyProof.StrWalks
import PyProof.EnumMake
import PyProof.ConsumeWalk
import PyProof.ListRange
import PyProof.NeKinds
import PyProof.ZipIter
import KE.KTryDeep
import OpenK.KOwn
import PyProof.RulesAs
import PyProof.NsDelKeeps
import PyProof.ExcArgsOwn
import PyProof.ExcAttrAll.ValueError
import KE.KIsAll
import OpenK.KNot
import PyProof.IsiH_list
import PyProof.Rows.FStr
import KE.KDictOf
import PyProof.AttrMissHeap
import PyProof.DictIter
import PyProof.DictWalks
import PyProof.Rows.DictUnroll
import KE.KRevIter
import KE.KDictList
import PyProof.CollectIter
import PyProof.TupleOfGen
import KE.KSortKey
import PyProof.FactsAll.NoneType_1
import PyProof.CompUse
import PyProof.Rows.FStrParts
import KE.KLam
import KE.KMinKey
import PyProof.ReprStr
import KE.KIntText
import PyProof.StrLawsChain
import PyProof.StrLawsTight
import PyProof.StrLawsLast
import PyProof.StrLawsRepr
import PyProof.StrLawsNeg
import PyProof.StrCalls2
import PyProof.FitsReplace
import PyProof.StrLawsOccR
import PyProof.StrCalls5
import PyProof.DictDisplay
import PyProof.Rows.StrJoin2
import KE.KNestM
import PySem.Challenge.RW_treewatch_k95_whole_grafts_and_ledgers
set_option Elab.async false
set_option linter.all false
set_option maxRecDepth 100000
set_option maxHeartbeats 8000000
open PySem.W (Frag instObj hideAll hideAll_size hideAll_get of_hideAll hideAll_none lookIn plainGet hasDictIn findIn handedIn plainGet_of isFn plainOver takerIn Looks makesIn emptyDict keepIn mroIn kitOne kia_one kitx_list kitx_dict callWith_K methodCall_KW fnOf codeIn KatLex kat_cons kat_lt_int KatTups kat_lt kat_no KdlSrc envX CodeHd kla_obj tabObj kla_fn codeHdIn codeHd_of_K nsIn mg_of)
open PyProof.Rows (boot_tuple lt_str boot_dict boot_sorted callWith_kw boot_max boot_isinstance boot_int boot_bool boot_str boot_all joinOk_of)
open PySem.F (slot_tuple_add entry_tuple_add args_tuple_add_2 slot_dict_pop slot_dict_get plainAttrs_dict plain_list_iadd called_tuple plainAttrs_list slot_list_pop type_list_pop entry_max_loop plain_max_loop plainAttrs_str slot_str_split type_str_split slot_str_join type_str_join)
open List (mem_filter mem_range filterMap_cons mem_cons_self mem_cons_of_mem mem_cons mem_append mem_append_left getElem_inj mem_append_right getElem?_eq_getElem size_toArray length_cons length_map append_nil nodup_cons of_mem_zip length length_take getElem?_append_right getElem?_append_left getElem?_map take_sublist mem_of_getElem? length_append length_drop any_cons length_singleton map_cons cons_append length_nil filter_cons length_filter_le Pairwise all_eq_true pairwise_iff_getElem pairwise_append pairwise_cons mem_iff_getElem filterMap_cons_none filterMap_cons_some length_range nodup_range perm_append_singleton append_assoc foldl_cons filter_sublist mem_map toArray getD_eq_getElem?_getD mem_singleton getElem_mem find?_eq_none any_map any_eq_true range' length_eq_zero_iff not_mem_nil take_succ nodup_nil take_length ext_getElem? getElem?_eq_none getElem?_range getElem_map map_map forall_mem_cons pairwise_map filter_append all_map filter_congr map_nil Nodup map_congr_left filter_map Sublist map_append nodup_append cons_ne_nil take_of_length_le lookup_cons toList_toArray take_add_one drop_zero take_left)
open Nat (not_lt lt_of_lt_of_le lt_irrefl ne_of_lt le_trans le_of_lt ne_of_gt le_refl zero_le lt_succ_self le_of_eq le_succ lt_of_le_of_lt lt_succ_of_lt zero_add mod_lt lt_trichotomy lt_or_ge sub_zero min_self toDigits digitChar sub_self)
open Array (length_toList toList getElem?_toList getD_eq_getD_getElem? toList_inj replicate forIn_toList size_map toList_push isEmpty toList_append)
open PySem.Heap (size_push lt_size SameBut get?_push_of_some get?_push_size get?_update_self get?_update_ne size_update ExtBut get?_push_ne)
open Option (isSome_iff_exists getD_none map_some isSome_map map_eq_some_iff)
open Bool (and_eq_true or_eq_true false_eq_true not_eq_true')
open Int (toNat_natCast)
open PySem.Calls (spliced_nil spliced_cons callWith_builtin evalArgs_plain)
open PySem.SeqAt (EqAt eq_listAt RcNeAt)
open PySem (boot_len)
open PySem.Str (empty ofString join empty_append)
noncomputable section
set_option compiler.extract_closed false
def Cv:Nat->Lean.Syntax->Lean.MacroM (Lean.TSyntax `rcasesPat)
|0,_=>Lean.Macro.throwUnsupported
|n+1,s=>do
 let f:Array Lean.Syntax->Lean.MacroM (Lean.TSyntax `rcasesPat):=fun a=>do
  let p<-a.mapM fun x=>do return Lean.mkNode ``Lean.Parser.Tactic.rcasesPatLo #[Lean.mkNode ``Lean.Parser.Tactic.rcasesPatMed #[Lean.mkNullNode #[<-Cv n x]],Lean.mkNullNode]
  `(rcasesPat|⟨$p,*⟩)
 match s with
 |`(($a,$b,*))=>f (#[a.raw]++b.getElems)
 |`(⟨$b,*⟩)=>f b.getElems
 |`(_)=>`(rcasesPat|_)
 |`($i:ident)=>`(rcasesPat|$i:ident)
 |_=>Lean.Macro.throwUnsupported
local macro_rules|`(tactic|let $p:term:=$e)=>do let p<-Cv 99 p;`(tactic|obtain $p:rcasesPat:=$e)
local macro_rules|`(tactic|show $e)=>`(tactic|refine $e)
local macro_rules(kind:=«term{_}»)|`({$x:term,*})=>`(⟨$x,*⟩)
def A0:=@get?_push_of_some
def A1:=@length_map
def A2:=@getElem?_eq_getElem
def A3:=@mem_map
def A4:=@if_neg
def A5:=@get?_push_size
def A6:=@if_pos
def A7:=@map_map
def A8:=@le_refl
def A9:=@List.getElem?_eq_some_iff
def B0:=@length_append
def B1:=@mem_cons_of_mem
def B2:=@size_toArray
def B3:=@mem_cons
def B4:=@mem_cons_self
def B5:=@lt_size
def B6:=@length_toList
def B7:=@getElem?_map
def B8:=@mem_singleton
def B9:=@decide_eq_false
def Bm:=@getD_eq_getElem?_getD
def C0:=@pairwise_map
def C1:=@Array.getElem?_eq_getElem
def C2:=@ne_of_lt
def C3:=@mem_of_getElem?
def C4:=@Bool.false_ne_true
def C5:=@lt_of_lt_of_le
def C6:=@mem_append
def C7:=@decide_eq_true
def C8:=@decide_eq_true_eq
def C9:=@false_eq_true
def CA:=@SameBut.update
def CB:=@getD_eq_getD_getElem?
def CC:=@length_cons
def CD:=@Ne.symm
def CF:=@mem_filter
def CG:=@map_append
def CH:=@mem_append_right
def CI:=@zero_le
def CK:=@PySem.mem_of_lookup
def CL:=@le_trans
def CM:=@map_cons
def CO:=@if_false
def CP:=@PySem.F.slot_list_append
def CS:=@PySem.F.type_list_append
def CT:=@mem_append_left
def CU:=@not_mem_nil
def CV:=@PyProof.Rows.slot_tuple_getitem
def CW:=@plainAttrs_list
def D0:=@length_filter_le
def D1:=@filter_sublist
def D2:=@pairwise_iff_getElem
def D3:=@Bool.eq_iff_iff
def D4:=@map_congr_left
def D5:=@beq_eq_false_iff_ne
def D6:=@length_take
def D7:=@and_eq_true
def D8:=@getElem?_append_right
def D9:=@if_true
def E1:=@pairwise_cons
def E2:=@length_eq_zero_iff
def E3:=@PyProof.Rows.callWith_type1
def E4:=@take_of_length_le
def E5:=@plainAttrs_str
def E6:=@filterMap_cons_some
def E7:=@nodup_cons
def E8:=@length_singleton
def E9:=@getElem?_append_left
def Ee:=@boot_sorted
def F0:=@getElem?_toList
def F1:=@le_of_lt
def F2:=@filterMap_cons_none
def F3:=@boot_len
def F4:=@length_range
def F5:=@lt_succ_of_lt
def F6:=@getElem_mem
def F7:=@getElem?_eq_none
def F8:=@ne_of_gt
def F9:=@length_nil
def FC:=@lt_of_le_of_lt
def FL:=@perm_append_singleton
def FW:=@mem_range
def G0:=@mem_iff_getElem
def G1:=@length_drop
def G2:=@bne_self_eq_false
def G3:=@or_false
def G4:=@beq_iff_eq
def G5:=@all_eq_true
abbrev zv:=PySem.Addr
abbrev zy:=PySem.Value
abbrev zn:=PySem.Shared
abbrev zi:=PySem.Program
abbrev xx:=PySem.Around
abbrev xl:=PySem.FuncData
abbrev xr:=PySem.World
abbrev qq:=PySem.Heap
abbrev Wb:=@PySem.wpAny_bind
abbrev Wp:=@PySem.wpAny_pure
namespace L2
open PySem PySem.Spec PyProof.Rows
abbrev Key:=Sum Int Str
def lC:Key->zy->Bool
 |.inl k,v=>Value.isInt k v
 |.inr x,v=>Value.isStrOf x v
def GW(w:xr):Key->Int
 |.inl k=>hashInt k
 |.inr x=>hashStr w x
theorem be:∀{k:Key}{v:zy},lC k v=true->(∃i t,k=Sum.inl i/\v=Value.int i t)\/(∃x t,k=Sum.inr x/\v=Value.str x t)
 |.inl i,v,h=>by
  let(t,e):=Value.isInt_shape h;show .inl ⟨i,t,rfl,e⟩
 |.inr x,v,h=>by
  let(t,e):=Value.isStrOf_shape h;show .inr ⟨x,t,rfl,e⟩
theorem uY(i:Int)(t:Tok):lC (.inl i) (.int i t)=true:=by simp[lC,Value.isInt]
theorem uZ(x:Str)(t:Tok):lC (.inr x) (.str x t)=true:=by simp[lC,Value.isStrOf]
theorem Ch(a b:Int):decide ((Sum.inl a:Key)=Sum.inl b)=(a==b):=by
 by_cases e:a=b
 .subst e;simp
 .rw[B9 λq=>e<|Sum.inl.inj q];show(D5.mpr e).symm
theorem Ci(a b:Str):decide ((Sum.inr a:Key)=Sum.inr b)=decide (a=b):=by
 by_cases e:a=b
 .simp
 .rw[B9 λq=>e<|Sum.inr.inj q,B9 e]
theorem Cj(a:Int)(b:Str):decide ((Sum.inl a)=Sum.inr b)=false:=B9 λq=>nomatch q
theorem Ck(a:Str)(b:Int):decide ((Sum.inr a)=Sum.inl b)=false:=B9 λq=>nomatch q
def aR(prog:zi)(w:xr):PySem.KeyKind prog w Key where
 is:=lC
 hash:=GW w
 inj:=λv a b j g=>by
  rcases be j with⟨i,t,rfl,rfl⟩|⟨x,t,rfl,rfl⟩
  .rcases be g with⟨f,u,rfl,e⟩|⟨y,u,rfl,e⟩
   .injection e with c _;rw[c]
   .show nomatch e
  .rcases be g with⟨f,u,rfl,e⟩|⟨y,u,rfl,e⟩
   .show nomatch e
   .injection e with c _;rw[c]
 byValue:=λk v h=>by
  rcases be h with⟨i,t,rfl,rfl⟩|⟨x,t,rfl,rfl⟩<;>rfl
 pyHash:=λd h=>by
  rcases be d with⟨i,t,rfl,rfl⟩|⟨x,t,rfl,rfl⟩
  .show wpAny_pyHash_int h
  .show wpAny_pyHash_str h
 eqBool:=λl d h=>by
  rcases be l with⟨i,t,rfl,rfl⟩|⟨x,t,rfl,rfl⟩
  .rcases be d with⟨f,u,rfl,rfl⟩|⟨y,u,rfl,rfl⟩
   .rw[Ch]at h;show wpAny_eqBool_int h
   .rw[Cj]at h;show EqAt.int_str i t y u _ _ _ _ h
  .rcases be d with⟨f,u,rfl,rfl⟩|⟨y,u,rfl,rfl⟩
   .rw[Ck]at h;show EqAt.str_int x t f u _ _ _ _ h
   .rw[Ci]at h;show wpAny_eqBool_str h
 «strs»:=λk x t v h=>by
  rcases be h with⟨i,u,rfl,e⟩|⟨y,u,rfl,e⟩
  .show nomatch e
  .injection e with c _
   subst c;cases v<;>rfl
theorem pX(prog:zi)(w:xr)(i:Int)(t:Tok):(aR prog w).is (.inl i) (.int i t)=true:=uY i t
theorem pY(prog:zi)(w:xr)(x:Str)(t:Tok):(aR prog w).is (.inr x) (.str x t)=true:=uZ x t
inductive V where
 |non|bl (b:Bool)|int (i:Int)|str (x:Str)|byt (b:Array UInt8)|flt (b:UInt64)|ref (a:zv)|ty (n:String)
 deriving DecidableEq
def aH:V->zy->Prop
 |.non,u=>u=Value.none
 |.bl b,u=>u=Value.bool b
 |.int i,u=>∃t,u=Value.int i t
 |.str x,u=>∃t,u=Value.str x t
 |.byt b,u=>∃t,u=Value.bytes b t
 |.flt b,u=>∃t,u=Value.float b t
 |.ref a,u=>u=Value.ref a
 |.ty n,u=>u=Value.type n
abbrev aB:List V->List zy->Prop:=Paired aH
theorem aB.length{xs:List V}{a:List _}(r:aB xs a):xs.length=a.length:=Paired.length r
theorem aB.get:∀{xs:List V}{us:List _}{i:Nat}{x:V},aB xs us->xs[i]?=some x->∃u,us[i]?=some u/\aH x u
 |_,_,_,_,.nil,e=>by simp at e
 |_,_,0,_,.cons r _,e=>by simp at e;subst e;show{_,rfl,r}
 |_,_,i+1,x,.cons _ t,e=>by
  let(u,h1,h2):=aB.get t (by simpa using e);show{u,by simpa using h1,h2}
theorem aB.append:∀{xs ys:List V}{us ws:List _},aB xs us->aB ys ws->aB (xs++ys) (us++ws)
 |_,_,_,_,.nil,s=>s
 |_,_,_,_,.cons r t,s=>.cons r<|aB.append t s
theorem aB.take:∀{xs:List V}{us:List _}(n:Nat),aB xs us->aB (xs.take n) (us.take n)
 |_,_,0,_=>.nil
 |_,_,_+1,.nil=>.nil
 |_,_,n+1,.cons r t=>.cons r<|aB.take n t
theorem aB.drop:∀{xs:List V}{us:List _}(n:Nat),aB xs us->aB (xs.drop n) (us.drop n)
 |_,_,0,r=>r
 |_,_,_+1,.nil=>.nil
 |_,_,n+1,.cons _ t=>aB.drop n t
def fE:Option V->Option zy->Prop
 |some v,some u=>aH v u
 |none,none=>True
 |_,_=>False
def KV{κ:Type}:List (κ×V)->List (κ×zy)->Prop:=Paired λ(p:κ×V) (q:κ×zy)=>p.1=q.1/\aH p.2 q.2
def kV:Key->V
 |.inl i=>.int i
 |.inr x=>.str x
inductive HO where
 |lst (xs:List V)
 |tup (xs:List V)
 |dK (kvs:List<|Key×V)|dT (kvs:List<|List Key×V)
 |set (S:Int->Bool) (n:Nat)
 |ins (C dx:zv) (fs:List<|Str×V)
 |own (x:zv)
 |xd (fs:List<|Str×V)
 |met (f x:zv)
 |rng (lo hi:Int)
 |frz (o:Obj) (u:HO)
 |tbl (ps:Array zy)
 |ext (φ:qq->Prop)
abbrev Hp:=zv->Option HO
def upd(H:Hp)(a:zv)(o:HO):Hp:=λb=>if b=a then some o else H b
theorem ac{H:Hp}{a:zv}{o:HO}:upd H a o a=some o:=by unfold upd;rw[A6 rfl]
theorem aj{H:Hp}{a b:zv}{o:HO}(h:b≠a):upd H a o b=H b:=by unfold upd;rw[A4 h]
theorem tG{H:Hp}{a b:zv}{o u:HO}(h:H a=some o)(h':H b=some u)(d:o≠u):a≠b:=by
 intro e;subst e;rw[h]at h';show d<|Option.some.inj h'
theorem ao{H:Hp}{a b:zv}{o:HO}(h:H a=some o)(h':H b=none):a≠b:=by
 intro e;subst e;rw[h]at h';cases h'
section
variable(P:zi)(w:xr)
def cS(H:Hp)(b:qq)(a:zv):HO->Prop
 |.lst xs=>xs.length<=sizeLine/\∃(its:List zy) (n:Nat),aB xs its/\b.get? a=some {cls:=.type "list",data:=.seq its.toArray n}
 |.tup xs=>xs.length<=sizeLine/\∃its:List zy,aB xs its/\IsTup b a its.toArray
 |.dK kvs=>kvs.length<=sizeLine/\(a==sysModules)=false/\∃vs,KV kvs vs/\b.DictOf (aR P w) a vs
 |.dT kvs=>kvs.length<=sizeLine/\(a==sysModules)=false/\∃xs:List<|List Key×zv×zy,
   Paired (λ(p:List Key×V) (q:List Key×zv×zy)=>p.1=q.1/\H q.2.1=some (.tup<|p.1.map kV)/\aH p.2 q.2.2) kvs xs /\
   ∃o es d,b.get? a=some o/\o.ExactDict/\o.data=.dict es d/\es.toList=xs.map (entryOfKey<|tupleKind (aR P w))/\(xs.map (·.1)).Nodup
 |.set S n=>b.SetOf (intKind P w) a S n
 |.ins C dx fs=>H dx=some (.own a)/\fs.length<=1000/\dx≠a/\b.get? a=some (instObj C dx) /\
   ∃mA,b.Ns1 dx mA/\(∀f,fE (fs.lookup f)<|mA f)/\PySem.Within mA (fs.map (·.1))
 |.own _=>∃o,b.get? a=some o
 |.xd fs=>∃mA,b.Ns1 a mA/\∀f,fE (fs.lookup f)<|mA f
 |.rng lo hi=>∃t u v,b.get? a=some {cls:=.type "range",data:=.fields #[.int lo t,.int hi u,.int 1 v]}
 |.frz o u=>b.get? a=some o/\cS H b a u
 |.tbl ps=>b.get? a=some {cls:=.none,data:=.fields ps}
 |.met f x=>b.get? a=some (PySem.W.methodObj (.ref f)<|.ref x)
 |.ext c=>c b/\(∃o,b.get? a=some o)/\∀h1 h2:qq,c h1->(∀o,h1.get? a=some o->h2.get? a=some o)->c h2
def HOk(H:Hp)(h:qq):Prop:=∀a o,H a=some o->cS P w H h a o
end
section
variable{P:zi}{w:xr}{H H':Hp}{h h':qq}{a:zv}{o:HO}
theorem cS.lt(x:cS P w H h a o):a<h.objs.size:=by
 cases o with
 |lst xs=>let(_,_,_,_,e):=x;show B5 e
 |tup xs=>let(_,_,_,p):=x;show p.lt
 |dK kvs=>let(_,_,_,_,o,_,_,e,_):=x;show B5 e
 |dT kvs=>let(_,_,_,_,o,_,_,e,_):=x;show B5 e
 |set S n=>let(o,_,_,_,e,_):=x;show B5 e
 |ins C dx fs=>let(_,_,_,e,_):=x;show B5 e
 |own y=>let(_,e):=x;show B5 e
 |xd fs=>let(_,(_,_,_,e,_),_):=x;show B5 e
 |rng lo hi=>let(_,_,_,e):=x;show B5 e
 |frz b u=>let(e,_):=x;show B5 e
 |tbl ps=>show B5<|x
 |met f y=>show B5<|x
 |ext c=>let(_,(_,e),_):=x;show B5 e
theorem Paired.mapP{α e:Type}{F c:α->e->Prop}:∀{l₁:List α}{d:List e},Paired F l₁ d->(∀a b,F a b->c a b)->Paired c l₁ d
 |_,_,.nil,_=>.nil
 |_,_,.cons r t,f=>.cons (f _ _ r)<|Paired.mapP t f
theorem cS.stay(x:cS P w H h a o)(k:∀b u,(b=a\/H b=some (.own a))->h.get? b=some u->h'.get? b=some u)(m:∀b,H b=some (.own a)->H' b=some (.own a))(s:∀b xs,H b=some (.tup xs)->H' b=some (.tup xs)):cS P w H' h' a o:=by
 induction o with
 |lst xs=>let(z,its,n,r,e):=x;show{z,its,n,r,k _ _ (.inl rfl) e}
 |tup xs=>let(z,its,r,g,e,c):=x;show{z,its,r,g,k _ _ (.inl rfl) e,c}
 |dK kvs=>let(z,y,vs,r,g,es,i,e,c):=x;show{z,y,vs,r,g,es,i,k _ _ (.inl rfl) e,c}
 |dT kvs =>
  let(z,y,xs,r,g,es,i,e,c):=x;show{z,y,xs,Paired.mapP r λp q z=>⟨z.1,s _ _ z.2.1,z.2.2⟩,g,es,i,k _ _ (.inl rfl) e,c}
 |set S n=>let(g,es,i,t,e,c):=x;show{g,es,i,t,k _ _ (.inl rfl) e,c}
 |ins C dx fs =>
  let(d,z,B,e,mA,(j,es,i,l,c),r):=x;show{m _ d,z,B,k _ _ (.inl rfl) e,mA,{j,es,i,k _ _ (.inr d) l,c},r}
 |own y=>let(g,e):=x;show{g,k _ _ (.inl rfl) e}
 |xd fs=>let(mA,(j,es,i,e,c),r):=x;show{mA,{j,es,i,k _ _ (.inl rfl) e,c},r}
 |rng lo hi=>let(t,u,v,e):=x;show{t,u,v,k _ _ (.inl rfl) e}
 |frz g u A=>let(e,q):=x;show{k _ _ (.inl rfl) e,A q}
 |tbl ps =>
  change h'.get? a=some _;show k a _ (.inl rfl) x
 |met f y =>
  change h'.get? a=some _;show k a _ (.inl rfl) x
 |ext D=>let(p,(o,e),st):=x;show{st _ _ p λo q=>k _ _ (.inl rfl) q,{o,k _ _ (.inl rfl) e},st}
theorem HOk.lt(x:HOk P w H h)(e:H a=some o):a<h.objs.size:=(x a o e).lt
theorem HOk.fresh(x:HOk P w H h)(e:h.objs.size<=a):H a=none:=by
 cases q:H a with
 |none=>rfl
 |some u=>show absurd (C5 (x.lt q) e)<|lt_irrefl _
theorem HOk.kept(x:HOk P w H h)(k:∀b u,h.get? b=some u->h'.get? b=some u):HOk P w H h':=λa o e =>
 (x a o e).stay (λb u _ q=>k b u q) (λ_ q=>q) λ_ _ q=>q
theorem HOk.laid(x:HOk P w H h)(k:∀b u,h.get? b=some u->h'.get? b=some u)(g:h.objs.size<=a)(i:cS P w (upd H a o) h' a o):HOk P w (upd H a o) h':=λb u e=>by
 have f:=x.fresh g
 by_cases d:b=a
 .subst d;rw[ac]at e;cases e;show i
 .rw[aj d]at e;show(x b u e).stay (λc v _ q=>k c v q) (λc q=>by rw[aj<|ao q f];show q) λc xs q=>by rw[aj<|ao q f];show q
end
def Rd(H:Hp)(a:zv)(u:HO):Prop:=H a=some u\/∃o,H a=some (.frz o u)
theorem Rd.of{H:Hp}{a:zv}{u:HO}(h:H a=some u):Rd H a u:=.inl h
theorem Rd.ok{P:zi}{w:xr}{H:Hp}{h:qq}{a:zv}{u:HO}(r:Rd H a u)(x:HOk P w H h):cS P w H h a u:=by
 rcases r with r|⟨o,r⟩
 .show x a u r
 .let(_,q):=x a _ r;show q
def Mut:Option HO->Prop
 |some (.lst _)=>True
 |some (.dK _)=>True
 |some (.dT _)=>True
 |some (.set _ _)=>True
 |some (.ins _ _ _)=>True
 |some (.ext _)=>True
 |_=>False
section
variable{P:zi}{w:xr}{H:Hp}{h h':qq}{x e:zv}{o':HO}
theorem HOk.write(p:HOk P w H h)(g:Mut<|H x)(i:e=x\/H e=some (.own x))(k:∀b u,b≠e->h.get? b=some u->h'.get? b=some u)(m:∃u,h'.get? e=some u)(o:cS P w (upd H x o') h' x o'):HOk P w (upd H x o') h':=λb u q=>by
 have j:∀c y,H c=some (.own y)->c≠x:=λc y r z=>by subst z;rw[r]at g;show g
 by_cases a:b=x
 .subst a;rw[ac]at q;cases q;show o
 .rw[aj a]at q
  by_cases d:b=e
  .have l:H b=some (.own x):=by
    rcases i with z|z
    .show absurd (d.trans z) a
    .rw[d];show z
   rw[q]at l;cases l;let(v,n):=m;show{v,by rw[d];show n}
  .show(p b u q).stay (λc v f r=>k c v ?_ r) (λc r=>by rw[aj<|j c b r];show r) λc xs r=>by rw[aj<|(λc xs r z=>by subst z;rw[r]at g;show g) c xs r];show r
   rcases f with rfl|f
   .show d
   .rintro rfl;rcases i with z|z
    .show j c b f z
    .rw[f]at z;cases z;show a rfl
end
structure Un(fs ex:List zv)(H H':Hp)(h h':qq):Prop where
 keep:∀b o,h.get? b=some o->H b=none->b∉fs->b∉ex->h'.get? b=some o
 slot:∀b o,h.get? b=some o->H b=none->b∈fs->b∉ex->∃sl,h'.get? b=some {o with slots:=sl}
 free:∀b o,h.get? b=some o->H b=none->b∉ex->H' b=none
 there:∀b o,h.get? b=some o->b∉ex->∃o',h'.get? b=some o'
 tups:∀b xs,H b=some (.tup xs)->H' b=some (.tup xs)
 frzs:∀b o u,H b=some (.frz o u)->H' b=some (.frz o u)
 tbls:∀b ps,H b=some (.tbl ps)->∃more,H' b=some (.tbl<|ps++more)
section
variable{fs fs' ex ex':List zv}{H H1 H2:Hp}{h h1 h2 h':qq}{a x e:zv}{o:HO}
theorem Un.any(u:Un fs ex H H1 h h1){b:zv}{a:Obj}(q:h.get? b=some a)(n:H b=none)(d:b∉ex):∃e,h1.get? b=some {a with slots:=e}:=by
 by_cases c:b∈fs
 .show u.slot b a q n c d
 .show{a.slots,u.keep b a q n c d}
theorem Un.trans(a:Un fs ex H H1 h h1)(b:Un fs ex H1 H2 h1 h2):Un fs ex H H2 h h2 where
 keep:=λc e q n g d=>b.keep c e (a.keep c e q n g d) (a.free c e q n d) g d
 slot:=λc e q n g d=>by
  let(m,f):=a.slot c e q n g d;let(l,i):=b.slot c _ f (a.free c e q n d) g d;show⟨l,i⟩
 free:=λc e q n d=>by
  let(o',f):=a.there c e q d;show b.free c o' f (a.free c e q n d) d
 there:=λc e q d=>by
  let(o',f):=a.there c e q d;show b.there c o' f d
 tups:=λc xs q=>b.tups c xs<|a.tups c xs q
 frzs:=λc e xs q=>b.frzs c e xs<|a.frzs c e xs q
 tbls:=λc ps q=>by
  let(j,f):=a.tbls c ps q;let(k,i):=b.tbls c _ f;show{j++k,by rw[i,Array.append_assoc]}
theorem Un.kept(k:∀b u,h.get? b=some u->h'.get? b=some u):Un fs ex H H h h' :=
 {λb a q _ _ _=>k b a q,λb a q _ _ _=>⟨a.slots,k b a q⟩,λ_ _ _ n _=>n,λb a q _=>⟨a,k b a q⟩,λ_ _ q=>q,λ_ _ _ q=>q,λ_ ps q=>{#[],by rw[q];simp}}
theorem Un.refl:Un fs ex H H h h:=Un.kept λ_ _ q=>q
theorem Un.laid(k:∀b u,h.get? b=some u->h'.get? b=some u)(d:h.objs.size<=a)(c:H a=none):Un fs ex H (upd H a o) h h' where
 keep:=λb u q _ _ _=>k b u q
 slot:=λb u q _ _ _=>⟨u.slots,k b u q⟩
 free:=λb u q n _=>by rw[aj<|C2 (C5 (B5 q) d)];show n
 there:=λb u q _=>⟨u,k b u q⟩
 tups:=λb xs q=>by rw[aj<|ao q c];show q
 frzs:=λb u xs q=>by rw[aj<|ao q c];show q
 tbls:=λb ps q=>{#[],by rw[aj<|ao q c,q];simp}
theorem Un.write(a:Mut<|H x)(i:e=x\/H e=some (.own x))(k:∀b u,b≠e->h.get? b=some u->h'.get? b=some u)(j:∃u,h'.get? e=some u):Un fs ex H (upd H x o) h h':=by
 have g:∀b,H b=none->b≠x:=λb n z=>by subst z;rw[n]at a;show a
 have d:∀b,H b=none->b≠e:=λb n z=>by
  subst z;rcases i with r|r
  .show g b n r
  .rw[n]at r;cases r
 have c:∀b u,H b=some u->¬Mut (some u)->b≠x:=λb u q nm z=>by subst z;rw[q]at a;show nm a
 show{λb u q n _ _=>k b u (d b n) q,λb u q n _ _=>{u.slots,k b u (d b n) q},λb u q n _=>by rw[aj<|g b n];show n,λb u q _=>?_,
  λb xs q=>by rw[aj<|c b _ q λz=>z];show q,λb u xs q=>by rw[aj<|c b _ q λz=>z];show q,λb ps q=>{#[],by rw[aj<|c b _ q λz=>z,q];simp}}
 by_cases f:b=e
 .subst f;show j
 .show{u,k b u f q}
end
def trk(h:qq)(H:Hp):List zv:=(List.range h.objs.size).filter λa=>(H a).isSome
def oU(h:qq)(H:Hp):qq:=hideAll h<|trk h H
theorem va(h:qq)(H:Hp):(oU h H).objs.size=h.objs.size:=hideAll_size _ _
theorem wF{a:qq}{H:Hp}{b:zv}{o:Obj}(e:a.get? b=some o)(n:H b=none):(oU a H).get? b=some o :=
 hideAll_get _ e λc=>by
  have q:=(CF.mp c).2;rw[n]at q;simp at q
theorem zT{a:qq}{H:Hp}{b:zv}{o:Obj}(e:(oU a H).get? b=some o):a.get? b=some o/\H b=none:=by
 have c:=of_hideAll _ e;show{c,?_};cases q:H b with
 |none=>rfl
 |some x =>
  have z:(oU a H).get? b=none:=hideAll_none _<|CF.mpr {FW.mpr<|B5 c,by simp[q]};rw[z]at e;cases e
structure Mod(K:Frag)(mg:Str->Option zy)(base:qq):Prop where
 kin:K.In base
 glob:base.Ns mainGlobals mg
 blt:∃mb,base.Ns builtinsNs mb/\∀x:Str,x≠"__name__"->mb x=bootBuiltins x
 nolimit:base.NoLimit
structure Cx where
 prog:zi
 w:xr
 K:Frag
 mg:Str->Option zy
 base:qq
 A:xx
 N:List Str
 s₀:zn
 H₀:Hp
 env:Env
 outer:List Env
 stack:List Env
 ex:List zv
 fn:Str->Bool
 calm:Bool
 pn:List<|zv×Obj
 xe:zy->zn->Prop
def frs(l:List Env):List zv:=l.filterMap (·.frame)
abbrev Cx.fs(X:Cx):List zv:=frs X.outer
def Vis(a:Scope)(x:Str):Prop:=a.names.lookup x=some .local\/a.names.lookup x=some .cell\/a.names.lookup x=some .free
def Loc(a:Scope)(x:Str):Prop:=a.names.lookup x=some .local\/a.names.lookup x=some .cell
def GX(env:Env)(h:qq)(m:Str->Option zy)(x:Str)(u:zy):Prop :=
 (env.kindOf x=some .local/\m x=some u)\/((env.kindOf x=some .cell\/env.kindOf x=some .free)/\∃c,env.cells.lookup x=some c/\h.IsCell c (some u))
structure Cx.Ok(X:Cx):Prop where
 mod:Mod X.K X.mg X.base
 kind:X.env.scope.kind=.function
 glob:X.env.globals=mainGlobals
 blt:X.env.builtins=builtinsNs
 above:X.s₀.heap.objs.size<=X.env.locals
 inj:∀x y c,X.env.cells.lookup x=some c->X.env.cells.lookup y=some c->x=y
 has:∀x,(X.env.kindOf x=some .cell\/X.env.kindOf x=some .free)->∃c,X.env.cells.lookup x=some c
 cab:∀x c,X.fn x=true->X.env.cells.lookup x=some c->X.s₀.heap.objs.size<=c
 hd:X.calm=true->X.A.handled=none
 frames:X.A.frames=some X.stack
 stk:X.stack=X.outer\/(X.stack=X.env::X.outer/\X.env.frame=some X.env.locals)
 exf:∀b∈X.ex,b≠X.env.locals/\∀x c,X.env.cells.lookup x=some c->c≠b
 bs:∀b o,X.base.get? b=some o->X.s₀.heap.get? b=some o/\X.H₀ b=none
 bsz:X.base.objs.size<=X.s₀.heap.objs.size
 noex:∀b o,X.base.get? b=some o->b∉X.ex
 exfs:∀b∈X.ex,b∉X.fs
 funs:X.s₀.heap.FunFrames X.base X.outer
 frf:∀b∈X.fs,X.H₀ b=none
structure Inv(X:Cx)(pins:List<|zv×Obj)(σ:List<|Option V)(H:Hp)(s:zn):Prop where
 ok:X.Ok
 os:s.os=X.s₀.os
 bare:AllBare s.gens
 base:Un X.fs X.ex X.H₀ H X.s₀.heap s.heap
 loc:∃m,s.heap.Ns X.env.locals m/\∀(i:Nat)(x:Str)(v:V),X.N[i]?=some x->σ[i]?=some (some v)->Vis X.env.scope x->∃u,aH v u/\GX X.env s.heap m x u
 cell:∀x c,X.env.cells.lookup x=some c->∃v,s.heap.IsCell c v
 free:H X.env.locals=none
 freeC:∀x c,X.env.cells.lookup x=some c->H c=none
 pin:∀p∈X.pn++pins,s.heap.get? p.1=some p.2/\H p.1=none/\p.1≠X.env.locals/\p.1∉X.fs/\∀v,p.2.data≠.cell v
 hok:HOk X.prog X.w H s.heap
 len:σ.length=X.N.length
section
variable{X:Cx}{pins:List (zv×Obj)}{σ:List (Option V)}{H H':Hp}{s:zn}{h':qq}
theorem Cx.Ok.nofr(c:X.Ok){b:zv}{o:Obj}(e:X.base.get? b=some o):b∉X.fs:=λa=>by
 have:=(c.funs.mem a).1;rw[e]at this;cases this
theorem Inv.bs(I:Inv X pins σ H s):∀b o,X.base.get? b=some o->s.heap.get? b=some o/\H b=none:=λb o e =>
 {I.base.keep b o (I.ok.bs b o e).1 (I.ok.bs b o e).2 (I.ok.nofr e) (I.ok.noex b o e),I.base.free b o (I.ok.bs b o e).1 (I.ok.bs b o e).2 (I.ok.noex b o e)}
theorem Inv.bk(I:Inv X pins σ H s):∀b o,X.base.get? b=some o->s.heap.get? b=some o:=λb o e=>(I.bs b o e).1
theorem Inv.mod(I:Inv X pins σ H s):Mod X.K X.mg X.base:=I.ok.mod
theorem Inv.kIn(I:Inv X pins σ H s):X.K.In s.heap:=I.ok.mod.kin.keeps I.bk
theorem Inv.lt(a:Inv X pins σ H s):X.env.locals<s.heap.objs.size:=let⟨_,b,_⟩:=a.loc;b.lt
theorem Inv.sz(I:Inv X pins σ H s):X.s₀.heap.objs.size<=s.heap.objs.size:=CL I.ok.above<|F1 I.lt
theorem Inv.nofs(b:Inv X pins σ H s){a:zv}(c:s.heap.objs.size<=a):a∉X.fs:=λd=>by
 let(_,o,e,_):=b.ok.funs.mem d;show absurd (C5 (B5 e)<|CL b.sz c)<|lt_irrefl _
theorem Inv.cne(a:Inv X pins σ H s):∀x c,X.env.cells.lookup x=some c->c≠X.env.locals:=λx c e z=>by
 let(v,o,d,b):=a.cell x c e;let(m,(o',es,h,g,f,_),_):=a.loc;rw[z,g]at d;cases d;rw[f]at b;cases b
theorem Inv.funs(c:Inv X pins σ H s):s.heap.FunFrames X.base X.outer:=by
 have all:∀(l:List Env),(∀b∈frs l,b∈X.fs)->X.s₀.heap.FunFrames X.base l->s.heap.FunFrames X.base l:=by
  intro l
  induction l with
  |nil=>intro _ _;trivial
  |cons q r p =>
   intro hs j;let(i,(a,o,g,k,m,h),n):=j;have d:=hs a (by unfold frs;rw[filterMap_cons,g];show B4);let(t,e):=c.base.slot a o m (c.ok.frf a d) d λz=>c.ok.exfs a z d;show{i,⟨a,_,g,k,e,h⟩,p (λb f=>hs b (by unfold frs;rw[filterMap_cons,g];show B1 _ f)) n}
 show all _ (λ_ f=>f) c.ok.funs
theorem Inv.stack(a:Inv X pins σ H s):s.heap.FunFrames X.base X.stack:=by
 rcases a.ok.stk with e|⟨e,b⟩
 .rw[e];show a.funs
 .rw[e];let(m,c,_):=a.loc;show .cons (by rw[a.ok.kind];decide) b c (Heap.get?_none_of_le<|CL a.ok.bsz a.ok.above) a.funs
theorem Inv.stkSub(c:Inv X pins σ H s):∀b∈frs X.stack,b∈X.env.locals::X.fs:=λb a=>by
 rcases c.ok.stk with e|⟨e,d⟩
 .rw[e]at a;show B1 _ a
 .rw[e]at a;unfold frs at a;rw[filterMap_cons,d]at a;show a
theorem Inv.stkFree(a:Inv X pins σ H s):∀b∈frs X.stack,H b=none:=λb c=>by
 rcases B3.mp (a.stkSub b c)with e|c
 .rw[e];show a.free
 .let(_,o,d,_):=a.ok.funs.mem c;show a.base.free b o d (a.ok.frf b c) λz=>a.ok.exfs b z c
theorem Inv.step{g':Array _}{t':Nat}{d':Drawn}{ch:List _}(a:Inv X pins σ H s)(y:∀b∈ch,(b∈X.ex\/X.s₀.heap.objs.size<=b)/\b≠X.env.locals/\(∀x c,X.env.cells.lookup x=some c->c≠b)/\∀p∈X.pn++pins,p.1≠b)(E:∀b o,b≠X.env.locals->b∉X.fs->b∉ch->s.heap.get? b=some o->H b=none->h'.get? b=some o)(M:∀b o,b≠X.env.locals->b∈X.fs->b∉ch->s.heap.get? b=some o->H b=none->∃F,h'.get? b=some {o with slots:=F})(B:∀b o,b∉ch->s.heap.get? b=some o->H b=none->H' b=none)(Y:∀b o,b∉ch->s.heap.get? b=some o->∃o',h'.get? b=some o')(Z:∀b xs,H b=some (.tup xs)->H' b=some (.tup xs))(O:∀b o u,H b=some (.frz o u)->H' b=some (.frz o u))(W:∀b ps,H b=some (.tbl ps)->∃more,H' b=some (.tbl<|ps++more))(ns:∀m,s.heap.Ns X.env.locals m->h'.Ns X.env.locals m)(S:HOk X.prog X.w H' h')(P:AllBare g'):
  Inv X pins σ H' {s with heap:=h',gens:=g',drawn:=d',toks:=t'}:=by
 have K:∀b o,X.s₀.heap.get? b=some o->b≠X.env.locals:=λb o e=>C2<|C5 (B5 e) a.ok.above;have C:∀b o,X.s₀.heap.get? b=some o->b∉X.ex->b∉ch:=λb o e f h=>by
  rcases (y b h).1 with z|z
  .show f z
  .show absurd (C5 (B5 e) z)<|lt_irrefl _
 have G:∀x c,X.env.cells.lookup x=some c->∀v,s.heap.IsCell c v->h'.IsCell c v:=λx c e v ⟨o,j,D⟩=>by
  have A:c∉ch:=λz=>(y c z).2.2.1 x c e rfl
  by_cases I:c∈X.fs
  .let(F,q):=M c o (a.cne x c e) I A j<|a.freeC x c e;show{_,q,D}
  .show{o,E c o (a.cne x c e) I A j<|a.freeC x c e,D}
 show{a.ok,a.os,P,{λb o e n h f=>?_,λb o e n h f=>?_,λb o e n f=>?_,λb o e f=>?_,λb xs e=>Z b xs<|a.base.tups b xs e,λb o xs e=>O b o xs<|a.base.frzs b o xs e,λb ps e=>?_},?_,λx c e=>?_,?_,λx c e=>?_,λp hp=>?_,S,a.len}
 .show E b o (K b o e) h (C b o e f) (a.base.keep b o e n h f)<|a.base.free b o e n f
 .let(F,g):=a.base.slot b o e n h f;let(V,t):=M b _ (K b o e) h (C b o e f) g<|a.base.free b o e n f;show⟨V,t⟩
 .let(o',g):=a.base.there b o e f;show B b o' (C b o e f) g<|a.base.free b o e n f
 .let(o',g):=a.base.there b o e f;show Y b o' (C b o e f) g
 .let(T,g):=a.base.tbls b ps e;let(U,t):=W b _ g;show{T++U,by rw[t,Array.append_assoc]}
 .let(m,R,Q):=a.loc;show{m,ns m R,λi x v g t N=>?_};let(u,r,l):=Q i x v g t N;show{u,r,?_};rcases l with l|⟨k,c,e,z⟩
  .show .inl l
  .show .inr ⟨k,c,e,G x c e _ z⟩
 .let(v,z):=a.cell x c e;show{v,G x c e v z}
 .let(m,(o,_,_,j,_),_):=a.loc;show B _ o (λz=>(y _ z).2.1 rfl) j a.free
 .let(v,o,j,D):=a.cell x c e;show B c o (λz=>(y c z).2.2.1 x c e rfl) j<|a.freeC x c e
 .let(e,n,J,L,d):=a.pin p hp;have A:p.1∉ch:=λz=>(y p.1 z).2.2.2 p hp rfl;show{E p.1 p.2 J L A e n,B p.1 p.2 A e n,J,L,d}
theorem Inv.un{t':Nat}(a:Inv X pins σ H s)(u:Un X.fs [] H H' s.heap h')(k:HOk X.prog X.w H' h'):Inv X pins σ H' {s with heap:=h',toks:=t'}:=by
 let(m,(o,es,p,d,r),_):=id a.loc;let(t,i):=u.any d a.free (by simp);show a.step (ch:=[]) (λ_ z=>nomatch z) (λb o _ c _ e n=>u.keep b o e n c (by simp)) (λb o _ c _ e n=>u.slot b o e n c (by simp)) (λb o _ e n=>u.free b o e n (by simp)) (λb o _ e=>u.there b o e (by simp)) u.tups u.frzs u.tbls (λq j=>by
  let(o',h,g,f,l):=j;rw[d]at f;cases f;show{_,h,g,i,l}) k a.bare
theorem Inv.call{g':Array _}{t':Nat}{d':Drawn}{ch:List _}(d:Inv X pins σ H s)(u:Un (frs X.stack) ch H H' s.heap h')(v:HOk X.prog X.w H' h')(q:AllBare g')(g:∀b∈ch,(b∈X.ex\/X.s₀.heap.objs.size<=b)/\b≠X.env.locals/\(∀x c,X.env.cells.lookup x=some c->c≠b)/\∀p∈X.pn++pins,p.1≠b):
  Inv X pins σ H' {s with heap:=h',gens:=g',drawn:=d',toks:=t'}:=by
 let(m,(o,es,A,h,r),_):=id d.loc;let(C,f):=u.any h d.free λz=>(g _ z).2.1 rfl;show d.step g (λb o f l a e n=>u.keep b o e n (λz=>(B3.mp<|d.stkSub b z).elim f l) a) (λb o _ _ a e n=>u.any e n a) (λb o a e n=>u.free b o e n a) (λb o a e=>u.there b o e a) u.tups u.frzs u.tbls (λB t=>by
  let(o',k,j,i,y):=t;rw[h]at i;cases i;show{_,k,j,f,y}) v q
theorem Inv.turned{t':Nat}{it:zv}(d:Inv X pins σ H s)(k:∀b o,b≠it->s.heap.get? b=some o->h'.get? b=some o)(w:H it=none)(f:it≠X.env.locals)(i:it∈X.ex\/X.s₀.heap.objs.size<=it)(h2:∀x c,X.env.cells.lookup x=some c->c≠it)(j:∀p∈X.pn++pins,p.1≠it):Inv X pins σ H {s with heap:=h',toks:=t'}:=by
 have g:∀b u,H b=some u->b≠it:=λb u e z=>by rw[z,w]at e;cases e
 show d.step (ch:=[it]) (λb l=>?_) (λb o _ _ a e _=>k b o (λz=>a (by simp[z])) e) (λb o _ _ a e _=>{o.slots,k b o (λz=>a (by simp[z])) e}) (λ_ _ _ _ n=>n)
  (λb o a e=>{o,k b o (λz=>a (by simp[z])) e}) (λ_ _ e=>e) (λ_ _ _ e=>e) (λb ps e=>{#[],by rw[e];simp}) (λm t=>?_) (λb u e=>?_) d.bare
 .have e:b=it:=by simpa using l
  subst e;show⟨i,f,h2,j⟩
 .let(o,es,h,y,r):=t;show{o,es,h,k _ o (CD f) y,r}
 .show(d.hok b u e).stay (λc v a q=>k c v ?_ q) (λ_ q=>q) λ_ _ q=>q;rcases a with z|z
  .rw[z];show g b u e
  .show g c _ z
theorem Inv.tok(I:Inv X pins σ H s)(t:Nat):Inv X pins σ H {s with toks:=t}:=I.un Un.refl I.hok
theorem Inv.kept{t':Nat}(I:Inv X pins σ H s)(k:∀b u,s.heap.get? b=some u->h'.get? b=some u):Inv X pins σ H {s with heap:=h',toks:=t'}:=I.un (Un.kept k)<|I.hok.kept k
theorem Inv.laid{a:zv}{o:HO}{t':Nat}(c:Inv X pins σ H s)(k:∀b u,s.heap.get? b=some u->h'.get? b=some u)(d:s.heap.objs.size<=a)(e:cS X.prog X.w (upd H a o) h' a o):
  Inv X pins σ (upd H a o) {s with heap:=h',toks:=t'}:=c.un (Un.laid k d<|c.hok.fresh d)<|c.hok.laid k d e
theorem Inv.write{x e:zv}{o:HO}{t':Nat}(a:Inv X pins σ H s)(f:Mut<|H x)(c:e=x\/H e=some (.own x))(k:∀b u,b≠e->s.heap.get? b=some u->h'.get? b=some u)(d:∃u,h'.get? e=some u)(g:cS X.prog X.w (upd H x o) h' x o):Inv X pins σ (upd H x o) {s with heap:=h',toks:=t'}:=a.un (Un.write f c k d)<|a.hok.write f c k d g
theorem Inv.pins_of{b:List _}(a:Inv X pins σ H s)(c:∀p∈b,s.heap.get? p.1=some p.2/\H p.1=none/\p.1≠X.env.locals/\p.1∉X.fs/\∀v,p.2.data≠.cell v):Inv X b σ H s :=
 {a.ok,a.os,a.bare,a.base,a.loc,a.cell,a.free,a.freeC,λp hp=>(C6.mp hp).elim (λz=>a.pin p<|CT _ z) (c p),a.hok,a.len}
theorem pZ{N:List Str}(e:N.Nodup){i j:Nat}{x:Str}(a:N[i]?=some x)(b:N[j]?=some x):i=j:=by
 let(h1,c):=A9.mp a;let(h2,d):=A9.mp b;show(getElem_inj e).mp (c.trans d.symm)
theorem ny{a6:Model}{A:xx}{E:zy->zn->Prop}{i:Nat}{x:Str}{v:V}{u:zy}{Q:Unit->zn->Prop}(f:Inv X pins σ H s)(Y:X.N.Nodup)(D:X.N[i]?=some x)(j:Loc X.env.scope x)(r:aH v u)(W:∀s',Inv X pins (σ.set i<|some v) H s'->(∃a,SameBut a s.heap s'.heap/\(a=X.env.locals\/X.env.cells.lookup x=some a))->Q () s')(a8:X.fn x=true\/X.env.scope.names.lookup x=some .local:=by first|show .inl rfl|show .inr rfl|assumption):wpAny a6 A (storeName X.env x u) Q E s:=by
 let(m,O,a3):=id f.loc;have a2:i<σ.length:=by rw[f.len];show(A9.mp D).1
 have K:=f.cne;have a5:∀{a:zv}{h':qq},(∃o,s.heap.get? a=some o/\H a=none)->SameBut a s.heap h'->HOk X.prog X.w H h':=λ{a h'} a7 hs b c0 e=>by
  let(_,_,a1):=a7;show(f.hok b c0 e).stay (λc J h q=>(hs.2 c ?_).trans q) (λ_ q=>q) λ_ _ q=>q;rintro rfl;rcases h with rfl|h
  .rw[a1]at e;cases e
  .rw[a1]at h;cases h
 rcases j with t|t
 .show wpAny_storeName_local t O (λh' a9 hs=>?_) (by rw[f.ok.kind];rfl);let(b3,_,_,b1,_):=id O;show W _ {f.ok,f.os,f.bare,{λb o e n B j=>?_,λb o e n B j=>?_,f.base.free,λb o e j=>?_,f.base.tups,f.base.frzs,f.base.tbls},{_,a9,λF y U g l L=>?_},λy c e=>?_,f.free,f.freeC,λp hp=>?_,a5 ⟨b3,b1,f.free⟩ hs,by simpa using f.len} ⟨_,hs,.inl rfl⟩
  .show(hs.2 b<|C2 (C5 (B5 e) f.ok.above)).trans (f.base.keep b o e n B j)
  .let(S,g):=f.base.slot b o e n B j;show{S,(hs.2 b<|C2 (C5 (B5 e) f.ok.above)).trans g}
  .let(o',g):=f.base.there b o e j;show{o',(hs.2 b<|C2 (C5 (B5 e) f.ok.above)).trans g}
  .by_cases C:F=i
   .subst C;rw[D]at g;cases g;rw[List.getElem?_set_self a2]at l;cases l;show{u,r,.inl ⟨t,by simp⟩}
   .rw[List.getElem?_set_ne<|CD C]at l;let(T,R,q):=a3 F y U g l L;show{T,R,?_};rcases q with⟨k,e⟩|⟨k,c,e,z⟩
    .show .inl {k,?_};have:y≠x:=λe=>C<|pZ Y g (e ▸ D);simp[this,e]
    .show .inr {k,c,e,z.sameBut hs<|K y c e}
  .let(J,z):=f.cell y c e;show{J,z.sameBut hs<|K y c e}
  .let(e,n,I,P,d):=f.pin p hp;show{(hs.2 p.1 I).trans e,n,I,P,d}
 .have M:X.fn x=true:=by
   rcases a8 with z|z
   .show z
   .rw[z]at t;cases t
  let(c,h):=f.ok.has x<|.inl t;let(J,z):=f.cell x c h;show wpAny_storeName_cell f.ok.kind t h z λh' Z hs=>?_;let(c1,a4,b2):=id z;show W {s with heap:=h'} {f.ok,f.os,f.bare,{λb o e n B j=>?_,λb o e n B j=>?_,f.base.free,λb o e j=>?_,f.base.tups,f.base.frzs,f.base.tbls},{m,O.sameBut hs<|CD (K x c h),λF y U g l L=>?_},λy G e=>?_,f.free,f.freeC,λp hp=>?_,a5 ⟨c1,a4,f.freeC x c h⟩ hs,by simpa using f.len} ⟨c,hs,.inr h⟩
  .show(hs.2 b<|C2 (C5 (B5 e)<|f.ok.cab x c M h)).trans (f.base.keep b o e n B j)
  .let(S,g):=f.base.slot b o e n B j;show{S,(hs.2 b<|C2 (C5 (B5 e)<|f.ok.cab x c M h)).trans g}
  .let(o',g):=f.base.there b o e j;show{o',(hs.2 b<|C2 (C5 (B5 e)<|f.ok.cab x c M h)).trans g}
  .by_cases C:F=i
   .subst C;rw[D]at g;cases g;rw[List.getElem?_set_self a2]at l;cases l;show{u,r,.inr ⟨.inl t,c,h,Z⟩}
   .rw[List.getElem?_set_ne<|CD C]at l;let(T,R,q):=a3 F y U g l L;show{T,R,?_};rcases q with q|⟨k,G,e,c3⟩
    .show .inl q
    .show .inr {k,G,e,c3.sameBut hs ?_};rintro rfl;show C<|pZ Y g (f.ok.inj _ _ _ e h ▸ D)
  .by_cases a0:G=c
   .subst a0;show{_,Z}
   .let(c2,c4):=f.cell y G e;show{c2,c4.sameBut hs a0}
  .let(e,n,I,P,d):=f.pin p hp;show{(hs.2 p.1 λq=>?_).trans e,n,I,P,d};rw[q,a4]at e;show d J (by rw[<-(Option.some.inj e)];show b2)
theorem iX{c:Model}{A:xx}{E:zy->zn->Prop}{i:Nat}{x:Str}{v:V}{u:zy}{Q:Unit->zn->Prop}(a:Inv X pins σ H s)(e:X.N.Nodup)(g:X.N[i]?=some x)(h:Loc X.env.scope x)(r:aH v u)(d:∀s',Inv X pins (σ.set i<|some v) H s'->Q () s')(f:X.fn x=true\/X.env.scope.names.lookup x=some .local:=by first|show .inl rfl|show .inr rfl|assumption):wpAny c A (storeName X.env x u) Q E s :=
 ny a e g h r (λs' b _=>d s' b) f
theorem Inv.call'{s':zn}{ch:List _}(a:Inv X pins σ H s)(f:s'.os=s.os)(u:Un (frs X.stack) ch H H' s.heap s'.heap)(g:HOk X.prog X.w H' s'.heap)(e:AllBare s'.gens)(d:∀b∈ch,(b∈X.ex\/X.s₀.heap.objs.size<=b)/\b≠X.env.locals/\(∀x c,X.env.cells.lookup x=some c->c≠b)/\∀p∈X.pn++pins,p.1≠b):Inv X pins σ H' s':=by
 let(h',i,h,j,o'):=s';subst f;show a.call u g e d
end
abbrev XK:=zy->Option zv->Hp->Prop
abbrev St:=List<|Option V
abbrev VK:=V->Hp->Prop
abbrev TE:=St->Hp->VK->Prop
abbrev TT:=St->Hp->(Bool->Hp->Prop)->Prop
abbrev TA:=St->Hp->(List V->Hp->Prop)->Prop
structure Ends where
 nx:St->Hp->Prop
 rt:VK
 bk:St->Hp->Prop:=λ_ _=>False
 ct:St->Hp->Prop:=λ_ _=>False
abbrev TS:=Ends->St->Hp->Prop
inductive EP(X:Cx)(pins:List<|zv×Obj)(σ:St)(Q:VK)(u:zy)(s':zn):Prop
 |mk v H' (_:Inv X pins σ H' s') (_:aH v u) (_:Q v H')
def TP(X:Cx)(a:List<|zv×Obj)(c:St)(Q:Bool->Hp->Prop)(b:Bool)(s':zn):Prop:=∃H',Inv X a c H' s'/\Q b H'
inductive AP(X:Cx)(pins:List<|zv×Obj)(σ:St)(Q:List V->Hp->Prop)(us:List zy)(s':zn):Prop
 |mk vs H' (_:Inv X pins σ H' s') (_:aB vs us) (_:Q vs H')
def SP(X:Cx)(c:List<|zv×Obj)(b:Ends)(f:Flow)(s':zn):Prop :=
 match f with
 |.next=>∃a H',Inv X c a H' s'/\b.nx a H'
 |.brk=>∃a H',Inv X c a H' s'/\b.bk a H'
 |.cont=>∃a H',Inv X c a H' s'/\b.ct a H'
 |.ret u=>∃v a H',Inv X c a H' s'/\aH v u/\b.rt v H'
def PE(X:Cx)(e:Expr)(t:TE):Prop :=
 ∀(pins:List<|zv×Obj)(s:zn)(σ:St)(H:Hp)(Q:VK),Inv X pins σ H s->t σ H Q->wpAny (model X.prog X.w) X.A (eval e X.env) (EP X pins σ Q) X.xe s
def PT(X:Cx)(e:Expr)(t:TT):Prop :=
 ∀(pins:List<|zv×Obj)(s:zn)(σ:St)(H:Hp)(Q:Bool->Hp->Prop),Inv X pins σ H s->t σ H Q->wpAny (model X.prog X.w) X.A (isTrue e X.env<|eval e X.env) (TP X pins σ Q) X.xe s
def PW(X:Cx)(e:Expr)(t:TT):Prop :=
 ∀(a:Sem zy)(pins:List<|zv×Obj)(s:zn)(σ:St)(H:Hp)(Q:Bool->Hp->Prop),Inv X pins σ H s->t σ H Q->wpAny (model X.prog X.w) X.A (isTrue e X.env a) (TP X pins σ Q) X.xe s
theorem PW.pt{X:Cx}{e:Expr}{t:TT}(h:PW X e t):PT X e t:=h _
def PA(X:Cx)(a:List Expr)(t:TA):Prop :=
 ∀(pos:Pos)(pins:List<|zv×Obj)(s:zn)(σ:St)(H:Hp)(Q:List V->Hp->Prop),Inv X pins σ H s->t σ H Q->wpAny (model X.prog X.w) X.A (spliced<|backTo pos (starEach a X.env)) (AP X pins σ Q) X.xe s
def PS(X:Cx)(st:Stmt)(t:TS):Prop :=
 ∀(pins:List<|zv×Obj)(s:zn)(σ:St)(H:Hp)(D:Ends),Inv X pins σ H s->t D σ H->wpAny (model X.prog X.w) X.A (exec st X.env) (SP X pins D) X.xe s
def PSs(X:Cx)(st:List Stmt)(t:TS):Prop :=
 ∀(pins:List<|zv×Obj)(s:zn)(σ:St)(H:Hp)(D:Ends),Inv X pins σ H s->t D σ H->wpAny (model X.prog X.w) X.A (execs st X.env) (SP X pins D) X.xe s
theorem thn{α:Type}{t:Sem α}{Q c:α->zn->Prop}{b:Model}{A:xx}{E:zy->zn->Prop}{s:zn}(d:wpAny b A t Q E s)(e:∀a s,Q a s->c a s):wpAny b A t c E s:=wpAny_mono d e λ_ _ x=>x
section
variable{X:Cx}
inductive tVar(i:Nat)(σ:St)(H:Hp)(Q:VK):Prop
 |mk v (_:σ[i]?=some (some v)) (_:Q v H)
def tC(v:V):TE:=λ_ H Q=>Q v H
theorem Cl{i:Nat}{x:Str}{pos:Pos}(j:X.N[i]?=some x)(q:Vis X.env.scope x)(d:(x==("__debug__"))=false:=by decide)(k:(x==("__classdict__"))=false:=by decide):PE X (.Name x pos) (tVar i):=by
 intro pins s σ H Q I h;let(v,e,h):=h;let(m,p,n):=I.loc;let(u,r,l):=n i x v j e q;have b:EP X _ σ Q u s:=⟨v,H,I,r,h⟩;rcases l with⟨a,o⟩|⟨a,c,f,g⟩
 .show wpAny_Name (wpAny_loadName_local I.ok.kind a p o b) d
 .rcases a with a|a
  .show wpAny_Name (wpAny_loadName_cell I.ok.kind a f g b) d
  .show wpAny_Name (wpAny_loadName_free I.ok.kind a f g b k) d
theorem ai{i j pos}:PE X (.Constant (.int i) j pos) (tC<|.int i):=λ_ _ _ H _ I h=>wpAny_Constant_int ⟨.int i,H,I.tok _,⟨_,rfl⟩,h⟩
theorem kD{b j pos}:PE X (.Constant (.bool b) j pos) (tC<|.bl b):=λ_ _ _ H _ I h=>Constant_bool ⟨.bl b,H,I,rfl,h⟩
theorem cW{j pos}:PE X (.Constant .none j pos) (tC .non):=λ_ _ _ H _ I h=>Constant_none ⟨.non,H,I,rfl,h⟩
theorem aJ{x j pos}:PE X (.Constant (.str x) j pos) (tC<|.str x):=λ_ _ _ H _ I h=>Calls.Constant_str ⟨.str x,H,I.tok _,⟨_,rfl⟩,h⟩
def Gl(X:Cx)(x:Str):Prop:=X.env.kindOf x=some .globalImplicit
theorem oV{E:zy->zn->Prop}{f:List _}{s:zn}{g:St}{H:Hp}{x:Str}{u:zy}{pos:Pos}{Q:zy->zn->Prop}(a:Inv X f g H s)(d:Gl X x)(e:X.mg x=some u)(b:Q u s)(c:(x==("__debug__"))=false:=by decide):wpAny (model X.prog X.w) X.A (eval (.Name x pos) X.env) Q E s :=
 Calls.Name_function_global a.ok.kind d (Calls.loadGlobal_global (by rw[a.ok.glob];show a.mod.glob.keeps a.bk) e b) c
theorem fe{E:zy->zn->Prop}{h:List _}{s:zn}{i:St}{H:Hp}{x:Str}{u:zy}{pos:Pos}{Q:zy->zn->Prop}(a:Inv X h i H s)(d:Gl X x)(e:X.mg x=none)(g:bootBuiltins x=some u)(b:Q u s)(f:x≠"__name__":=by decide)(c:(x==("__debug__"))=false:=by decide):wpAny (model X.prog X.w) X.A (eval (.Name x pos) X.env) Q E s:=by
 let(j,h1,h2):=a.mod.blt;show Calls.Name_function_global a.ok.kind d (Calls.loadGlobal_builtin (by rw[a.ok.glob];show a.mod.glob.keeps a.bk) e (by rw[a.ok.blt];show h1.keeps a.bk) ((h2 x f).trans g) b) c
theorem ce{x:Str}{v:V}{u:zy}{pos:Pos}(b:Gl X x)(c:X.mg x=some u)(r:aH v u)(a:(x==("__debug__"))=false:=by decide):PE X (.Name x pos) (tC v) :=
 λ_ _ _ H _ I h=>oV I b c ⟨v,H,I,r,h⟩ a
theorem ie{x:Str}{v:V}{u:zy}{pos:Pos}(b:Gl X x)(c:X.mg x=none)(e:bootBuiltins x=some u)(r:aH v u)(d:x≠"__name__":=by decide)(a:(x==("__debug__"))=false:=by decide):PE X (.Name x pos) (tC v) :=
 λ_ _ _ H _ I h=>fe I b c e ⟨v,H,I,r,h⟩ d a
variable{a b:Expr}{ta tb:TE}{pos:Pos}
def PC(X:Cx)(op:CmpOp)(a b:Expr)(t:TE):Prop :=
 ∀(pins:List<|zv×Obj)(s:zn)(σ:St)(H:Hp)(Q:VK),Inv X pins σ H s->t σ H Q ->
  wpAny (model X.prog X.w) X.A (eval a X.env) (λv c=>wpAny (model X.prog X.w) X.A (eval b X.env) (λu d=>wpAny (model X.prog X.w) X.A (compareOp op v u) (EP X pins σ Q) X.xe d) X.xe c) X.xe s
def tB(t:TE):TT:=λσ H Q=>t σ H λx H1=>∃c,x=.bl c/\Q c H1
theorem iB{op:CmpOp}{t:TE}(g:PC X op a b t)(e:behindInMarks op b=false:=by first|show nobehind _ (by decide) (by decide)|rfl):PT X (.Compare a [op] [b] pos) (tB t):=by
 intro pins s σ H Q I h;show wpAny_isTrue_Compare1 (thn (g _ s σ H _ I h) λv s1 e=>thn e λu k h2=>thn h2 λc l ⟨x,H1,f,j,i⟩=>?_) e;let(d,rfl,q):=i;cases j;show wpAny_truthy_bool ⟨H1,f,q⟩
theorem cF{e:Expr}{t:TE}(c:PE X e t)(f:∀a,isTrue e X.env a=(do let v <- a;standAt e.pos;holding [v] (truthy v)):=by intro _;rfl):PT X e (tB t):=by
 intro pins s σ H Q I g;show isTrue_plain (thn (c _ s σ H _ I g) λv s1 ⟨x,H1,b,i,h⟩=>?_)<|f _;let(d,rfl,q):=h;cases i;show wpAny_truthy_bool ⟨H1,b,q⟩
variable{tA tB':TT}{rest:List Expr}
def GY(t u:TT):TT:=λσ H Q=>t σ H λc H1=>if c=true then u σ H1 Q else Q false H1
def tOr(t u:TT):TT:=λσ H Q=>t σ H λc H1=>if c=true then Q true H1 else u σ H1 Q
def GZ(t:TT):TT:=λσ H Q=>t σ H λc H1=>Q (!c) H1
theorem pw_and1(b:PT X a tA):PW X (.BoolOp .And [a] pos) tA:=by
 intro d pins s σ H Q I h;show isTrue_and<|thn (b _ s σ H Q I h) λc s1 e=>?_;cases c with
 |true=>show isTrue_and_nil e
 |false=>show e
theorem pw_or1(b:PT X a tA):PW X (.BoolOp .Or [a] pos) tA:=by
 intro d pins s σ H Q I h;show isTrue_or<|thn (b _ s σ H Q I h) λc s1 e=>?_;cases c with
 |false=>show isTrue_or_nil e
 |true=>show e
theorem pw_and(f:PT X a tA)(g:PW X (.BoolOp .And (b::rest) pos) tB'):PW X (.BoolOp .And (a::b::rest) pos) (GY tA tB'):=by
 intro j pins s σ H Q I h;show isTrue_and<|thn (f _ s σ H _ I h) λc s1 i=>?_;let(H1,d,e):=i;cases c with
 |true=>show g j _ s1 σ H1 Q d e
 |false=>show⟨H1,d,e⟩
theorem pw_or(f:PT X a tA)(g:PW X (.BoolOp .Or (b::rest) pos) tB'):PW X (.BoolOp .Or (a::b::rest) pos) (tOr tA tB'):=by
 intro j pins s σ H Q I h;show isTrue_or<|thn (f _ s σ H _ I h) λc s1 i=>?_;let(H1,d,e):=i;cases c with
 |true=>show⟨H1,d,e⟩
 |false=>show g j _ s1 σ H1 Q d e
theorem cm(b:PT X a tA):PT X (.UnaryOp .Not a pos) (GZ tA):=by
 intro pins s σ H Q I h;show isTrue_not<|b _ s σ H _ I h
def Fq(a b:TE):TE:=λσ H Q=>a σ H λx H1=>∃c,x=.bl c/\if c=true then b σ H1 Q else Q (.bl false) H1
def Ha(a b:TE):TE:=λσ H Q=>a σ H λx H1=>∃c,x=.bl c/\if c=true then Q (.bl true) H1 else b σ H1 Q
def Fr(a:TE):TE:=λσ H Q=>a σ H λx H1=>∃c,x=.bl c/\Q (.bl<|!c) H1
theorem lD{op}{t:TE}(b:PE X a t):PE X (.BoolOp op [a] pos) t:=λpins s σ H Q I c=>BoolOp_one<|b _ s σ H Q I c
theorem lE(f:PE X a ta)(g:PE X (.BoolOp .And (b::rest) pos) tb):PE X (.BoolOp .And (a::b::rest) pos) (Fq ta tb):=by
 intro pins s σ H Q I h;show BoolOp_and<|thn (f _ s σ H _ I h) λv s1 i=>?_;let(x,H1,e,j,d):=i;let(c,rfl,d):=d;cases j;show wpAny_truthy_bool ?_;cases c with
 |true=>show g _ s1 σ H1 Q e d
 |false=>show{.bl _,H1,e,rfl,d}
theorem Fs(f:PE X a ta)(g:PE X (.BoolOp .Or (b::rest) pos) tb):PE X (.BoolOp .Or (a::b::rest) pos) (Ha ta tb):=by
 intro pins s σ H Q I h;show BoolOp_or<|thn (f _ s σ H _ I h) λv s1 i=>?_;let(x,H1,e,j,d):=i;let(c,rfl,d):=d;cases j;show wpAny_truthy_bool ?_;cases c with
 |false=>show g _ s1 σ H1 Q e d
 |true=>show{.bl _,H1,e,rfl,d}
theorem Cm(e:PE X a ta):PE X (.UnaryOp .Not a pos) (Fr ta):=by
 intro pins s σ H Q I h;show UnaryOp_<|thn (e _ s σ H _ I h) λv s1 f=>?_;let(x,H1,d,g,b):=f;let(c,rfl,b):=b;cases g;show not_of<|wpAny_truthy_bool ⟨.bl _,H1,d,rfl,b⟩
def tIf(t:TT)(a b:TE):TE:=λσ H Q=>t σ H λc H1=>if c=true then a σ H1 Q else b σ H1 Q
theorem fF{c:Expr}(j:PT X c tA)(g:PE X a ta)(i:PE X b tb):PE X (.IfExp c a b pos) (tIf tA ta tb):=by
 intro pins s σ H Q I h;show wpAny_IfExp<|thn (j _ s σ H _ I h) λd s1 k=>?_;let(H1,e,f):=k;cases d with
 |true=>show g _ s1 σ H1 Q e f
 |false=>show i _ s1 σ H1 Q e f
end
def SqL(K:Frag)(H:Hp)(a:zv)(xs:List V):Prop :=
 Rd H a (.lst xs) \/
  ∃(o:Obj) (its:Array zy) (n:Nat),K.lookup a=some o/\o.cls=.type "list"/\o.dict=none/\o.data=.seq its n/\its.size<=sizeLine/\aB xs its.toList
def SqT(K:Frag)(H:Hp)(a:zv)(xs:List V):Prop :=
 Rd H a (.tup xs) \/
  ∃(o:Obj) (its:Array zy) (n:Nat),K.lookup a=some o/\o.cls=.type "tuple"/\o.data=.seq its n/\its.size<=sizeLine/\aB xs its.toList
def Hb:zy->Option V
 |.none=>some .non
 |.bool b=>some<|.bl b
 |.int i _=>some<|.int i
 |.str x _=>some<|.str x
 |.bytes b _=>some<|.byt b
 |.float b _=>some<|.flt b
 |.ref a=>some<|.ref a
 |.type n=>some<|.ty n
 |_=>none
theorem aH.abs{x:V}{u:zy}(r:aH x u):Hb u=some x:=by
 cases x with
 |non=>cases r;rfl
 |bl _=>cases r;rfl
 |int _=>let(t,rfl):=r;rfl
 |str _=>let(t,rfl):=r;rfl
 |byt _=>let(t,rfl):=r;rfl
 |flt _=>let(t,rfl):=r;rfl
 |ref _=>cases r;rfl
 |ty _=>cases r;rfl
theorem aH.inj{x y:V}{u:zy}(r:aH x u)(q:aH y u):x=y:=Option.some.inj<|r.abs.symm.trans q.abs
theorem aB.inj:∀{xs ys:List V}{us:List _},aB xs us->aB ys us->xs=ys
 |_,_,_,.nil,.nil=>rfl
 |_,_,_,.cons r t,.cons r' t'=>by rw[r.inj r',aB.inj t t']
section
variable{X:Cx}{pins:List (zv×Obj)}{σ:St}{H:Hp}{s:zn}{a:zv}{xs ys:List V}
theorem SqL.of{K:Frag}(h:H a=some (.lst xs)):SqL K H a xs:=.inl<|.inl h
theorem SqT.of{K:Frag}(h:H a=some (.tup xs)):SqT K H a xs:=.inl<|.inl h
theorem Inv.list(c:Inv X pins σ H s)(b:SqL X.K H a xs):∃its:List _,aB xs its/\PlainL s.heap a its.toArray/\xs.length<=sizeLine:=by
 rcases b with b|⟨o,its,n,g,d,f,hs,h,r⟩
 .let(z,its,n,r,e):=b.ok c.hok;show{its,r,⟨_,n,e,rfl,rfl,rfl⟩,z}
 .show{its.toList,r,⟨o,n,c.kIn a o g,d,f,by simpa using hs⟩,?_}
  have e:=r.length;simp only[B6]at e
  lia
theorem Inv.tuple(c:Inv X pins σ H s)(b:SqT X.K H a xs):∃its:List _,aB xs its/\IsTup s.heap a its.toArray/\xs.length<=sizeLine:=by
 rcases b with b|⟨o,its,n,f,d,hs,g,r⟩
 .let(z,its,r,p):=b.ok c.hok;show⟨its,r,p,z⟩
 .show{its.toList,r,⟨o,c.kIn a o f,d,n,by simpa using hs⟩,?_}
  have e:=r.length;simp only[B6]at e
  lia
theorem Inv.list_inj(b:Inv X pins σ H s)(h:SqL X.K H a xs)(h':SqL X.K H a ys):xs=ys:=by
 let(its,r,(o,n,e,_,_,d),_):=b.list h;let(its',i,(o',j,f,_,_,c),_):=b.list h';rw[e]at f;cases f;rw[d]at c;injection c with g _
 have:its=its':=by simpa using congrArg toList g
 subst this;show r.inj i
theorem Inv.tuple_inj(b:Inv X pins σ H s)(h:SqT X.K H a xs)(h':SqT X.K H a ys):xs=ys:=by
 let(its,r,(o,e,_,n,d),_):=b.tuple h;let(its',i,(o',f,_,j,c),_):=b.tuple h';rw[e]at f;cases f;rw[d]at c;injection c with g _
 have:its=its':=by simpa using congrArg toList g
 subst this;show r.inj i
end
abbrev Cx.wish(X:Cx)(E:zy->zn->Prop):Cx:={X with xe:=E}
abbrev Cx.nox(X:Cx):Cx:=X.wish λ_ _=>False
theorem Cx.Ok.wish{X:Cx}(a:X.Ok)(E:zy->zn->Prop):(X.wish E).Ok :=
 ⟨a.mod,a.kind,a.glob,a.blt,a.above,a.inj,a.has,a.cab,a.hd,a.frames,a.stk,a.exf,a.bs,a.bsz,a.noex,a.exfs,a.funs,a.frf⟩
theorem Cx.Ok.unwish{X:Cx}{E:zy->zn->Prop}(a:(X.wish E).Ok):X.Ok :=
 ⟨a.mod,a.kind,a.glob,a.blt,a.above,a.inj,a.has,a.cab,a.hd,a.frames,a.stk,a.exf,a.bs,a.bsz,a.noex,a.exfs,a.funs,a.frf⟩
section
variable{X:Cx}{pins:List (zv×Obj)}{σ:St}{H:Hp}{s:zn}{E:zy->zn->Prop}
theorem Inv.wish(I:Inv X pins σ H s)(E:zy->zn->Prop):Inv (X.wish E) pins σ H s:=⟨I.ok.wish E,I.os,I.bare,I.base,I.loc,I.cell,I.free,I.freeC,I.pin,I.hok,I.len⟩
theorem Inv.unwish(I:Inv (X.wish E) pins σ H s):Inv X pins σ H s:=⟨I.ok.unwish,I.os,I.bare,I.base,I.loc,I.cell,I.free,I.freeC,I.pin,I.hok,I.len⟩
theorem SP.unwish{c:Ends}{f:Flow}{s':zn}(b:SP (X.wish E) pins c f s'):SP X pins c f s':=by
 cases f with
 |next=>let(a,H',I,q):=b;show⟨a,H',I.unwish,q⟩
 |brk=>let(a,H',I,q):=b;show⟨a,H',I.unwish,q⟩
 |cont=>let(a,H',I,q):=b;show⟨a,H',I.unwish,q⟩
 |ret u=>let(v,a,H',I,r,q):=b;show⟨v,a,H',I.unwish,r,q⟩
theorem PSs.nox{st:List _}{t:TS}(b:PSs X.nox st t):PSs X st t:=λpins s σ H a I c =>
 wpAny_mono (b _ s σ H a (I.wish _) c) (λ_ _ q=>q.unwish) λ_ _ z=>False.elim z
end
section
variable{X:Cx}{st:Stmt}{rest:List Stmt}{t u:TS}{e:Expr}{te:TE}{pos:Pos}
def Ft:TS:=λD σ H=>D.nx σ H
def vb(t u:TS):TS:=λD σ H=>t {D with nx:=u D} σ H
theorem ax:PSs X [] Ft:=λ_ _ σ H _ I h=>wpAny_execs_nil ⟨σ,H,I,h⟩
theorem af(c:PS X st t)(h2:PSs X rest u):PSs X (st::rest) (vb t u):=by
 intro pins s σ H a I h;show wpAny_execs_cons<|thn (c _ s σ H _ I h) λf s1 q=>?_;cases f with
 |next =>
  let(d,H',b,q):=q;show h2 _ s1 d H' a b q
 |ret v=>show q
 |brk=>show q
 |cont=>show q
theorem am(b:PS X st t):PSs X [st] t:=by
 intro pins s σ H a I h;show wpAny_execs_cons<|thn (b _ s σ H a I h) λf s1 q=>?_;cases f with
 |next=>show wpAny_execs_nil q
 |ret v=>show q
 |brk=>show q
 |cont=>show q
theorem Inv.quiet{b:List _}{c:St}{H:Hp}{s:zn}(a:Inv X b c H s):interactive X.env=false:=by simp[interactive,a.ok.kind]
def Fu(b:TE):TS:=λa σ H=>b σ H λ_ H1=>a.nx σ H1
theorem aZ(b:PE X e te)(c:swapsWith e none pos.line X.env=pure false:=by rfl):PS X (.Expr e pos) (Fu te):=by
 intro pins s σ H f I h;show wpAny_Expr_any (thn (b _ s σ H _ I h) λv s1 ⟨x,H1,a,g,d⟩=>⟨σ,H1,a,d⟩) I.quiet c
def Fv(b:TE):TS:=λa σ H=>b σ H a.rt
theorem ap(b:PE X e te):PS X (.Return (some e) pos) (Fv te):=by
 intro pins s σ H f I h;show wpAny_Return_some<|thn (b _ s σ H _ I h) λv s1 ⟨x,H1,a,d,c⟩=>⟨x,σ,H1,a,d,c⟩
def Hd(c:TT)(t u:TS):TS:=λD σ H=>c σ H λb H1=>if b=true then t D σ H1 else u D σ H1
theorem aQ{c:Expr}{a b:List _}{i:TT}(l:PT X c i)(j:PSs X a t)(k:PSs X b u):PS X (.If c a b pos) (Hd i t u):=by
 intro pins s σ H e I h;show wpAny_If<|thn (l _ s σ H _ I h) λd s1 m=>?_;let(H1,f,g):=m;cases d with
 |true=>show j _ s1 σ H1 e f g
 |false=>show k _ s1 σ H1 e f g
def Cn:TS:=λ_ _ _=>False
theorem aA{a:List _}:PSs X a Cn:=λ_ _ _ _ _ _ h=>h.elim
end
abbrev TG:=V->St->Hp->(St->Hp->Prop)->Prop
abbrev TGs:=List V->St->Hp->(St->Hp->Prop)->Prop
def PG(X:Cx)(b:Expr)(t:TG):Prop :=
 ∀(pins:List<|zv×Obj)(s:zn)(σ:St)(H:Hp)(v:V)(u:zy)(Q:St->Hp->Prop),Inv X pins σ H s->aH v u->t v σ H Q ->
  wpAny (model X.prog X.w) X.A (assign b X.env u) (λ_ s'=>∃a H',Inv X pins a H' s'/\Q a H') X.xe s
def PGs(X:Cx)(b:List Expr)(t:TGs):Prop :=
 ∀(pins:List<|zv×Obj)(s:zn)(σ:St)(H:Hp)(vs:List V)(us:List zy)(Q:St->Hp->Prop),Inv X pins σ H s->aB vs us->t vs σ H Q ->
  wpAny (model X.prog X.w) X.A (assignInOrder ((assignEach b X.env).map (·.2)) us) (λ_ s'=>∃a H',Inv X pins a H' s'/\Q a H') X.xe s
section
variable{X:Cx}{pos:Pos}
def cg(i:Nat):TG:=λv σ H Q=>Q (σ.set i<|some v) H
theorem bf{i:Nat}{x:Str}(b:X.N.Nodup)(d:X.N[i]?=some x)(e:Loc X.env.scope x)(c:X.fn x=true\/X.env.scope.names.lookup x=some .local:=by first|show .inl rfl|show .inr rfl|assumption):PG X (.Name x pos) (cg i):=by
 intro pins s σ H v u Q I r h;show wpAny_assign_Name<|iX I b d e r (λs' a=>⟨_,H,a,h⟩) c
def wG:TGs:=λvs σ H Q=>vs=[]/\Q σ H
inductive gCons(t:TG)(u:TGs)(vs:List V)(σ:St)(H:Hp)(Q:St->Hp->Prop):Prop
 |mk v r (_:vs=v::r) (_:t v σ H λσ' H'=>u r σ' H' Q)
theorem ig:PGs X [] wG:=by
 intro pins s σ H vs us Q I r h;let(e,h):=h;subst e;cases r;show assignInOrder_nil ⟨σ,H,I,h⟩
theorem bO{e:Expr}{a:List _}{t:TG}{u:TGs}(d:PG X e t)(h2:PGs X a u)(f:(assignEach (e::a) X.env).map (·.2)=assign e X.env::(assignEach a X.env).map (·.2):=by rfl):PGs X (e::a) (gCons t u):=by
 intro pins s σ H vs us Q I r h;let(v,k,c,h):=h;subst c;cases r with
 |cons r i =>
  rw[f];show assignInOrder_cons<|thn (d _ s σ H _ _ _ I r h) λ_ s1 ⟨j,H1,b,g⟩=>(h2 _ s1 j H1 _ _ Q b i g)
inductive gTup(K:Frag)(n:Nat)(t:TGs)(v:V)(σ:St)(H:Hp)(Q:St->Hp->Prop):Prop
 |mk a xs (_:v=.ref a) (_:SqT K H a xs) (_:xs.length=n) (_:t xs σ H Q)
theorem jD{c:List _}{k:Nat}{t:TGs}{n:Nat}(i:X.calm=true)(h:PGs X c t)(l:(assignEach c X.env).length=n:=by rfl)(p:(assignEach c X.env).findIdx? (·.1)=none:=by rfl):PG X (.Tuple c k pos) (gTup X.K n t):=by
 intro pins s σ H v u Q I r d;let(a,xs,g,m,j,d):=d;subst g;cases r;let(its,f,q,x):=I.tuple m;show assign_Tuple_tuple (I.ok.hd i) q (by simp[l,<-j,f.length]) p λh' w=>?_;show h _ _ σ H xs _ Q (I.kept (t':=s.toks) λb o e=>w b o (C2<|B5 e) e) (by simpa using f) d
def rP(b:TE)(g:TG):TS:=λa σ H=>b σ H λx H1=>g x σ H1 a.nx
theorem Co{a e:Expr}{b:TE}{g:TG}(f:PE X e b)(i:PG X a g)(j:swapsWithSole [a] e pos.line X.env=pure false:=by rfl)(k:swappedStores [a] e X.env=pure none:=by rfl)(d:(assignEach [a] X.env).map (·.2)=[assign a X.env]:=by rfl):PS X (.Assign [a] e pos) (rP b g):=by
 intro pins s σ H n I h;show wpAny_Assign_stores (thn (f _ s σ H _ I h) λv s1 ⟨x,H1,c,m,l⟩=>?_) j k;rw[d];show thn (i _ s1 σ H1 x v _ c m l) λ_ o q=>q
theorem ar{i:Nat}{x:Str}{e:Expr}{b:TE}{a:Pos}(f:X.N.Nodup)(k:X.N[i]?=some x)(m:Loc X.env.scope x)(g:PE X e b)(l:swapsWith e (some<|.Name x a) pos.line X.env=pure false:=by rfl)(j:X.fn x=true\/X.env.scope.names.lookup x=some .local:=by first|show .inl rfl|show .inr rfl|assumption):
  PS X (.Assign [.Name x a] e pos) (rP b<|cg i):=by
 intro pins s σ H p I h;show wpAny_Assign_Name (thn (g _ s σ H _ I h) λv s1 ⟨y,H1,c,o,n⟩=>(iX c f k m o (λq d=>⟨_,H1,d,n⟩) j)) l
inductive tWhile(c:TT)(tb:TS)(D:Ends)(σ:St)(H:Hp):Prop
 | mk (W:Nat->St->Hp->Prop) (_:(∃m,W m σ H)) (_:∀m σ H,W m σ H ->
 c σ H λb H1=>if b=true then ∃N:St->Hp->Prop,(∀σ' H',N σ' H'->∃m',m'<m/\W m' σ' H')/\tb {D with nx:=N,ct:=N,bk:=D.nx} σ H1 else D.nx σ H1)
theorem qd{c:Expr}{q:List _}{x:TT}{u:TS}(t:PassesOwn (model X.prog X.w) X.A X.env X.xe)(C:PT X c x)(B:PSs X q u):PS X (.While c q [] pos) (tWhile x u):=by
 intro pins s σ H L I h;let(W,(E,J),G):=h;show wpAny_While<|codeAny_whileLoop (λn s'=>∃y H',Inv X _ y H' s'/\W n y H') ?_ E ⟨σ,H,I,J⟩;rintro n s1 ⟨i,H1,z,K⟩;show wpAny_passesOwn t<|thn (C _ s1 i H1 _ z<|G n i H1 K) λb F D=>?_;let(H2,p,e):=D;cases b with
 |true =>
  let(N,r,e):=e;show wpAny_passesOwn t<|thn (B _ F i H2 _ p e) λf M g=>?_;cases f with
  |next =>
   let(d,a,j,m):=g;let(l,k,o):=r d a m;show⟨l,k,d,a,j,o⟩
  |cont =>
   let(d,a,j,m):=g;let(l,k,o):=r d a m;show⟨l,k,d,a,j,o⟩
  |brk=>show g
  |ret v=>show g
 |false =>
  show wpAny_execs_nil ⟨i,H2,p,e⟩
end
structure It where
 go:Nat->Hp->Prop
 yld:Nat->Hp->V->Hp->Prop
 stop:Nat->Hp->Prop
def kT(X:Cx)(a:List<|zv×Obj)(H:Hp)(b:zv):Prop :=
 H b=none/\b≠X.env.locals/\b∉X.fs/\(b∈X.ex\/X.s₀.heap.objs.size<=b)/\(∀x c,X.env.cells.lookup x=some c->c≠b)/\∀p∈X.pn++a,p.1≠b
theorem Inv.fpOk{X:Cx}{g:List _}{i:St}{H f:Hp}{s:zn}{b:zv}(a:Inv X g i H s)(d:s.heap.objs.size<=b)(h:f b=none):kT X g f b:=by
 show{h,F8<|C5 a.lt d,a.nofs d,.inr<|CL a.sz d,λx c e z=>?_,λp hp z=>?_}
 .let(v,q):=a.cell x c e;show absurd (C5 q.lt (by rw[z];show d))<|lt_irrefl _
 .show absurd (C5 (B5 (a.pin p hp).1) (by rw[z];show d))<|lt_irrefl _
structure Turn(P:zi)(w:xr)(K:Frag)(tg:Expr)(J:It)(fp:List zv)(it:zv)(tn:Nat->qq->Prop):Prop where
 mem:it∈fp
 obj:∀i h,tn i h->∀b∈fp,∃o,h.get? b=some o/\∀v,o.data≠.cell v
 keep:∀i h h',tn i h->(∀b∈fp,∀o,h.get? b=some o->h'.get? b=some o)->tn i h'
 item:∀(X:Cx),X.prog=P->X.w=w->X.K=K->X.calm=true->∀(i:Nat)(pins:List<|zv×Obj)(s:zn)(σ:St)(H:Hp)(E:zy->zn->Prop),Inv X pins σ H s->(∀b∈fp,kT X pins H b)->tn i s.heap->J.go i H ->
  wpAny (model P w) X.A (pyNext<|.ref it) (λr s1=>∃u,r=some u /\
   wpAny (model P w) X.A (letOwnedTupleGo tg (.ref it) u) (λ_ s2=>∃x H',Inv X pins σ H' s2/\aH x u/\J.yld i H x H'/\tn (i+1) s2.heap/\∀b∈fp,H' b=none) E s1) E s
 done:∀(X:Cx),X.prog=P->X.w=w->X.K=K->X.calm=true->∀(i:Nat)(pins:List<|zv×Obj)(s:zn)(σ:St)(H:Hp)(E:zy->zn->Prop),Inv X pins σ H s->(∀b∈fp,kT X pins H b)->tn i s.heap->J.stop i H ->
  wpAny (model P w) X.A (pyNext<|.ref it) (λr s1=>r=none/\Inv X pins σ H s1) E s
 self:∀(A:xx)(i:Nat)(s:zn)(Q:zy->zn->Prop)(E:zy->zn->Prop),tn i s.heap->Q (.ref it) s->wpAny (model P w) A (pyIter<|.ref it) Q E s
abbrev TI:=St->Hp->(It->Hp->Prop)->Prop
inductive PIE(X:Cx)(pins:List<|zv×Obj)(σ:St)(tg:Expr)(R:It->Hp->Prop)(itv:zy)(s2:zn):Prop
 |mk (it:zv) (fp:List zv) (tn:Nat->qq->Prop) (J:It) (H':Hp) (_:itv=.ref it) (_:Inv X pins σ H' s2) (_:Turn X.prog X.w X.K tg J fp it tn) (_:tn 0 s2.heap) (_:(∀b∈fp,kT X pins H' b)) (_:R J H')
def PI(X:Cx)(a iter:Expr)(b:TI):Prop :=
 ∀(pins:List<|zv×Obj)(s:zn)(σ:St)(H:Hp)(R:It->Hp->Prop),Inv X pins σ H s->b σ H R ->
  wpAny (model X.prog X.w) X.A (eval iter X.env) (λv s1=>wpAny (model X.prog X.w) X.A (pyIter v) (PIE X pins σ a R) X.xe s1) X.xe s
theorem qe{b:Model}{A:xx}{E:zy->zn->Prop}{s:zn}{d:Expr}{c:zv}{u:zy}{o:Obj}{n:String}{vs:Array _}{Q:Unit->zn->Prop}(i:s.heap.get? c=some o)(e:o.cls=.type n)(f:o.data=.fields vs)(g:["enumerate","zip","dict_itemiterator","dict_reverseitemiterator","odict_iterator","itertools.zip_longest","itertools.pairwise"].contains n=false)(a:Q () s):wpAny b A (letOwnedTupleGo d (.ref c) u) Q E s:=by
 cases d<;>first
  |show Wp a
  | (cases u<;>first
    |show Wp a
    | (show Wb (wpAny_load i ?_)
       rw[e,f];change wpAny b A (if (["enumerate","zip","dict_itemiterator","dict_reverseitemiterator","odict_iterator","itertools.zip_longest","itertools.pairwise"].contains n&&vs[0]?==some _)=true then _ else _) Q E s
       rw[A4 (by intro h;rw[g,Bool.false_and]at h;cases h)];show Wp a))
def Itl(K:Frag)(a:zv):It :=
 {λi H=>∃xs x,SqL K H a xs/\xs[i]?=some x,λi H x H'=>H'=H/\∀xs,SqL K H a xs->xs[i]?=some x,λi H=>∃xs,SqL K H a xs/\xs.length<=i}
def Itt(K:Frag)(a:zv):It :=
 {λi H=>∃xs x,SqT K H a xs/\xs[i]?=some x,λi H x H'=>H'=H/\∀xs,SqT K H a xs->xs[i]?=some x,λi H=>∃xs,SqT K H a xs/\xs.length<=i}
def Itr(lo:Int)(n:Nat):It:={λi _=>i<n,λi H x H'=>H'=H/\x=.int (lo+i),λi _=>n<=i}
theorem nA{P:zi}{w:xr}{K:Frag}{R:Expr}(a it:zv):Turn P w K R (Itl K a) [it] it (λi h=>h.IsListIter it a i) where
 mem:=by simp
 obj:=λi h st b f=>by
  have e:b=it:=by simpa using f
  subst e;let(o,e,c,d):=st;show{o,e,λv z=>by rw[d]at z;cases z}
 keep:=λi h h' st k=>st.at λo e=>k it (by simp) o e
 item:=by
  intro X y B t F i pins s σ H E I g st A;subst y B t;let(xs,x,j,C):=A;let(its,D,p,N):=I.list j;let(u,M,O):=D.get C;let(l,m,L,n,q,r):=g it (by simp);show wpAny_pyNext_list_item st p.isList (x:=u) (by simpa using M) λh' G Q=>?_;let(o,e,c,d):=id G;show{u,rfl,qe e c d (by decide) {x,H,(I.turned (t':=s.toks) (λb o f e=>(Q.2 b f).trans e) l m n q r),O,{rfl,λys hy=>by rw[I.list_inj hy j];show C},G,λb f=>(g b f).1}}
 done:=by
  intro X y B t F i pins s σ H E I g st A;subst y B t;let(xs,j,C):=A;let(its,D,p,N):=I.list j;let(l,m,L,n,q,r):=g it (by simp);have S:=D.length;show wpAny_pyNext_list_end (I.ok.hd F) st p.isList (by simp;lia) λh' J=>{rfl,I.turned (t':=s.toks) (λb o f e=>J b o f e) l m n q r}
 self:=λ_ _ _ _ _ st h=>wpAny_pyIter_listiter st h
theorem lF{P:zi}{w:xr}{K:Frag}{R:Expr}(a it:zv):Turn P w K R (Itt K a) [it] it (λi h=>h.IsTupleIter it a i) where
 mem:=by simp
 obj:=λi h st b f=>by
  have e:b=it:=by simpa using f
  subst e;let(o,e,c,d):=st;show{o,e,λv z=>by rw[d]at z;cases z}
 keep:=λi h h' st k=>st.at λo e=>k it (by simp) o e
 item:=by
  intro X y B t F i pins s σ H E I g st A;subst y B t;let(xs,x,j,C):=A;let(its,D,p,N):=I.tuple j;let(u,M,O):=D.get C;let(l,m,L,n,q,r):=g it (by simp);show wpAny_pyNext_tuple_item st (p) (x:=u) (by simpa using M) λh' G Q=>?_;let(o,e,c,d):=id G;show{u,rfl,qe e c d (by decide) {x,H,(I.turned (t':=s.toks) (λb o f e=>(Q.2 b f).trans e) l m n q r),O,{rfl,λys hy=>by rw[I.tuple_inj hy j];show C},G,λb f=>(g b f).1}}
 done:=by
  intro X y B t F i pins s σ H E I g st A;subst y B t;let(xs,j,C):=A;let(its,D,p,N):=I.tuple j;let(l,m,L,n,q,r):=g it (by simp);have S:=D.length;show wpAny_pyNext_tuple_end (I.ok.hd F) st (p) (by simp;lia) λh' J=>{rfl,I.turned (t':=s.toks) (λb o f e=>J b o f e) l m n q r}
 self:=λ_ _ _ _ _ st h=>wpAny_pyIter_tupleiter st h
theorem rQ{P:zi}{w:xr}{K:Frag}{D:Expr}(it:zv)(lo:Int)(n:Nat):Turn P w K D (Itr lo n) [it] it (λi h=>IsRangeIter h it (lo+(i:Nat)*1) ((n:Int)-(i:Nat)) 1) where
 mem:=by simp
 obj:=λi h st b a=>by
  have e:b=it:=by simpa using a
  subst e;show{_,st,λv z=>by
   cases z}
 keep:=λi h h' st k=>k it (by simp) _ st
 item:=by
  intro X r u q m i pins s σ H E I c st p;subst r u q;let(d,f,A,g,j,l):=c it (by simp);show(Walks.range (prog:=X.prog) (w:=X.w) (I.ok.hd m) it lo 1 n).item i s _ _ p st λv h' tk B x C=>?_;let(t,rfl):=B;show{_,rfl,qe x rfl rfl (by decide) {.int<|lo+i,H,(I.turned (λb o a e=>C b o (by simpa using a) e) d f g j l),{t,?_},⟨rfl,rfl⟩,x,λb a=>(c b a).1}};rw[Int.mul_one]
 done:=by
  intro X r u q m i pins s σ H E I c st p;let(d,f,A,g,j,l):=c it (by simp);show wpAny_pyNext_range_end (I.ok.hd m) st (by have:n<=i:=p;lia) λh' y=>{rfl,I.turned (λb o a e=>y b o a e) d f g j l}
 self:=λ_ _ _ _ _ st h=>wpAny_pyIter_rangeiter st h
section
variable{X:Cx}{tg:Expr}
def Fw(K:Frag)(b:TE):TI:=λσ H R=>b σ H λx H1=>∃a,x=.ref a/\(∃xs,SqL K H1 a xs)/\R (Itl K a) H1
def Cq(K:Frag)(b:TE):TI:=λσ H R=>b σ H λx H1=>∃a,x=.ref a/\(∃xs,SqT K H1 a xs)/\R (Itt K a) H1
theorem bw{l:Expr}{d:TE}(g:PE X l d):PI X tg l (Fw X.K d):=by
 intro pins s σ H R I h;show thn (g _ s σ H _ I h) λv s1 i=>?_;let(x,H1,c,m,k):=i;let(a,e,(xs,j),q):=k;subst e;cases m;let(its,r,p,n):=c.list j;show wpAny_pyIter_list p.isList {s1.heap.objs.size,[s1.heap.objs.size],_,_,H1,rfl,c.kept λb o e=>A0 _ e,nA a _,{_,A5 _ rfl,rfl,rfl},λb f=>?_,q};have e:b=s1.heap.objs.size:=by simpa using f
 subst e;show c.fpOk (A8 _)<|c.hok.fresh (A8 _)
theorem bE{l:Expr}{d:TE}(g:PE X l d):PI X tg l (Cq X.K d):=by
 intro pins s σ H R I h;show thn (g _ s σ H _ I h) λv s1 i=>?_;let(x,H1,c,m,k):=i;let(a,e,(xs,j),q):=k;subst e;cases m;let(its,r,p,n):=c.tuple j;show wpAny_pyIter_tuple (p) {s1.heap.objs.size,[s1.heap.objs.size],_,_,H1,rfl,c.kept λb o e=>A0 _ e,lF a _,{_,A5 _ rfl,rfl,rfl},λb f=>?_,q};have e:b=s1.heap.objs.size:=by simpa using f
 subst e;show c.fpOk (A8 _)<|c.hok.fresh (A8 _)
theorem wH{d:List _}{f:St}{H:Hp}{s:zn}{R:It->Hp->Prop}{E:zy->zn->Prop}{lo a:Int}{t u v:Tok}{tk:Nat}(g:Inv X d f H s)(j:-(2 ^ 62)<=lo)(h2:lo<2 ^ 62)(k:-(2 ^ 62)<=a)(l:a<2 ^ 62)(q:R (Itr lo (a-lo).toNat) H):wpAny (model X.prog X.w) X.A (pyIter<|.ref s.heap.objs.size) (PIE X d f tg R) E {s with heap:=s.heap.push {cls:=.type "range",data:=.fields #[.int lo t,.int a u,.int 1 v]},toks:=tk}:=by
 show wpAny_pyIter_range (IsRange.new ..) (small_one j h2 k l) ?_;have c:Inv X d f H {s with heap:=s.heap.push {cls:=.type "range",data:=.fields #[.int lo t,.int a u,.int 1 v]},toks:=tk}:=g.kept λb o e=>A0 _ e
 show{(s.heap.push _).objs.size,[(s.heap.push _).objs.size],_,_,H,rfl,
  c.kept (t':=tk) λb o e=>A0 _ e,rQ _ lo _,?_,λb m=>?_,q}
 .have h:lo+((0:Nat):Int)*1=lo:=by simp
  have i:(((a-lo).toNat:Nat):Int)-((0:Nat):Int)=Builtin.Range.rangeSize lo a 1:=by rw[rangeSize_one];split<;>lia
  change IsRangeIter _ _ _ _ 1;rw[h,i];show A5 _ rfl
 .have e:b=(s.heap.push {cls:=.type "range",data:=.fields #[.int lo t,.int a u,.int 1 v]}).objs.size:=by simpa using m
  subst e;show c.fpOk (A8 _)<|c.hok.fresh (A8 _)
def Fx(b:TA):TI:=λσ H R=>b σ H λvs H1=>∃a:Int,vs=[.int a]/\-(2 ^ 62)<=a/\a<2 ^ 62/\R (Itr 0 a.toNat) H1
theorem vc{a:Expr}{c:TA}{p pos:Pos}(g:Gl X "range")(i:X.mg "range"=none)(f:PA X [a] c)(j:starEach [a] X.env=[(false,eval a X.env)]:=by rfl):PI X tg (.Call (.Name "range" p) [a] [] pos) (Fx c):=by
 intro pins s σ H R I h;show Call_<|fe I g i boot_range (E3 (thn (f pos _ s σ H _ I h) λus s1 ⟨vs,H1,d,l,b⟩=>?_) j rfl);let(n,e,b,k,q):=b;subst e;cases l with
 |cons r m =>
  cases m;let(t,rfl):=r;show call_range_1<|wH d (by lia) (by lia) b k (by simpa using q)
def He(f:TI)(g:TG)(e:TS):TS:=λa σ H=>f σ H λb H1=>∃W:Nat->Nat->St->Hp->Prop,(∃m,W 0 m σ H1)/\∀i m σ H,W i m σ H ->
 (b.stop i H/\a.nx σ H)\/(b.go i H/\∃N:St->Hp->Prop,(∀d H',N d H'->∃c,c<m/\W (i+1) c d H')/\∀x H',b.yld i H x H'->g x σ H' λh H2=>e {a with nx:=N,ct:=N,bk:=a.nx} h H2)
def oW(a:List zv)(c:qq):List (zv×Obj):=a.filterMap λb=>(c.get? b).map λo=>(b,o)
theorem dq{a:List _}{h:qq}{b:zv}{o:Obj}(c:b∈a)(e:h.get? b=some o):(b,o)∈oW a h:=List.mem_filterMap.mpr {b,c,by rw[e];rfl}
theorem vd{c:List _}{a:qq}{p:zv×Obj}(g:p∈oW c a):p.1∈c/\a.get? p.1=some p.2:=by
 let(b,f,e):=List.mem_filterMap.mp g;cases q:a.get? b with
 |none=>rw[q]at e;cases e
 |some o =>
  rw[q]at e;have d:=Option.some.inj e;subst d;show⟨f,q⟩
theorem Inv.pinned{c:List _}{i:St}{H:Hp}{s:zn}{a:List _}(f:Inv X c i H s)(m:∀b∈a,kT X c H b)(n:∀b∈a,∃o,s.heap.get? b=some o/\∀v,o.data≠.cell v):Inv X (c++oW a s.heap) i H s :=
 f.pins_of λp hp=>(C6.mp hp).elim (λz=>f.pin p<|CH _ z) λz=>by
  let(h,e):=vd z;let(j,k,l,_):=m p.1 h;let(o,g,d):=n p.1 h;rw[e]at g;cases g;show⟨e,j,k,l,d⟩
theorem Inv.unpinned{b pl:List _}{c:St}{H:Hp}{s:zn}(a:Inv X (b++pl) c H s):Inv X b c H s:=a.pins_of λp hp=>a.pin p<|CH _ (CT _ hp)
theorem fZ{iter:Expr}{K:List _}{V:TI}{g:TG}{S:TS}{pos:Pos}(p:PassesOwn (model X.prog X.w) X.A X.env X.xe)(O:X.calm=true)(a7:PI X tg iter V)(a6:PG X tg g)(j:PSs X K S)(b1:∀x,foldedSetIterable iter X.env x=pure x:=by intro _;rfl):PS X (.For tg iter K [] pos) (He V g S):=by
 intro pins s σ H d4 I h;show wpAny_For (thn (a7 pins s σ H _ I h) λv s1 h1=>thn h1 λd7 d8 h2=>?_) b1;let(d6,fp,U,d5,H2,e,Z,T,c6,L,W,(b3,c8),c7):=h2;subst e;have F:∀{H':Hp},(∀b∈fp,H' b=none)->∀b∈fp,kT X pins H' b:=λa9 b j=>{a9 b j,(L b j).2};show codeAny_forLoop_any (λn s'=>∃i y H',Inv X pins y H' s'/\U i s'.heap/\(∀b∈fp,H' b=none)/\W i n y H') ?_ b3 {0,σ,H2,Z,c6,λb j=>(L b j).1,c8};rintro n P ⟨i,z,B,J,R,M,c9⟩;rcases c7 i n z B c9 with⟨stop,c1⟩|⟨go,N,a5,step⟩
 .show wpAny_passesOwn p<|thn (T.done X rfl rfl rfl O i pins P z B X.xe J (F M) R stop) λr c4 q=>?_;let(C,a0):=q;subst C;show wpAny_execs_nil ⟨z,B,a0,c1⟩
 .show wpAny_passesOwn p<|thn (T.item X rfl rfl rfl O i pins P z B X.xe J (F M) R go) λr c4 q=>?_;let(u,C,a4):=q;subst C;show wpAny_passesOwn p<|thn a4 λ_ Q q=>?_;let(x,G,a1,c2,d2,E,a3):=q;show wpAny_passesOwn p<|thn (a6 _ Q z G x u _ (a1.pinned (F a3)<|T.obj _ _ E) c2<|step x G d2) λ_ c5 ⟨d3,Y,a2,c0⟩=>(wpAny_passesOwn p<|thn (j _ c5 d3 Y _ a2 c0) λf D l=>?_);have again:∀{k:St}{a:Hp},Inv X (pins++oW fp Q.heap) k a D->N k a->∃m,m<n/\∃i y H',Inv X pins y H' D/\U i D.heap/\(∀b∈fp,H' b=none)/\W i m y H':=λ{k a} c t=>by
   let(b2,a8,d0):=a5 k a t;show{b2,a8,i+1,k,a,c.unpinned,T.keep _ _ _ E λb j o e=>(c.pin (b,o)<|CH _ (CH _<|dq j e)).1,λb j=>?_,d0};let(o,e,d):=T.obj _ _ E b j;show(c.pin (b,o)<|CH _ (CH _<|dq j e)).2.1
  cases f with
  |next=>let(k,a,c,t):=l;show again c t
  |cont=>let(k,a,c,t):=l;show again c t
  |brk=>let(k,a,c,l):=l;show⟨k,a,c.unpinned,l⟩
  |ret v=>let(d1,k,a,c,c3,l):=l;show⟨d1,k,a,c.unpinned,c3,l⟩
end
abbrev zU(J:It)(g:TG)(e:TS)(b:Ends)(a:St)(H:Hp):Prop:=∃W:Nat->Nat->St->Hp->Prop,(∃m,W 0 m a H)/\∀i m a H,W i m a H ->
   (J.stop i H/\b.nx a H)\/(J.go i H/\∃N:St->Hp->Prop,(∀d H',N d H'->∃c,c<m/\W (i+1) c d H')/\∀x H',J.yld i H x H'->g x a H' λf H2=>e {b with nx:=N,ct:=N,bk:=b.nx} f H2)
theorem rR{J:It}{n:Nat}{d:Nat->V->Prop}{g:TG}{e:TS}{b:Ends}{a:St}{H:Hp}(Pv:Nat->St->Hp->Prop)(f:Pv 0 a H)(k:∀i a H,i<n->Pv i a H->J.go i H/\∀x H',J.yld i H x H'->H'=H/\d i x)(j:∀a H,Pv n a H->J.stop n H)(l:∀i x a H,i<n->d i x->Pv i a H->g x a H λq H2=>e {b with nx:=Pv<|i+1,ct:=Pv<|i+1,bk:=b.nx} q H2)(h:∀a H,Pv n a H->b.nx a H):zU J g e b a H:=by
 show{λi m a H=>m=n-i/\i<=n/\Pv i a H,⟨n,rfl,CI _,f⟩,?_};rintro i m a H ⟨rfl,hi,p⟩;rcases Nat.lt_or_eq_of_le hi with c|rfl
 .let(h1,h2):=k i a H c p;show .inr {h1,Pv _,λr H' o=>{n-(i+1),Nat.sub_lt_sub_left c<|lt_succ_self i,rfl,c,o},λx H' y=>?_};let(rfl,z):=h2 x H' y;show l i x a _ c z p
 .show .inl ⟨j a H p,h a H p⟩
theorem gH{K:Frag}{a:zv}{xs:List V}{g:TG}{f:TS}{c:Ends}{b:St}{H:Hp}(Pv:Nat->St->Hp->Prop)(j:Pv 0 b H)(d:∀i b H,i<=xs.length->Pv i b H->SqL K H a xs)(l:∀i x b H,xs[i]?=some x->Pv i b H->g x b H λm H2=>f {c with nx:=Pv<|i+1,ct:=Pv<|i+1,bk:=c.nx} m H2)(k:∀b H,Pv xs.length b H->c.nx b H):zU (Itl K a) g f c b H :=
 rR Pv j (λi b H h p=>have q:=d i b H (F1 h) p;{{xs,xs[i],q,A2 h},λ_ _ ⟨e,y⟩=>⟨e,y xs q⟩}) (λb H p=>{xs,d _ b H (A8 _) p,A8 _}) (λi x b H _=>l i x b H) k
theorem oX{K:Frag}{a:zv}{xs:List V}{g:TG}{f:TS}{c:Ends}{b:St}{H:Hp}(Pv:Nat->St->Hp->Prop)(j:Pv 0 b H)(d:∀i b H,i<=xs.length->Pv i b H->SqT K H a xs)(l:∀i x b H,xs[i]?=some x->Pv i b H->g x b H λm H2=>f {c with nx:=Pv<|i+1,ct:=Pv<|i+1,bk:=c.nx} m H2)(k:∀b H,Pv xs.length b H->c.nx b H):zU (Itt K a) g f c b H :=
 rR Pv j (λi b H h p=>have q:=d i b H (F1 h) p;{{xs,xs[i],q,A2 h},λ_ _ ⟨e,y⟩=>⟨e,y xs q⟩}) (λb H p=>{xs,d _ b H (A8 _) p,A8 _}) (λi x b H _=>l i x b H) k
theorem vg{lo:Int}{n:Nat}{g:TG}{c:TS}{b:Ends}{a:St}{H:Hp}(Pv:Nat->St->Hp->Prop)(d:Pv 0 a H)(j:∀i a H,i<n->Pv i a H->g (.int<|lo+i) a H λk H2=>c {b with nx:=Pv<|i+1,ct:=Pv<|i+1,bk:=b.nx} k H2)(f:∀a H,Pv n a H->b.nx a H):zU (Itr lo n) g c b a H :=
 rR Pv d (λi a H h _=>{h,λ_ _ y=>y}) (λa H p=>A8 _) (λi x a H h e=>e ▸ j i a H h) f
theorem qf{c:TT}{h:TS}{f:Ends}{a:St}{H:Hp}(Pv:St->Hp->Prop)(e:St->Hp->Nat)(i:Pv a H)(j:∀a H,Pv a H->c a H λb H1=>if b=true then h {f with nx:=λd H'=>Pv d H'/\e d H'<e a H,ct:=λd H'=>Pv d H'/\e d H'<e a H,bk:=f.nx} a H1 else f.nx a H1)(k:∀a H Q g,(∀b H1,Q b H1->g b H1)->c a H Q->c a H g):tWhile c h f a H:=by
 show{λm a H=>m=e a H/\Pv a H,⟨_,rfl,i⟩,?_};rintro m a H ⟨rfl,p⟩;show k a H _ _ (λb H1 q=>?_)<|j a H p;cases b with
 |true=>show{_,λd H' ⟨n,l⟩=>⟨_,l,rfl,n⟩,q}
 |false=>show q
abbrev R2:=V->V->Hp->VK->Prop
def OpR(X:Cx)(f:zy->zy->Sem zy)(r:R2):Prop :=
 ∀(pins:List<|zv×Obj)(s:zn)(σ:St)(H:Hp)(x y:V)(v u:zy)(Q:VK),Inv X pins σ H s->aH x v->aH y u->r x y H Q ->
  wpAny (model X.prog X.w) X.A (f v u) (EP X pins σ Q) X.xe s
def UnR(X:Cx)(f:zy->Sem zy)(r:V->Hp->VK->Prop):Prop :=
 ∀(pins:List<|zv×Obj)(s:zn)(σ:St)(H:Hp)(x:V)(v:zy)(Q:VK),Inv X pins σ H s->aH x v->r x H Q ->
  wpAny (model X.prog X.w) X.A (f v) (EP X pins σ Q) X.xe s
def cq(X:Cx)(f:zy)(r:List V->Hp->VK->Prop):Prop :=
 ∀(pins:List<|zv×Obj)(s:zn)(σ:St)(H:Hp)(xs:List V)(us:List zy)(Q:VK),Inv X pins σ H s->aB xs us->r xs H Q ->
  wpAny (model X.prog X.w) X.A (call f us) (EP X pins σ Q) X.xe s
def Hf(X:Cx)(r:V->Hp->(Bool->Hp->Prop)->Prop):Prop :=
 ∀(pins:List<|zv×Obj)(s:zn)(σ:St)(H:Hp)(x:V)(v:zy)(Q:Bool->Hp->Prop),Inv X pins σ H s->aH x v->r x H Q ->
  wpAny (model X.prog X.w) X.A (truthy v) (TP X pins σ Q) X.xe s
def tOp(r:R2)(a b:TE):TE:=λσ H Q=>a σ H λx H1=>b σ H1 λy H2=>r x y H2 Q
def tUn(r:V->Hp->VK->Prop)(a:TE):TE:=λσ H Q=>a σ H λx H1=>r x H1 Q
inductive rI(C:Int->Int->Prop)(g:Int->Int->V)(x y:V)(H:Hp)(Q:VK):Prop
 |mk i j (_:x=.int i) (_:y=.int j) (_:C i j) (_:Q (g i j) H)
inductive rI0(g:Int->Int->V)(x y:V)(H:Hp)(Q:VK):Prop
 |mk i j (_:x=.int i) (_:y=.int j) (_:Q (g i j) H)
inductive rU(g:Int->V)(x:V)(H:Hp)(Q:VK):Prop
 |mk i (_:x=.int i) (_:Q (g i) H)
section
variable{X:Cx}{a b c:Expr}{ta tb tc:TE}{pos:Pos}
theorem Cr(k:PE X a ta)(l:PE X b tb){e:List _}{s:zn}{c:St}{H:Hp}{R:V->V->Hp->Prop}(g:Inv X e c H s)(j:ta c H λx H1=>tb c H1 λy H2=>R x y H2){Q:zy->zn->Prop}{f:zy->zy->Sem _}(m:∀v u d x y H2,Inv X e c H2 d->aH x v->aH y u->R x y H2->wpAny (model X.prog X.w) X.A (f v u) Q X.xe d):
  wpAny (model X.prog X.w) X.A (eval a X.env) (λv t=>wpAny (model X.prog X.w) X.A (eval b X.env) (λu z=>wpAny (model X.prog X.w) X.A (f v u) Q X.xe z) X.xe t) X.xe s:=by
 show thn (k _ s c H _ g j) λv s1 ⟨x,H1,h,q,o⟩=>(thn (l _ s1 c H1 _ h o) λu d n=>?_);let(y,H2,i,r,p):=n;show m v u d x y H2 i q r p
theorem aO{op:Operator}{r:R2}(f:OpR X (binaryOp op) r)(d:PE X a ta)(e:PE X b tb):PE X (.BinOp a op b pos) (tOp r ta tb):=by
 intro pins s σ H Q I h;show wpAny_BinOp<|Cr d e I h λv u j x y H2 c g i q=>f _ j σ H2 x y v u Q c g i q
theorem wI{op:UnaryOp}{r:V->Hp->VK->Prop}(d:UnR X (unaryOp op) r)(c:PE X a ta):PE X (.UnaryOp op a pos) (tUn r ta):=by
 intro pins s σ H Q I h;show UnaryOp_<|thn (c _ s σ H _ I h) λv s1 ⟨x,H1,b,f,e⟩=>d _ s1 σ H1 x v Q b f e
theorem opI{f:zy->zy->Sem _}{C:Int->Int->Prop}{g:Int->Int->Int}(rule:∀(i j:Int) (t u:Tok) (s:zn) (Q:zy->zn->Prop) (E:zy->zn->Prop),C i j->Q (.int (g i j) s.toks) {s with toks:=s.toks+1}->wpAny (model X.prog X.w) X.A (f (.int i t)<|.int j u) Q E s):
  OpR X f (rI C λi j=>.int<|g i j):=by
 intro pins s σ H x y v u Q I b c h;let(i,j,rfl,rfl,a,q):=h;let(t,rfl):=b;let(d,rfl):=c;show rule i j t d s _ _ a ⟨.int _,H,I.tok _,⟨_,rfl⟩,q⟩
theorem Hg{f:zy->zy->Sem _}{g:Int->Int->Int}(rule:∀(i j:Int) (t u:Tok) (s:zn) (Q:zy->zn->Prop) (E:zy->zn->Prop),Q (.int (g i j) s.toks) {s with toks:=s.toks+1}->wpAny (model X.prog X.w) X.A (f (.int i t)<|.int j u) Q E s):
  OpR X f (rI0 λi j=>.int<|g i j):=by
 intro pins s σ H x y v u Q I a b h;let(i,j,rfl,rfl,q):=h;let(t,rfl):=a;let(c,rfl):=b;show rule i j t c s _ _ ⟨.int _,H,I.tok _,⟨_,rfl⟩,q⟩
theorem Cs{f:zy->zy->Sem _}{g:Int->Int->Bool}(rule:∀(i j:Int) (t u:Tok) (s:zn) (Q:zy->zn->Prop) (E:zy->zn->Prop),Q (.bool<|g i j) s->wpAny (model X.prog X.w) X.A (f (.int i t)<|.int j u) Q E s):
  OpR X f (rI0 λi j=>.bl<|g i j):=by
 intro pins s σ H x y v u Q I a b h;let(i,j,rfl,rfl,q):=h;let(t,rfl):=a;let(c,rfl):=b;show rule i j t c s _ _ ⟨.bl _,H,I,rfl,q⟩
def Hh(i j:Int):Prop:=0<j/\j<1073741824
def Ct(i j:Int):Prop:=(-(2 ^ 64)<i/\i<2 ^ 64)\/(-(2 ^ 64)<j/\j<2 ^ 64)
theorem Ct.ok{i j:Int}(h:Ct i j):IntMulOk i j:=by
 rcases h with⟨h1,h2⟩|⟨h1,h2⟩
 .show .of_left<|intBits_le_64 h1 h2
 .show .of_right<|intBits_le_64 h1 h2
theorem bT:OpR X (binaryOp .Add) (rI0 λi j=>.int<|i+j):=Hg λ_ _ _ _ _ _ _ q=>add_int q
theorem gf:OpR X (binaryOp .Mult) (rI Ct λi j=>.int<|i*j):=opI λ_ _ _ _ _ _ _ a q=>mul_int q a.ok
theorem zV:OpR X (binaryOp .FloorDiv) (rI Hh λi j=>.int<|i / j):=opI λi j _ _ _ _ _ a q=>by
 have h1:=a.1;have h2:=a.2;show floordiv_int (by lia) (by rw[Int.fdiv_eq_ediv_of_nonneg i (by lia)];show q)<|.inl (PyProof.noPylong_small (by lia))
theorem oY:OpR X (binaryOp .Mod) (rI (λ_ j=>0<j) λi j=>.int<|i % j):=opI λi j _ _ _ _ _ a q=>by
 show mod_int' (by lia) (by rw[Int.fmod_eq_emod_of_nonneg i (by lia)];show q)
theorem unI{f:zy->Sem _}{g:Int->Int}(rule:∀(i:Int) (t:Tok) (s:zn) (Q:zy->zn->Prop) (E:zy->zn->Prop),Q (.int (g i) s.toks) {s with toks:=s.toks+1}->wpAny (model X.prog X.w) X.A (f<|.int i t) Q E s):
  UnR X f (rU λi=>.int<|g i):=by
 intro pins s σ H x v Q I a h;let(i,rfl,q):=h;let(t,rfl):=a;show rule i t s _ _ ⟨.int _,H,I.tok _,⟨_,rfl⟩,q⟩
theorem rS:UnR X (unaryOp .USub) (rU λi=>.int<|-i):=unI λ_ _ _ _ _ q=>neg_int q
end
def Fy:V->V->Bool
 |.non,.non=>true | .non,.int _=>true | .int _,.non=>true | .non,.bl _=>true | .bl _,.non=>true | .non,.str _=>true | .str _,.non=>true
 |.int _,.int _=>true | .bl _,.bl _=>true | .str _,.str _=>true | .byt _,.byt _=>true
 |.int _,.str _=>true | .str _,.int _=>true | .bl _,.str _=>true | .str _,.bl _=>true
 |_,_=>false
def rEq:R2:=λx y H Q=>Fy x y=true/\Q (.bl<|decide (x=y)) H
def rNe:R2:=λx y H Q=>Fy x y=true/\Q (.bl<|!decide (x=y)) H
theorem tH{i j:Int}:decide (V.int i=V.int j)=(i==j):=by
 rw[D3];simp
theorem wJ{i j:Bool}:decide (V.bl i=V.bl j)=(i==j):=by
 rw[D3];simp
theorem tI{i j:Str}:decide (V.str i=V.str j)=(i==j):=by
 rw[D3];simp
theorem tJ{i j:Array _}:decide (V.byt i=V.byt j)=(i.toList==j.toList):=by
 rw[D3];cases i;cases j;simp
section
variable{X:Cx}{a b c:Expr}{ta tb tc:TE}{pos:Pos}
theorem aY{b:List _}{c:St}{H:Hp}{s:zn}{Q:VK}{k a:Bool}(d:Inv X b c H s)(q:Q (.bl k) H)(e:k=a):EP X b c Q (.bool a) s:=by
 subst e;show{.bl k,H,d,rfl,q}
theorem cT:OpR X (compareOp .Eq) rEq:=by
 intro pins s σ H x y v u Q I d a h;let(hs,q):=h;cases x with
 |non =>
  cases d;cases y with
  |non=>cases a;show PySem.EqNone.eq_none_none<|aY I q (by simp)
  |bl b=>cases a;show PySem.EqNone.eq_none_bool<|aY I q (by simp)
  |int b=>let(c,rfl):=a;show PySem.EqNone.eq_none_int<|aY I q (by simp)
  |str b=>let(c,rfl):=a;show PySem.EqNone.eq_none_str<|aY I q (by simp)
  |_=>show absurd (hs) C4
 |bl i =>
  cases d;cases y with
  |non=>cases a;show PySem.EqNone.eq_bool_none<|aY I q (by simp)
  |bl b=>cases a;show eq_bool<|aY I q wJ
  |str b=>let(c,rfl):=a;show PySem.EqMixed.eq_bool_str<|aY I q (by simp)
  |_=>show absurd (hs) C4
 |int i =>
  let(t,rfl):=d;cases y with
  |non=>cases a;show PySem.EqNone.eq_int_none<|aY I q (by simp)
  |int b=>let(c,rfl):=a;show eq_int<|aY I q tH
  |str b=>let(c,rfl):=a;show PySem.EqMixed.eq_int_str<|aY I q (by simp)
  |_=>show absurd (hs) C4
 |str i =>
  let(t,rfl):=d;cases y with
  |non=>cases a;show PySem.EqNone.eq_str_none<|aY I q (by simp)
  |bl b=>cases a;show PySem.EqMixed.eq_str_bool<|aY I q (by simp)
  |int b=>let(c,rfl):=a;show PySem.EqMixed.eq_str_int<|aY I q (by simp)
  |str b=>let(c,rfl):=a;show eq_str<|aY I q tI
  |_=>show absurd (hs) C4
 |byt i =>
  let(t,rfl):=d;cases y with
  |byt b=>let(c,rfl):=a;show PySem.W.eq_bytes<|aY I q tJ
  |_=>show absurd (hs) C4
 |_=>cases y<;>show absurd (hs) C4
theorem eG:OpR X (compareOp .NotEq) rNe:=by
 intro pins s σ H x y v u Q I d a h;let(hs,q):=h;cases x with
 |non =>
  cases d;cases y with
  |non=>cases a;show PySem.EqNone.ne_none_none<|aY I q (by simp)
  |bl b=>cases a;show PySem.EqNone.ne_none_bool<|aY I q (by simp)
  |int b=>let(c,rfl):=a;show PySem.EqNone.ne_none_int<|aY I q (by simp)
  |str b=>let(c,rfl):=a;show PySem.EqNone.ne_none_str<|aY I q (by simp)
  |_=>show absurd (hs) C4
 |bl i =>
  cases d;cases y with
  |non=>cases a;show PySem.EqNone.ne_bool_none<|aY I q (by simp)
  |bl b=>cases a;show ne_bool<|aY I q (congrArg not wJ)
  |str b=>let(c,rfl):=a;show PySem.EqMixed.ne_bool_str<|aY I q (by simp)
  |_=>show absurd (hs) C4
 |int i =>
  let(t,rfl):=d;cases y with
  |non=>cases a;show PySem.EqNone.ne_int_none<|aY I q (by simp)
  |int b=>let(c,rfl):=a;show ne_int<|aY I q (congrArg not tH)
  |str b=>let(c,rfl):=a;show PySem.EqMixed.ne_int_str<|aY I q (by simp)
  |_=>show absurd (hs) C4
 |str i =>
  let(t,rfl):=d;cases y with
  |non=>cases a;show PySem.EqNone.ne_str_none<|aY I q (by simp)
  |bl b=>cases a;show PySem.EqMixed.ne_str_bool<|aY I q (by simp)
  |int b=>let(c,rfl):=a;show PySem.EqMixed.ne_str_int<|aY I q (by simp)
  |str b=>let(c,rfl):=a;show ne_str<|aY I q (congrArg not tI)
  |_=>show absurd (hs) C4
 |byt i =>
  let(t,rfl):=d;cases y with
  |byt b=>let(c,rfl):=a;show PySem.W.ne_bytes<|aY I q (congrArg not tJ)
  |_=>show absurd (hs) C4
 |_=>cases y<;>show absurd (hs) C4
theorem wK:OpR X (compareOp .Lt) (rI0 λi j=>.bl<|decide (i<j)):=Cs λ_ _ _ _ _ _ _ q=>lt_int q
theorem kF:OpR X (compareOp .LtE) (rI0 λi j=>.bl<|decide (i<=j)):=Cs λ_ _ _ _ _ _ _ q=>le_int q
theorem Fz:OpR X (compareOp .Gt) (rI0 λi j=>.bl<|decide (j<i)):=Cs λ_ _ _ _ _ _ _ q=>gt_int q
theorem nB:OpR X (compareOp .In) (λx y H Q=>∃i j,x=.str i/\y=.str j/\Q (.bl<|!(Builtin.Str.occurrences j i 0 j.length 1).isEmpty) H):=by
 intro pins s σ H x y v u Q I a b h;let(i,j,rfl,rfl,q):=h;let(t,rfl):=a;let(c,rfl):=b;show in_str<|aY I q rfl
theorem iC:OpR X (compareOp .Is) (λx y H Q=>y=.non/\Q (.bl<|decide (x=.non)) H):=by
 intro pins s σ H x y v u Q I a b h;let(rfl,q):=h;cases b;show is_none_gen<|aY I q ?_;cases x<;>first
  |(cases a;rfl)
  |(let(t,rfl):=a;rfl)
theorem oZ:OpR X (compareOp .IsNot) (λx y H Q=>y=.non/\Q (.bl<|!decide (x=.non)) H):=by
 intro pins s σ H x y v u Q I a b h;let(rfl,q):=h;cases b;show isnot_none_gen<|aY I q ?_;cases x<;>first
  |(cases a;rfl)
  |(let(t,rfl):=a;rfl)
theorem OpR.or{f:zy->zy->Sem _}{r a:R2}(d:OpR X f r)(h':OpR X f a):OpR X f (λx y H Q=>r x y H Q\/a x y H Q):=by
 intro pins s σ H x y v u Q I b c q;rcases q with q|q
 .show d _ s σ H x y v u Q I b c q
 .show h' _ s σ H x y v u Q I b c q
theorem av(b:Expr){op:CmpOp}(d:op≠.In:=by decide)(h2:op≠.NotIn:=by decide):behindInMarks op b=false:=by
 have a:(op==CmpOp.In)=false:=by cases op<;>first|rfl|show absurd rfl d
 have c:(op==CmpOp.NotIn)=false:=by cases op<;>first|rfl|show absurd rfl h2
 cases b<;>simp[behindInMarks,a,c]
theorem eR{op:CmpOp}{r:R2}(g:OpR X (compareOp op) r)(d:PE X a ta)(e:PE X b tb)(f:behindInMarks op b=false):PE X (.Compare a [op] [b] pos) (tOp r ta tb):=by
 intro pins s σ H Q I h;show wpAny_Compare1 (Cr d e I h λv u k x y H2 c i j q=>g _ k σ H2 x y v u Q c i j q) f
def BJ(t:TE):TT:=λσ H Q=>t σ H λx H'=>∃k,x=.bl k/\Q k H'
theorem aq{op:CmpOp}{r:R2}(n:OpR X (compareOp op) r)(j:PE X a ta)(l:PE X b tb)(m:behindInMarks op b=false):PT X (.Compare a [op] [b] pos) (BJ<|tOp r ta tb):=by
 intro pins s σ H Q I h;show wpAny_isTrue_Compare1 (thn (j _ s σ H _ I h) λv s1 ⟨x,H1,f,t,o⟩=>thn (l _ s1 σ H1 _ f o) λu B ⟨y,H2,g,w,p⟩ =>
  thn (n _ B σ H2 x y v u _ g t w p) λc C ⟨z,d,i,A,k,e,q⟩=>?_) m
 subst e;cases A;show wpAny_truthy_bool ⟨d,i,q⟩
def wL(r c:R2)(d e f:TE):TE:=λσ H Q=>d σ H λx H1=>e σ H1 λy H2=>r x y H2 λz a=>∃k,z=.bl k /\
 (if k=true then f σ a λg b=>c y g b Q else Q (.bl false) a)
theorem wM{op f:CmpOp}{r l:R2}(C:OpR X (compareOp op) r)(D:OpR X (compareOp f) l)(t:PE X a ta)(w:PE X b tb)(A:PE X c tc)(B:lastMarks [op,f] [b,c]=false:=by with_unfolding_all rfl):PE X (.Compare a [op,f] [b,c] pos) (wL r l ta tb tc):=by
 intro pins s σ H Q I h;show Compare_chain (thn (t _ s σ H _ I h) λv s1 ⟨x,H1,o,J,E⟩=>chain_link (thn (w _ s1 σ H1 _ o E) λu M ⟨y,H2,p,m,F⟩ =>
  thn (C _ M σ H2 x y v u _ p J m F) λd N ⟨z,g,i,K,k,e,j⟩=>?_)) B
 subst e;cases K;show wpAny_truthy_bool ?_;cases k with
 |false=>show ite_ff ⟨.bl _,g,i,rfl,j⟩
 |true=>show ite_tt<|chain_last (thn (A _ N σ g _ i j) λP O ⟨R,n,q,L,G⟩=>D _ O σ n y R u P Q q m L G)
theorem lG{op f:CmpOp}{r l:R2}(G:OpR X (compareOp op) r)(J:OpR X (compareOp f) l)(C:PE X a ta)(D:PE X b tb)(E:PE X c tc)(F:lastMarks [op,f] [b,c]=false:=by with_unfolding_all rfl):PT X (.Compare a [op,f] [b,c] pos) (BJ<|wL r l ta tb tc):=by
 intro pins s σ H Q I h;show isTrue_chain (thn (C _ s σ H _ I h) λv s1 ⟨x,H1,p,R,M⟩=>test_link (thn (D _ s1 σ H1 _ p M) λu V ⟨y,H2,q,m,N⟩ =>
  thn (G _ V σ H2 x y v u _ q R m N) λd W ⟨z,g,i,S,k,e,j⟩=>?_)) F
 subst e;cases S;show wpAny_truthy_bool ?_;cases k with
 |false =>
  let(a2,A,L):=j;cases A;show ite_ff ⟨g,i,L⟩
 |true =>
  show ite_tt<|test_last (thn (E _ W σ g _ i j) λZ Y ⟨a0,n,t,T,O⟩=>thn (J _ Y σ n y a0 u Z _ t m T O) λa1 a3 K=>?_);let(a4,o,w,U,k2,B,P):=K;subst B;cases U;show wpAny_truthy_bool ⟨o,w,P⟩
def FA(K:Frag)(x:V)(H:Hp)(k:Bool):Prop :=
 match x with
 |.non=>k=false
 |.bl b=>k=b
 |.int i=>k=(i != 0)
 |.str y=>y.length<=sizeLine/\k=((y.length:Int) != 0)
 |.byt y=>y.size<=sizeLine/\k=((y.size:Int) != 0)
 |.ref p=>(∃xs,SqL K H p xs/\k = !xs.isEmpty)\/(∃xs,SqT K H p xs/\k = !xs.isEmpty)\/∃kvs,H p=some (.dK kvs)/\k = !kvs.isEmpty
 |_=>False
theorem rT{κ:Type}{kvs:List (κ×V)}{vs:List _}(r:KV kvs vs):(!vs.isEmpty) = !kvs.isEmpty:=by
 cases r<;>rfl
theorem lH{xs:List V}{a:List _}(r:aB xs a):(!a.toArray.isEmpty) = !xs.isEmpty:=by
 cases r<;>simp
theorem jE:sizeLine<2 ^ 63:=by decide
theorem Cu:Hf X (λx H Q=>∃k,FA X.K x H k/\Q k H):=by
 intro pins s σ H x v Q I c h;let(k,e,q):=h;have l:=jE;have hs:sizeLine=16777216:=sizeLine_eq;cases x with
 |non =>
  cases c;subst e;show truthy_none ⟨H,I,q⟩
 |bl b =>
  cases c;subst e;show wpAny_truthy_bool ⟨H,I,q⟩
 |int i =>
  let(t,rfl):=c;subst e;show PySem.P.truthy_int ⟨H,I,q⟩
 |str y =>
  let(t,rfl):=c;obtain⟨hy,a⟩:y.length<=sizeLine/\k=((y.length:Int) != 0):=e;subst a;show PySem.P.truthy_str (by lia) ⟨H,I.tok _,q⟩
 |byt y =>
  let(t,rfl):=c;obtain⟨hy,a⟩:y.size<=sizeLine/\k=((y.size:Int) != 0):=e;subst a;show PySem.W.truthy_bytes (by lia) ⟨H,I.tok _,q⟩
 |ref p =>
  cases c;have a:(∃xs,SqL X.K H p xs/\k = !xs.isEmpty)\/(∃xs,SqT X.K H p xs/\k = !xs.isEmpty)\/∃kvs,H p=some (.dK kvs)/\k = !kvs.isEmpty:=e;rcases a with⟨xs,d,a⟩|⟨xs,d,a⟩|⟨kvs,d,a⟩
  .subst a;let(its,r,pl,g):=I.list d;have f:=r.length;show wpAny_truthy_list pl.isList (by simp only[B2];lia) {H,I.tok _,by rw[lH r];show q}
  .subst a;let(its,r,pl,g):=I.tuple d;have f:=r.length;show truthy_tuple pl (by simp only[B2];lia) {H,I.tok _,by rw[lH r];show q}
  .subst a;obtain⟨g,j,vs,r,m⟩:kvs.length<=sizeLine/\(p==sysModules)=false/\∃vs,KV kvs vs/\s.heap.DictOf (aR X.prog X.w) p vs:=I.hok p _ d;have f:kvs.length=vs.length:=Paired.length r;show wpAny_truthy_dict j m (by lia) {H,I.tok _,by rw[rT r];show q}
 |_=>show(show False from e).elim
theorem lI(d:PE X a ta)(e:∀b,isTrue a X.env b=(do let v <- b;standAt a.pos;holding [v] (truthy v))):
  PT X a (λσ H Q=>ta σ H λx H'=>∃k,FA X.K x H' k/\Q k H'):=by
 intro pins s σ H Q I h;show isTrue_plain (thn (d _ s σ H _ I h) λv s1 ⟨x,H1,c,g,f⟩=>Cu _ s1 σ H1 x v Q c g f)<|e _
theorem dy:OpR X (binaryOp .Add) (λx y H Q=>∃i j,x=.str i/\y=.str j/\i.length+j.length<=sizeLine/\Q (.str<|i++j) H):=by
 intro pins s σ H x y v u Q I b c h;let(i,j,rfl,rfl,a,q):=h;let(t,rfl):=b;let(d,rfl):=c;show add_str (λd tk=>⟨.str _,H,I.tok _,⟨_,rfl⟩,q⟩) a
theorem cD{x:V}{a:List _}(r:aB [x] a):∃u,a=[u]/\aH x u:=by
 cases r with
 |cons b c=>cases c;show{_,rfl,b}
theorem wN{x y:V}{a:List _}(r:aB [x,y] a):∃u w',a=[u,w']/\aH x u/\aH y w':=by
 cases r with
 |cons b c =>
  cases c with
  |cons d e=>cases e;show{_,_,rfl,b,d}
end
structure ObjM(h:qq)(x dx C:zv)(mA:Str->Option zy):Prop where
 obj:h.get? x=some (instObj C dx)
 ns:h.Ns1 dx mA
 ne:dx≠x
theorem vh{c:qq}{b:zv}{d:Str->Option _}(n:c.Ns1 b d):∃f,c.get? b=some f/\∀name,lookIn name f=some (d name):=by
 let(o,es,l,k,g,h,_,j):=n;show{o,k,λname=>?_};have e:=j name;unfold nsFind findBy at e;rw[<-Array.find?_toList]at e;unfold lookIn;rw[g];dsimp only
 split
 .rename_i y q
  rw[q]at e;show congrArg _ e
 .rename_i q
  rw[q]at e;have a:es.toList.any (·.refKey)=false:=by
   rw[List.any_eq_false];intro y hy;let(z,t,i):=h y<|Array.mem_toList_iff.mp hy;simp[DictEntry.refKey,i]
  rw[A4 (by rw[a];show C4)];show congrArg _ e
theorem ObjM.look{d:qq}{x c C:zv}{e:Str->Option _}(b:ObjM d x c C e):∃a,PySem.W.InstAt d x (instObj C c) C (some a)/\∀name,lookIn name a=some (e name) :=
 let⟨a,g,f⟩:=vh b.ns
 ⟨a,⟨b.obj,rfl,rfl,g⟩,f⟩
section
variable{prog:zi}{w:xr}{A:xx}{E:zy->zn->Prop}{s:zn}{K:Frag}{x dx C f:zv}{mA:Str->Option zy}{name:Str}{v:zy}
theorem zW{c:Bool}{Q:zy->zn->Prop}(X:K.In s.heap)(a:ObjM s.heap x dx C mA)(f:plainGet K C name=true)(g:hasDictIn K C=true)(e:findIn K (.ref C) name=some none)(i:mA name=some v)(j:handedIn v=true)(d:Q v {s with toks:=s.toks+1}):
  wpAny (model prog w) A (getAttr (.ref x) name c) Q E s:=by
 let(k,b,h):=a.look;show PySem.W.get_value X b (plainGet_of f).1 (PySem.W.findObj_own g e rfl (by rw[h,i])) j d
theorem wO{pl:Sem _}{Q:zy×List _->zn->Prop}(X:K.In s.heap)(b:ObjM s.heap x dx C mA)(a:plainGet K C name=true)(e:findIn K (.ref C) name=some (some<|.ref f))(h:isFn K (.ref f)=true)(i:mA name=none)(d:Q (.ref f,[.ref x]) s):
  wpAny (model prog w) A (getMethod (.ref x) name pl) Q E s:=by
 let(j,c,g):=b.look;show PySem.W.method_fn X c (plainGet_of a).1 (plainGet_of a).2 e (G4.mp h) (by change(lookIn _ j).map _=some _;rw[g,i];rfl) d
theorem zX{ns:List Str}{Q:Unit->zn->Prop}(X:K.In s.heap)(c:ObjM s.heap x dx C mA)(o:findIn K (.ref C) "__setattr__"=some (some<|.builtin "object.__setattr__"))(n:plainOver K C=true)(p:takerIn K C name=some none)(l:hasDictIn K C=true)(q:PySem.Within mA ns)(hsz:ns.length<=sizeLine)(g:∀h',ObjM h' x dx C (λy=>if y=name then some v else mA y)->SameBut dx s.heap h'->Q () {s with heap:=h',toks:=s.toks+2}):
  wpAny (model prog w) A (setAttr (.ref x) name v) Q E s:=by
 let(F,d,B):=c.look;show PySem.W.set_plain X d o<|PySem.W.osa_open (r:=none) X d n p λb=>?_;let(t,h,j):=PySem.W.any_some l;show Wb<|Wp (Wb<|Wb (wpAny_loadPart c.obj<|Wb (Looks.here (PySem.W.looks_clsIn X h) ?_)));rw[j];show Wp (a:=some dx)<|Wb (Wp<|Wb (wpAny_nsSet1 c.ns λh' e f=>?_));let(D,z,u,m,k,i):=e.count<|PySem.Within.cons name v q;show Wb<|wpAny_lookBehind m (by rw[k];show pastItsLine_dict<|CL i (by rw[CC];lia)) (Wp<|g _ {(f.2 _<|CD c.ne).trans c.obj,e,c.ne} f)
theorem wP{R:Result->zn->Prop}{vs:List _}{a:List _}(X:K.In s.heap)(h:makesIn K C=true)(e:findIn K (.ref C) "__init__"=some (some<|.ref f))(c:PySem.W.typeIn K (.ref f)=some (.type "function"))(b:codeAny (model prog w) (A.under<|.builtin "type.__call__" ⟨.ref C::vs,a⟩) (.call (.ref f) {.ref (s.heap.objs.size+1)::vs,a}) (PySem.W.InitBack (s.heap.objs.size+1) R)
   {s with heap:=(s.heap.push emptyDict).push (instObj C s.heap.objs.size)}):
  codeAny (model prog w) A (.call (.ref C) ⟨vs,a⟩) R s:=by
 let(i,g,d,t,os):=s;show PySem.W.make_core (PySem.W.makes_of X h) (PySem.W.looks_findIn X e) (λj=>PySem.W.bind_fn X _ c) (.inl rfl) b
end
def dI(f:Str)(v:V):List (Str×V)->List (Str×V)
 |[]=>[(f,v)]
 |(g,x)::r=>if g=f then (g,v)::r else (g,x)::dI f v r
theorem kG(f g:Str)(v:V):∀fs:List<|Str×V,(dI f v fs).lookup g=if g=f then some v else fs.lookup g
 |[]=>by
  change List.lookup g [(f,v)]=_
  by_cases h:g=f
  .simp only[List.lookup,(G4.mpr h),A6 h]
  .simp only[List.lookup,(D5.mpr h),A4 h]
 |(k,x)::r=>by
  rw[show dI f v ((k,x)::r)=(if k=f then (k,v)::r else (k,x)::dI f v r)from rfl]
  by_cases a:k=f
  .rw[A6 a]
   by_cases h:g=k
   .simp only[List.lookup,(G4.mpr h),A6<|h.trans a]
   .simp only[List.lookup,(D5.mpr h),A4 λe:g=f=>h<|e.trans a.symm]
  .rw[A4 a]
   by_cases h:g=k
   .simp only[List.lookup,(G4.mpr h),A4 λe:g=f=>a<|h.symm.trans e]
   .simp only[List.lookup,(D5.mpr h)];show kG f g v r
theorem jF(f:Str)(v:V):∀fs:List _,f∈(dI f v fs).map (·.1)/\∀g,g∈fs.map (·.1)->g∈(dI f v fs).map (·.1)
 |[]=>{by simp[dI],λg h=>by simp at h}
 |(k,x)::r=>by
  let(b,c):=jF f v r;rw[show dI f v _=(if k=f then (k,v)::r else (k,x)::dI f v r)from rfl]
  by_cases a:k=f
  .subst a;show{by simp,λg h=>by simpa using h}
  .rw[A4 a];show{?_,λg h=>?_}
   .show B1 _ b
   .rcases B3.mp h with e|e
    .show B3.mpr<|.inl e
    .show B1 _<|c g e
theorem kH(f:Str)(v:V):∀fs:List _,(dI f v fs).length<=fs.length+1
 |[]=>by simp[dI]
 |(k,x)::r=>by
  have b:=kH f v r;rw[show dI f v _=(if k=f then (k,v)::r else (k,x)::dI f v r)from rfl]
  by_cases a:k=f
  .rw[A6 a,CC,CC];lia
  .rw[A4 a,CC,CC];lia
theorem fE.some_of{v:V}{o:Option _}(r:fE (some v) o):∃u,o=some u/\aH v u:=by
 cases o with
 |none=>show(r).elim
 |some u=>show⟨u,rfl,r⟩
theorem fE.none_of{o:Option _}(r:fE none o):o=none:=by
 cases o with
 |none=>rfl
 |some u=>show(r).elim
theorem vi{v:V}{u:zy}(r:aH v u):handedIn u=true:=by
 cases v with
 |non=>cases (r);rfl
 |bl b=>cases (r);rfl
 |int i=>let(t,e):=(r);cases e;rfl
 |str x=>let(t,e):=(r);cases e;rfl
 |byt b=>let(t,e):=(r);cases e;rfl
 |flt b=>let(t,e):=(r);cases e;rfl
 |ref a=>cases (r);rfl
 |ty n=>cases (r);rfl
section
variable{P:zi}{w:xr}{H H':Hp}{h h':qq}{a C dx:zv}{fs fs':List (Str×V)}
theorem la(b:HOk P w H h)(e:H a=some (.ins C dx fs)):∃mA,ObjM h a dx C mA/\(∀f,fE (fs.lookup f)<|mA f)/\PySem.Within mA (fs.map (·.1))/\fs.length<=1000/\H dx=some (.own a):=by
 let(d,z,c,g,mA,n,r,q):=(b a _ e);show{mA,⟨g,n,c⟩,r,q,z,d}
end
structure Cls(K:Frag)(C:zv):Prop where
 pg:plainGet K C empty=true
 hd:hasDictIn K C=true
 po:plainOver K C=true
 sa:findIn K (.ref C) "__setattr__"=some (some<|.builtin "object.__setattr__")
theorem Cls.get{K:Frag}{C:zv}(c:Cls K C)(f:Str):plainGet K C f=true:=c.pg
def dz(K:Frag)(C:zv)(f:Str):Prop:=findIn K (.ref C) f=some none
theorem dz.taker{K:Frag}{C:zv}{f:Str}(n:dz K C f):takerIn K C f=some none:=by
 unfold takerIn;rw[n];rfl
structure Meth(K:Frag)(C:zv)(m:Str)(f:zv):Prop where
 at_:findIn K (.ref C) m=some (some<|.ref f)
 fn:isFn K (.ref f)=true
 kp:keepIn K (.ref f)=true
section
variable{X:Cx}{pins:List (zv×Obj)}{σ:St}{H:Hp}{s:zn}{a C dx:zv}{fs:List (Str×V)}{f:Str}{v:V}{A:xx}{E:zy->zn->Prop}
theorem rV{b:Bool}{Q:zy->zn->Prop}(d:Inv X pins σ H s)(e:H a=some (.ins C dx fs))(c:Cls X.K C)(n:dz X.K C f)(l:fs.lookup f=some v)(h:∀u s',Inv X pins σ H s'->aH v u->Q u s'):wpAny (model X.prog X.w) A (getAttr (.ref a) f b) Q E s:=by
 let(mA,O,r,_,_,_):=la d.hok e;let(u,i,g):=fE.some_of (by rw[<-l];show r f);show zW d.kIn O (c.get f) c.hd n i (vi g)<|h u _ (d.tok _) g
theorem lJ{m:Str}{g:zv}{pl:Sem _}{Q:zy×List _->zn->Prop}(I:Inv X pins σ H s)(e:H a=some (.ins C dx fs))(c:Cls X.K C)(k:Meth X.K C m g)(l:fs.lookup m=none)(h:Q (.ref g,[.ref a]) s):wpAny (model X.prog X.w) A (getMethod (.ref a) m pl) Q E s:=by
 let(mA,O,r,_,_,_):=la I.hok e;show wO I.kIn O (c.get m) k.at_ k.fn (fE.none_of (by rw[<-l];show r m)) h
theorem rW{y:V}{u:zy}{Q:Unit->zn->Prop}(d:Inv X pins σ H s)(e:H a=some (.ins C dx fs))(c:Cls X.K C)(n:dz X.K C f)(v:fs.length<1000)(p:aH y u)(k:∀s',Inv X pins σ (upd H a<|.ins C dx (dI f y fs)) s'->Q () s'):wpAny (model X.prog X.w) A (setAttr (.ref a) f u) Q E s:=by
 let(mA,O,r,wi,_,i):=la d.hok e;show zX d.kIn O c.sa c.po n.taker c.hd wi (by rw[A1,sizeLine_eq];lia) λh' h t=>k _ ?_;show d.write (x:=a) (by rw[e];show True.intro) (.inr i) (λb q l z=>(t.2 b l).trans z) (let⟨o,_,_,j,_⟩:=h.ns;⟨o,j⟩) {by rw[aj O.ne];show i,?_,O.ne,h.obj,_,h.ns,λg=>?_,λg m=>?_}
 .have:=kH f y fs;lia
 .change fE _ _;rw[kG]
  by_cases q:g=f
  .rw[A6 q,A6 q];show p
  .rw[A4 q,A4 q];show r g
 .by_cases q:g=f
  .rw[q];show(jF f y fs).1
  .show(jF f y fs).2 g (wi g λz=>m ?_);change(if g=f then some u else mA g)=none;rw[A4 q];show z
theorem Inv.made(d:Inv X pins σ H s):Inv X pins σ (upd (upd H s.heap.objs.size<|.own (s.heap.objs.size+1)) (s.heap.objs.size+1)<|.ins C s.heap.objs.size [])
  {s with heap:=(s.heap.push emptyDict).push (instObj C s.heap.objs.size)}:=by
 have a:(s.heap.push _).get? _=some emptyDict:=A5 _ rfl;have f:((s.heap.push emptyDict).push (instObj C s.heap.objs.size)).get? (s.heap.objs.size+1)=some (instObj C s.heap.objs.size):=by
  have:=A5 (s.heap.push emptyDict) (o:=instObj C s.heap.objs.size) rfl
  rwa [size_push]at this
 show(d.laid (o:=.own<|s.heap.objs.size+1) (t':=s.toks) (λb u q=>A0 _ q) (A8 _) ⟨_,a⟩).laid (λb u q=>A0 _ q) (le_of_eq<|size_push _ _) ?_;have c:s.heap.objs.size≠s.heap.objs.size+1:=C2<|lt_succ_self _;show{by rw[aj c,ac],CI _,c,f,λ_=>none,(Heap.Ns1.of_empty<|⟨emptyDict,#[],_,a,rfl,(λe g=>absurd g (by simp)),λ_=>rfl⟩).at λo q=>A0 _ q,λ_=>True.intro,λy hy=>absurd rfl hy}
theorem zY{prog:zi}{w:xr}{env:Env}{e:Expr}{f:Str}{pos:Pos}{s:zn}{Q:zy->zn->Prop}(b:attributeBase e f env (eval e env)=eval e env)(a:wpAny (model prog w) A (eval e env) (λo c=>wpAny (model prog w) A (getAttr o f true) Q E c) E s):wpAny (model prog w) A (eval (.Attribute e f pos) env) Q E s :=
 Attribute_any_ a (by rw[arm_eval_Attribute,b])
end
def Hi(K:Frag)(b:TE)(f:Str):TE:=λσ H Q=>b σ H λx H1=>∃a C dx fs v,x=.ref a/\H1 a=some (.ins C dx fs)/\Cls K C/\dz K C f/\fs.lookup f=some v/\Q v H1
def Hj(K:Frag)(c d:TE)(f:Str):TS:=λb σ H=>d σ H λy H1=>c σ H1 λx H2=>∃a C dx fs,x=.ref a/\H2 a=some (.ins C dx fs)/\Cls K C/\dz K C f/\fs.length<1000 /\
 b.nx σ (upd H2 a<|.ins C dx (dI f y fs))
section
variable{X:Cx}{o e value:Expr}{f:Str}{pos pos' tpos:Pos}{ta tv:TE}
theorem dJ(i:PE X e ta)(g:attributeBase e f X.env (eval e X.env)=eval e X.env):PE X (.Attribute e f pos) (Hi X.K ta f):=by
 intro pins s σ H Q I h;show zY g<|thn (i _ s σ H _ I h) λu s1 j=>?_;let(x,H1,b,m,a,C,dx,fs,v,ex,ea,c,n,l,q):=j;subst ex;obtain rfl:u=Value.ref a:=m;show rV b ea c n l λp o d k=>⟨v,H1,d,k,q⟩
theorem ff(g:PE X o ta)(j:PE X value tv)(i:swapsWith value (some<|.Attribute o f pos') pos.line X.env=pure false):PS X (.Assign [.Attribute o f pos'] value pos) (Hj X.K ta tv f):=by
 intro pins s σ H t I h;show plainObj_wpAny_Assign_Attribute (thn (j _ s σ H _ I h) λu s1 ⟨y,H1,b,r,q⟩=>thn (g _ s1 σ H1 _ b q) λk v ⟨x,H2,d,p,a,C,dx,fs,ex,ea,c,n,l,m⟩=>?_) i;subst ex;obtain rfl:k=Value.ref a:=p;show rW d ea c n l r λw e=>⟨σ,_,e,m⟩
end
section
variable{X:Cx}{pins:List (zv×Obj)}{σ:St}{H:Hp}{s:zn}{A:xx}{E:zy->zn->Prop}{Q:zy->zn->Prop}{c:zy}{b:Bool}
inductive TyOf(K:Frag)(H:Hp):V->zy->Prop where
 |non:TyOf K H .non<|.type "NoneType"
 |bl (x:Bool):TyOf K H (.bl x)<|.type "bool"
 |int (i:Int):TyOf K H (.int i)<|.type "int"
 |str (x:Str):TyOf K H (.str x)<|.type "str"
 |flt (x:UInt64):TyOf K H (.flt x)<|.type "float"
 |lst {a:zv} {xs:List V} (e:H a=some (.lst xs)):TyOf K H (.ref a)<|.type "list"
 |frz {a:zv} {o:Obj} {xs:List V} (e:H a=some (.frz o<|.lst xs)):TyOf K H (.ref a)<|.type "list"
 |tup {a:zv} {xs:List V} (e:H a=some (.tup xs)):TyOf K H (.ref a)<|.type "tuple"
 |dK {a:zv} {kvs:List (Key×V)} (e:H a=some (.dK kvs)):TyOf K H (.ref a)<|.type "dict"
 |dT {a:zv} {kvs:List (List Key×V)} (e:H a=some (.dT kvs)):TyOf K H (.ref a)<|.type "dict"
 |ins {a C dx:zv} {fs:List (Str×V)} (e:H a=some (.ins C dx fs)) (cl:Cls K C) (ha:findIn K (.ref C) "__class__"=some (some<|.builtin "object.__class__"))
   (hn:PySem.W.specialIn K (.builtin "object.__class__") "__get__"=some (some<|.builtin "getset_descriptor.__get__")) (htk:PySem.W.takesIn K (.builtin "object.__class__")=some true)
   (hm:mroIn K C (.type "object")=some true):TyOf K H (.ref a)<|.ref C
theorem vj{x:V}{u t:zy}(d:Inv X pins σ H s)(g:aH x u)(k:TyOf X.K H x t)(e:kitOne X.K t c=some b)(f:∀tk,Q (.bool b) {s with toks:=tk}):
  wpAny (model X.prog X.w) A (call (.builtin "isinstance") [u,c]) Q E s:=by
 cases k with
 |non=>cases (g);show kia_one PySem.W.kitx_none d.kIn True.intro e (λz=>nomatch z) f
 |bl y=>cases (g);show kia_one PySem.W.kitx_bool d.kIn True.intro e (λz=>nomatch z) f
 |int i=>let(t,q):=(g);cases q;show kia_one PySem.W.kitx_int d.kIn True.intro e (λz=>nomatch z) f
 |str y=>let(t,q):=(g);cases q;show kia_one PySem.W.kitx_str d.kIn True.intro e (λz=>nomatch z) f
 |flt y=>let(t,q):=(g);cases q;show kia_one PySem.W.kitx_float d.kIn True.intro e (λz=>nomatch z) f
 |@lst a xs ea =>
  cases (g);let(_,_,n,_,h1):=(d.hok a _ ea);show kia_one kitx_list d.kIn ⟨_,h1,rfl⟩ e (λz=>nomatch z) f
 |@frz a ob xs ea =>
  cases (g);let(_,_,_,n,_,h1):=(d.hok a _ ea);show kia_one kitx_list d.kIn ⟨_,h1,rfl⟩ e (λz=>nomatch z) f
 |@tup a xs ea =>
  cases (g);let(_,_,_,p):=(d.hok a _ ea);let(o,h1,h2,_):=p;show kia_one PySem.W.kitx_tuple d.kIn ⟨o,h1,h2⟩ e (λz=>nomatch z) f
 |@dK a kvs ea =>
  cases (g);let(_,_,vs,_,p):=(d.hok a _ ea);let(o,es,j,h1,h2,_):=p;show kia_one kitx_dict d.kIn ⟨o,h1,h2.1⟩ e (λz=>nomatch z) f
 |@dT a kvs ea =>
  cases (g);let(_,_,xs,_,o,es,j,h1,h2,_):=(d.hok a _ ea);show kia_one kitx_dict d.kIn ⟨o,h1,h2.1⟩ e (λz=>nomatch z) f
 |@ins a C dx fs ea cl ha hn htk hm =>
  cases (g);let(mA,O,_):=la d.hok ea;let(l,h,_):=O.look;show kia_one (PySem.W.kitx_own (cl.get _) cl.hd ha hn htk hm) d.kIn h e (λz=>nomatch z) f
end
structure Room(k:Nat)(A:xx):Prop where
 hd:A.handled=none
 dp:A.depth+3*k+5<recursionLimit
 un:A.units+16*k+200<cLine
 gd:A.guards=some []
theorem Room.mono{j k:Nat}{A:xx}(r:Room k A)(h:j<=k):Room j A:={r.hd,by have:=r.dp;lia,by have:=r.un;lia,r.gd}
theorem Room.deeper{k:Nat}{A:xx}(r:Room (k+1) A)(env:Env):Room k (A.deeper env) :=
 {r.hd,by have:=r.dp;change A.depth+1+3*k+5<_;lia,by have:=r.un;change A.units+3+16*k+200<_;lia,r.gd}
theorem Room.in1{k:Nat}{A:xx}(r:Room (k+1) A):Room k A.in1 :=
 {r.hd,by have:=r.dp;change A.depth+3*k+5<_;lia,by have:=r.un;change A.units+1+16*k+200<_;lia,r.gd}
theorem rX{A:xx}{C:zv}{b:List _}{a:List _}:(A.under<|.builtin "type.__call__" ⟨.ref C::b,a⟩).depth=A.depth+1:=by
 first|rfl|simp[guardIds]
theorem rY{A:xx}{C:zv}{b:List _}{a:List _}:(A.under<|.builtin "type.__call__" ⟨.ref C::b,a⟩).units=A.units+1:=by
 first|rfl|simp[Code.frames]
theorem qg{A:xx}{C:zv}{b:List _}{a:List _}:(A.under<|.builtin "type.__call__" ⟨.ref C::b,a⟩).guards=A.guards:=by
 first|rfl|(cases h:A.guards<;>simp[h])
theorem Room.make{k:Nat}{A:xx}(r:Room (k+1) A)(C:zv)(b:List _)(a:List _):Room k (A.under<|.builtin "type.__call__" ⟨.ref C::b,a⟩) :=
 {r.hd,by have:=r.dp;rw[rX];lia,by have:=r.un;rw[rY];lia,by rw[qg];show r.gd}
theorem Room.depth{k:Nat}{A:xx}(r:Room k A):A.depth<recursionLimit:=by have:=r.dp;lia
theorem Room.units{k:Nat}{A:xx}(r:Room k A):A.units+64<cLine:=by have:=r.un;lia
theorem Room.units0{k:Nat}{A:xx}(r:Room k A):A.units<cLine:=by have:=r.un;lia
def wQ:TA:=λ_ H Q=>Q [] H
def nD(a:TE)(b:TA):TA:=λσ H Q=>a σ H λx H1=>b σ H1 λxs H2=>Q (x::xs) H2
section
variable{X:Cx}{e:Expr}{es:List Expr}{te:TE}{t:TA}{pos:Pos}
theorem ae:PA X [] wQ:=λ_ _ _ _ H Q I h=>spliced_nil {[],H,I,.nil,h}
theorem aa(c:PE X e te)(d:PA X es t)(f:starEach (e::es) X.env=(false,eval e X.env)::starEach es X.env:=by rfl):PA X (e::es) (nD te t):=by
 intro pos pins s σ H Q I h;rw[f];change wpAny _ _ _ _ _ s;show spliced_cons<|thn (c _ s σ H _ I h) λu s1 ⟨x,H1,a,j,g⟩=>(thn (d pos _ s1 σ H1 _ a g) λus l ⟨xs,H2,b,k,i⟩=>⟨x::xs,H2,b,.cons j k,i⟩)
def Hk(t:TA):TE:=λσ H Q=>t σ H λxs H1=>xs.length<=sizeLine/\∀p,H1 p=none->Q (.ref p) (upd H1 p<|.tup xs)
def Hl(t:TA):TE:=λσ H Q=>t σ H λxs H1=>xs.length<=sizeLine/\∀p,H1 p=none->Q (.ref p) (upd H1 p<|.lst xs)
theorem aK{x1}(c:PA X es t):PE X (.Tuple es x1 pos) (Hk t):=by
 intro pins s σ H Q I d;show wpAny_Tuple_spliced<|thn (c pos _ s σ H _ I d) λus s1 ⟨xs,H1,a,r,z,q⟩=>{by rw[<-r.length];show z,?_};show{.ref _,upd H1 _ _,a.laid (λb u e=>A0 _ e) (A8 _) ?_,rfl,q _<|a.hok.fresh (A8 _)};show{z,us,r,{_,A5 _ rfl,rfl,_,rfl}}
theorem cP(c:PA X es t):PE X (.List es pos) (Hl t):=by
 intro pins s σ H Q I d;show wpAny_List_spliced<|thn (c pos _ s σ H _ I d) λus s1 ⟨xs,H1,a,r,z,q⟩=>{by rw[<-r.length];show z,?_};show{.ref _,upd H1 _ _,a.laid (λb u e=>A0 _ e) (A8 _) ?_,rfl,q _<|a.hok.fresh (A8 _)};show{z,us,0,r,A5 _ rfl}
end
abbrev Sp:=List V->Hp->VK->XK->Prop
abbrev CXT:=List Env->Hp->zn->XK->zy->zn->Prop
structure Env0(P:zi)(w:xr)(K:Frag)(mg:Str->Option zy)(base:qq)(A:xx)(outer:List Env)(s:zn)(H:Hp):Prop where
 frames:A.frames=some outer
 mod:Mod K mg base
 bs:∀b o,base.get? b=some o->s.heap.get? b=some o/\H b=none
 bsz:base.objs.size<=s.heap.objs.size
 funs:s.heap.FunFrames base outer
 frf:∀b∈frs outer,H b=none
 hok:HOk P w H s.heap
 bare:AllBare s.gens
inductive CE(outer:List Env)(P:zi)(w:xr)(H:Hp)(s:zn)(Q:VK)(u:zy)(s':zn):Prop
 |mk v H' (_:s'.os=s.os) (_:AllBare s'.gens) (_:Un (frs outer) [] H H' s.heap s'.heap) (_:HOk P w H' s'.heap) (_:aH v u) (_:Q v H')
def CR(CX:CXT)(outer:List Env)(P:zi)(w:xr)(H:Hp)(s:zn)(Q:VK)(E:XK)(r:Result)(s':zn):Prop :=
 match r with
 |.ok (.ret u)=>CE outer P w H s Q u s'
 |.ok _=>False
 |.error e=>CX outer H s E e s'
structure FnOkG(Rm:Nat->xx->Prop)(P:zi)(w:xr)(K:Frag)(mg:Str->Option zy)(base:qq)(CX:CXT)(k:Nat)(f:zv)(fd:xl)(ps:List Str)(sp:Sp):Prop where
 len:∀vs H Q E,sp vs H Q E->vs.length=ps.length
 run:∀(A:xx)(outer:List Env)(s:zn)(H:Hp)(args:Args)(us:List zy)(vs:List V)(Q:VK)(E:XK),Rm k A->Env0 P w K mg base A outer s H->BindsTo s fd args (ps.zip us)->aB vs us->sp vs H Q E ->
  codeAny (model P w) A (.call (.ref f) args) (CR CX outer P w H s Q E) s
abbrev aE:=FnOkG Room
theorem Env0.make{P:zi}{w:xr}{K:Frag}{mg:Str->Option _}{base:qq}{A:xx}{outer:List Env}{s:zn}{H:Hp}(e:Env0 P w K mg base A outer s H)(C:zv)(b:List _)(a:List _):
  Env0 P w K mg base (A.under<|.builtin "type.__call__" ⟨.ref C::b,a⟩) outer s H:=⟨by first|show e.frames|(simpa [pushEnvs]using e.frames),e.mod,e.bs,e.bsz,e.funs,e.frf,e.hok,e.bare⟩
theorem Env0.in1{P:zi}{w:xr}{K:Frag}{mg:Str->Option _}{base:qq}{A:xx}{outer:List Env}{s:zn}{H:Hp}(e:Env0 P w K mg base A outer s H):
  Env0 P w K mg base A.in1 outer s H:=⟨e.frames,e.mod,e.bs,e.bsz,e.funs,e.frf,e.hok,e.bare⟩
section
variable{X:Cx}{pins:List (zv×Obj)}{σ:St}{H:Hp}{s s':zn}
theorem Inv.env0(I:Inv X pins σ H s):Env0 X.prog X.w X.K X.mg X.base X.A X.stack s H :=
 ⟨I.ok.frames,I.ok.mod,I.bs,CL I.ok.bsz I.sz,I.stack,I.stkFree,I.hok,I.bare⟩
theorem Inv.after{Q:VK}{u:zy}(a:Inv X pins σ H s)(e:CE X.stack X.prog X.w H s Q u s'):EP X pins σ Q u s':=by
 let(v,H',os,c,un,f,r,q):=e;let(i,g,d,t,h):=s';obtain rfl:h=s.os:=os;show{v,H',a.call un f c λb z=>absurd z (by simp),r,q}
end
def wR(sp:Sp)(a:List V)(E:XK)(t:TA):TE:=λσ H Q=>t σ H λvs H1=>sp (vs++a) H1 Q E
def BK(C:zv)(m:Str)(sp:Sp)(b:List V)(E:XK)(c:TE)(t:TA):TE:=λσ H Q=>c σ H λx H1=>∃a dx fs,x=.ref a/\H1 a=some (.ins C dx fs)/\fs.lookup m=none /\
 t σ H1 λvs H2=>sp (x::(vs++b)) H2 Q E
def FB(C:zv)(sp:Sp)(a:List V)(E:XK)(t:TA):TE:=λσ H Q=>t σ H λvs H1=>∀x dx,H1 x=none->H1 dx=none->dx≠x ->
 sp (.ref x::(vs++a)) (upd (upd H1 dx<|.own x) x<|.ins C dx []) (λv H2=>v=.non/\Q (.ref x) H2) E
def br(K:Frag)(b:xl)(ps:List Str)(a:List zy):Prop :=
 ∀(s:zn)(us:List zy),K.In s.heap->(us++a).length=ps.length->BindsTo s b {us,[]} (ps.zip<|us++a)
theorem br.all{K:Frag}{a:xl}{ps:List Str}(c:∀us:List _,us.length=ps.length->bindArgs a {us,[]}=pure (ps.zip us)):br K a ps []:=λs us _ b=>by
 rw[append_nil]at b|-;show .of_eq<|c us b
def iD(CX:CXT)(X:Cx)(E:XK):Prop:=∀(pins:List<|zv×Obj)(σ:St)(H:Hp)(s:zn)(e:zy)(s':zn),Inv X pins σ H s->CX X.stack H s E e s'->X.xe e s'
section
variable{X:Cx}{CX:CXT}{k:Nat}{f C:zv}{fd:xl}{ps:List Str}{sp:Sp}{dvs:List V}{ds:List zy}{E:XK}{x m:Str}{p pos apos:Pos}{e o:Expr}{es:List Expr}{ta:TE}{t:TA}
theorem rZ{i:List _}{d:St}{H:Hp}{s:zn}{Q:VK}{c:List _}{vs:List V}{g:Nat->xx->Prop}(F:FnOkG g X.prog X.w X.K X.mg X.base CX k f fd ps sp)(o:g k X.A)(m:br X.K fd ps ds)(n:aB dvs ds)(p:iD CX X E)(b:Inv X i d H s)(r:aB vs c)(h:sp (vs++dvs) H Q E):wpAny (model X.prog X.w) X.A (call (.ref f) c) (EP X i d Q) X.xe s:=by
 have j:=r.append n;show wpAny_call<|codeAny_mono (F.run X.A _ s H _ _ _ Q E o b.env0 (m s c b.kIn (by rw[<-j.length];show F.len _ _ _ _ h)) j h) λr s' a=>?_;cases r with
 |error e=>show p _ d H s e s' b a
 |ok l =>
  cases l with
  |ret u=>show b.after a
  |next=>show False.elim a
  |brk=>show False.elim a
  |cont=>show False.elim a
theorem zZ{b:Nat->xx->Prop}(F:FnOkG b X.prog X.w X.K X.mg X.base CX k f fd ps sp)(u:b k X.A)(l:Gl X x)(n:X.mg x=some (.ref f))(m:keepIn X.K (.ref f)=true)(d:br X.K fd ps ds)(g:aB dvs ds)(v:iD CX X E)(c:PA X (e::es) t)(i:(x==("__debug__"))=false:=by decide)(j:starEach (e::es) X.env=(false,eval e X.env)::starEach es X.env:=by rfl)(o:(backTo pos<|starEach es X.env).any (·.1)=false:=by rfl):
  PE X (.Call (.Name x p) (e::es) [] pos) (wR sp dvs E t):=by
 intro pins s σ H Q I h;show wpAny_Call_Name_kw<|oV I l n (callWith_K I.ok.mod.kin m (thn (c pos pins s σ H _ I h) λus s1 ⟨vs,H1,a,r,q⟩=>{a.kIn,?_}) j o) i;show rZ F u d g v a r q
theorem gg{pl:Sem Bool}(v:PE X o ta)(c:Cls X.K C)(g:Meth X.K C m f)(F:aE X.prog X.w X.K X.mg X.base CX k f fd ps sp)(z:Room k X.A)(n:br X.K fd ps ds)(p:aB dvs ds)(G:iD CX X E)(j:PA X (e::es) t)(B:starEach (e::es) X.env=(false,eval e X.env)::starEach es X.env:=by rfl)(y:(backTo pos<|starEach es X.env).any (·.1)=false:=by rfl)(D:eval (.Call (.Attribute o m apos) (e::es) [] pos) X.env=(do
   let i <- eval o X.env
   standAt apos.atName
   let(f,first) <- holding [i] (getMethod i m pl)
   callWith pos f first (backTo pos<|starEach (e::es) X.env) (backToKw pos<|keywordEach [] X.env)):=by rfl):
  PE X (.Call (.Attribute o m apos) (e::es) [] pos) (BK C m sp dvs E ta t):=by
 intro pins s σ H Q I h;show methodCall_KW (pl:=pl) (thn (v pins s σ H _ I h) λu s1 ⟨x,H1,b,L,a,dx,fs,ex,ea,l,q⟩=>?_) D;subst ex;obtain rfl:u=Value.ref a:=L;show lJ b ea c g l<|callWith_K I.ok.mod.kin g.kp (thn (j pos pins s1 σ H1 _ b q) λus M ⟨vs,H2,d,r,J⟩=>{d.kIn,?_}) B y;show rZ (vs:=.ref a::vs) F z n p G d (.cons rfl r) J
theorem bp{pl:Sem Bool}(j:PE X o ta)(c:Cls X.K C)(d:Meth X.K C m f)(F:aE X.prog X.w X.K X.mg X.base CX k f fd ps sp)(n:Room k X.A)(g:br X.K fd ps ds)(i:aB dvs ds)(r:iD CX X E)(p:eval (.Call (.Attribute o m apos) [] [] pos) X.env=(do
   let e <- eval o X.env
   standAt apos.atName
   let(f,first) <- holding [e] (getMethod e m pl)
   callWith pos f first (backTo pos<|starEach [] X.env) (backToKw pos<|keywordEach [] X.env)):=by rfl):
  PE X (.Call (.Attribute o m apos) [] [] pos) (BK C m sp dvs E ta wQ):=by
 intro pins s σ H Q I h;show methodCall_KW (thn (j pins s σ H _ I h) λu s1 ⟨x,H1,b,t,a,dx,fs,ex,ea,l,q⟩=>?_) p;subst ex;obtain rfl:u=Value.ref a:=t;show lJ b ea c d l<|PySem.W.callWith_K0 b.kIn d.kp (rZ (vs:=[.ref a]) F n g i r b (.cons rfl .nil) q)
structure Mk(K:Frag)(C f:zv):Prop where
 makes:makesIn K C=true
 init:findIn K (.ref C) "__init__"=some (some<|.ref f)
 fn:isFn K (.ref f)=true
 kp:keepIn K (.ref C)=true
theorem wS{j:List _}{h:St}{H:Hp}{s:zn}{Q:VK}{a:List _}{vs:List V}(g:Mk X.K C f)(F:aE X.prog X.w X.K X.mg X.base CX k f fd ps sp)(z:Room (k+1) X.A)(q:br X.K fd ps ds)(t:aB dvs ds)(B:iD CX X E)(c:Inv X j h H s)(r:aB vs a)(p:∀x dx,H x=none->H dx=none->dx≠x->sp (.ref x::(vs++dvs)) (upd (upd H dx<|.own x) x<|.ins C dx []) (λv H2=>v=.non/\Q (.ref x) H2) E):
  wpAny (model X.prog X.w) X.A (call (.ref C) a) (EP X j h Q) X.xe s:=by
 have i:=p (s.heap.objs.size+1) s.heap.objs.size (c.hok.fresh<|le_succ _) (c.hok.fresh<|A8 _)<|C2 (lt_succ_self _);have d:=Inv.made (C:=C) c;have l:aB (V.ref (s.heap.objs.size+1)::(vs++dvs)) (Value.ref (s.heap.objs.size+1)::(a++ds)):=.cons rfl<|r.append t;have y:(Value.ref (s.heap.objs.size+1)::a++ds).length=ps.length:=by
  have e:=l.length;rw[F.len _ _ _ _ i]at e;show e.symm
 show wpAny_call<|wP c.kIn g.makes g.init (G4.mp g.fn) (codeAny_mono (F.run _ _ _ _ _ _ _ _ E (z.make C a [])
  (d.env0.make C a []) (q _ _ d.kIn y) l i) λr s' b=>?_)
 cases r with
 |error e=>show B _ h _ _ e s' d b
 |ok o =>
  cases o with
  |ret u =>
   let(v,H',m,G,n,D):=d.after b;subst n;show{G,⟨V.ref _,H',m,rfl,D⟩}
  |next=>show False.elim b
  |brk=>show False.elim b
  |cont=>show False.elim b
theorem tK(b:Mk X.K C f)(F:aE X.prog X.w X.K X.mg X.base CX k f fd ps sp)(o:Room (k+1) X.A)(l:Gl X x)(m:X.mg x=some (.ref C))(d:br X.K fd ps ds)(g:aB dvs ds)(u:iD CX X E)(c:PA X (e::es) t)(i:(x==("__debug__"))=false:=by decide)(j:starEach (e::es) X.env=(false,eval e X.env)::starEach es X.env:=by rfl)(n:(backTo pos<|starEach es X.env).any (·.1)=false:=by rfl):
  PE X (.Call (.Name x p) (e::es) [] pos) (FB C sp dvs E t):=by
 intro pins s σ H Q I h;show wpAny_Call_Name_kw<|oV I l m (callWith_K I.ok.mod.kin b.kp (thn (c pos pins s σ H _ I h) λus s1 ⟨vs,H1,a,r,q⟩=>{a.kIn,?_}) j n) i;show wS b F o d g u a r q
end
structure FnScope(N P:List Str)(sc:Scope):Prop where
 kind:sc.kind=.function
 co:sc.isCoroutine=false
 gen:sc.isGenerator=false
 nd:N.Nodup
 pre:N.take P.length=P
 par:∀x∈P,sc.names.lookup x=some .local\/sc.names.lookup x=some .cell
 nofree:∀y∈sc.names,y.2≠.free
theorem nE{kindOf:Str->Option _}{x:Str}:∀{a:List _}{m:Str->Option _},(∀v,(x,v)∉a)->bindL kindOf a m x=m x
 |[],_,_=>rfl
 |(n,v)::r,m,h=>by
  unfold bindL;rw[nE λw b=>h w<|B1 _ b]
  split
  .have:x≠n:=by rintro rfl;show h v B4
   simp[this]
  .rfl
theorem nF{kindOf:Str->Option _}{x:Str}:∀{a:List _}{m:Str->Option _},(∀v,(x,v)∉a)->bindC kindOf a m x=m x
 |[],_,_=>rfl
 |(n,v)::r,m,h=>by
  unfold bindC;rw[nF λw b=>h w<|B1 _ b]
  split
  .rfl
  .have:x≠n:=by rintro rfl;show h v B4
   simp[this]
theorem nG{kindOf:Str->Option _}{x:Str}{v:zy}:∀{P:List Str}{vs:List zy}{i:Nat}{m:Str->Option zy},P.Nodup->P[i]?=some x->vs[i]?=some v->kindOf x=some .local ->
  bindL kindOf (P.zip vs) m x=some v
 |[],_,_,_,_,h,_,_=>by simp at h
 |_::_,[],_,_,_,_,h,_=>by simp at h
 |p::P,w::vs,0,m,nd,h1,h2,hk=>by
  simp at h1 h2;subst h1;subst h2;change bindL _ ((p,w)::P.zip vs) m p=_;unfold bindL;rw[nE λv a=>(E7.mp nd).1 (of_mem_zip a).1,A6 hk];simp
 |p::P,w::vs,i+1,m,nd,h1,h2,hk=>by
  change bindL kindOf _ m x=_;unfold bindL;show nG (E7.mp nd).2 (by simpa using h1) (by simpa using h2) hk
theorem nH{kindOf:Str->Option _}{x:Str}{v:zy}:∀{P:List Str}{vs:List zy}{i:Nat}{m:Str->Option zy},P.Nodup->P[i]?=some x->vs[i]?=some v->kindOf x≠some .local ->
  bindC kindOf (P.zip vs) m x=some v
 |[],_,_,_,_,h,_,_=>by simp at h
 |_::_,[],_,_,_,_,h,_=>by simp at h
 |p::P,w::vs,0,m,nd,h1,h2,hk=>by
  simp at h1 h2;subst h1;subst h2;change bindC _ ((p,w)::P.zip vs) m p=_;unfold bindC;rw[nF λv a=>(E7.mp nd).1 (of_mem_zip a).1,A4 hk];simp
 |p::P,w::vs,i+1,m,nd,h1,h2,hk=>by
  change bindC kindOf _ m x=_;unfold bindC;show nH (E7.mp nd).2 (by simpa using h1) (by simpa using h2) hk
def start(N:List Str)(vs:List V):St:=vs.map some++List.replicate (N.length-vs.length) none
def kU(CX:CXT)(P:zi)(w:xr)(K:Frag)(mg:Str->Option zy)(base:qq)(N:List Str)(qual:Str)(b:Scope)(f:zv)(a:zy)(A:xx)(outer:List Env)(s:zn)(H:Hp)(E:XK):Cx where
 prog:=P
 w:=w
 K:=K
 mg:=mg
 base:=base
 A:=A.deeper<|envOfC qual b s.heap.objs.size f a
 N:=N
 s₀:=s
 H₀:=H
 env:=envOfC qual b s.heap.objs.size f a
 outer:=outer
 stack:=envOfC qual b s.heap.objs.size f a::outer
 ex:=[]
 calm:=true
 fn:=λ_=>true
 pn:=[]
 xe:=λe s'=>wpAny (model P w) (A.deeper<|envOfC qual b s.heap.objs.size f a) (leaving (envOfC qual b s.heap.objs.size f a) e) (λ_ c=>CX outer H s E e c) (λd c=>CX outer H s E d c) s'
theorem qh{a:Scope}{n:Nat}{x:Str}(b:a.names.lookup x=some .cell):∃c,(cellsFrom n a.names []).lookup x=some c:=by
 show isSome_iff_exists.mp<|PySem.W.cellsFrom_some _ n [] (.inl b)
theorem se{c:Bool}{CX:CXT}{P:zi}{w:xr}{K:Frag}{mg:Str->Option zy}{base:qq}{N ps:List Str}{qual:Str}{g:Scope}{f:zv}{j:zy}{A:xx}{outer:List Env}{s s1:zn}{H:Hp}{E:XK}{m:List zy}{vs:List V}(S:FnScope N ps g)(D:c=true->A.handled=none)(d:Env0 P w K mg base A outer s H)(G:vs.length=ps.length)(r:aB vs m)(x:InCallC s s.heap.objs.size (bindL (envOfC qual g s.heap.objs.size f j).kindOf (ps.zip m) λ_=>none) (cellsFrom (s.heap.objs.size+1) g.names []) (bindC (envOfC qual g s.heap.objs.size f j).kindOf (ps.zip m) λ_=>none) s1):
  Inv {kU CX P w K mg base N qual g f j A outer s H E with calm:=c} [] (start N vs) H s1:=by
 have I:ps.length<=N.length:=by have:=congrArg length S.pre;rw[D6]at this;lia
 let(h1,tk,rfl,o):=x.done;have l:∀b:zv,b∉({kU CX P w K mg base N qual g f j A outer s H E with calm:=c}:Cx).ex:=λb z=>absurd (show b∈([]:List zv)from z) (by simp);show{{d.mod,S.kind,rfl,rfl,A8 _,λy z c h1 h2=>?_,λy hy=>?_,λy c _ h=>?_,D,Around.frames_deeper d.frames,.inr ⟨rfl,rfl⟩,λb z=>absurd z<|l b,d.bs,d.bsz,λb _ _=>l b,λb z=>absurd z<|l b,d.funs,d.frf},
  rfl,d.bare,Un.kept o,{_,x.toInCall.ns,λi y v h1 h2 h3=>?_},λy c h=>⟨_,x.cell y c h⟩,d.hok.fresh<|A8 _,λy c h=>?_,λp hp=>absurd (show p∈([]:List<|zv×Obj)from hp) (by simp),d.hok.kept o,?_}
 .show name_of_addr x.apart (CK h1)<|CK h2
 .rcases hy with hy|hy
  .show qh hy
  .show absurd rfl<|S.nofree _ (CK hy)
 .show F1<|x.above y c (CK h)
 .have hi:i<vs.length:=by
   unfold start at h2
   by_cases hi:i<vs.length
   .show hi
   .rw[D8 (by simpa using hi)]at h2;rw[List.getElem?_replicate]at h2
    split at h2<;>cases h2
  have C:vs[i]?=some v:=by
   unfold start at h2;rw[E9 (by simpa using hi),B7]at h2;cases e:vs[i]? with
   |none=>rw[e]at h2;cases h2
   |some a=>rw[e]at h2;cases h2;rfl
  let(u,t,F):=r.get C;have hp:ps[i]?=some y:=by
   rw[<-S.pre,List.getElem?_take_of_lt (by lia)];show h1
  have B:ps.Nodup:=by rw[<-S.pre];show S.nd.sublist<|take_sublist _ _
  show{u,F,?_};rcases S.par y (C3 hp)with k|k
  .show .inl ⟨k,nG B hp t k⟩
  .let(c,e):=qh (n:=s.heap.objs.size+1) k;show .inr {.inl k,c,e,?_};have q:=x.cell y c e;rw[nH B hp t (by change g.names.lookup y≠_;rw[k];decide)]at q;show q
 .show d.hok.fresh<|F1 (x.above y c<|CK h)
 .unfold start;change _=N.length;rw[B0,A1,List.length_replicate]
  lia
structure RmOk(c:Bool)(Rm:Nat->xx->Prop):Prop where
 depth:∀{k A},Rm k A->A.depth<recursionLimit
 hd:∀{k A},c=true->Rm k A->A.handled=none
 deeper:∀{k A},Rm (k+1) A->∀env,Rm k<|A.deeper env
theorem wT{c:Bool}{i:Nat->xx->Prop}(o:RmOk c i){CX:CXT}{P:zi}{w:xr}{K:Frag}{mg:Str->Option zy}{base:qq}{k:Nat}{f:zv}{name qual:Str}{I:Arguments}{j:List Stmt}{a:Scope}{B kV C J cdv ct oc:zy}{z a1:Option zv}{a2:Array _}{N ps:List Str}{sp:Sp}(a0:K.lookup f=some {oc,a1,.func<|fnOf name qual I j a B kV C J z cdv ct,a2})(R:codeIn K cdv qual=true)(S:FnScope N ps a)(G:∀vs H Q E,sp vs H Q E->vs.length=ps.length)(O:∀(A:xx) (outer:List Env) (s:zn) (H:Hp) (vs:List V) (Q:VK) (E:XK),i k (A.deeper<|envOfC qual a s.heap.objs.size f cdv)->sp vs H Q E ->
   ∃t,PSs {kU CX P w K mg base N qual a f cdv A outer s H E with calm:=c} j t/\t {nx:=λ_ H'=>Q .non H',rt:=Q} (start N vs) H):
  FnOkG i P w K mg base CX (k+1) f (fnOf name qual I j a B kV C J z cdv ct) ps sp:=by
 show{G,λA outer s H a3 us vs Q E l g M r F=>?_};have X:=G _ _ _ _ F;have p:K.In s.heap:=g.mod.kin.keeps λb o e=>(g.bs b o e).1;have U:∀y∈ps.zip us,a.names.lookup y.1=some .local\/(a.names.lookup y.1=some .cell/\((cellsFrom (s.heap.objs.size+1) a.names []).lookup y.1).isSome=true):=λ⟨n,v⟩ hy=>by
  rcases S.par n (of_mem_zip hy).1 with q|q
  .show .inl q
  .show .inr {q,PySem.W.cellsFrom_some _ _ _<|.inl q}
 show codeAny_call_function (o.depth l) (p _ _ a0) rfl S.co S.gen rfl (PySem.W.codeRec_of p R)<|M _ _ _ _ (wpAny_newFunctionEnv_cells S.kind U λa4 T s1 x=>?_);subst T;show{(g.mod.nolimit.keeps λb o e=>(g.bs b o e).1).keeps x.toInCall.keep,codeAny_func ?_};let(t,Z,Y):=O A outer s H vs Q E (o.deeper l _) F;show wpAny_mono (Z [] s1 (start N vs) H _ (se S (λe=>o.hd e l) g X r x) Y) (λL s' hs=>?_) λe s' hs=>hs;have D:∀{h:St}{H':Hp}{v:V}{u:zy},Inv {kU CX P w K mg base N qual a f cdv A outer s H E with calm:=c} [] h H' s'->aH v u->Q v H'->CE outer P w H s Q u s' :=
  λ{h H' v u} d m q=>⟨v,H',d.os,d.bare,d.base,d.hok,m,q⟩
 cases L with
 |ret u =>
  let(v,h,H',d,m,q):=hs;show D d m q
 |next =>
  let(h,H',d,q):=hs;show D (v:=V.non) d rfl q
 |brk =>
  let(_,_,_,q):=hs;show False.elim q
 |cont =>
  let(_,_,_,q):=hs;show False.elim q
theorem FD:RmOk true Room:={λr=>r.depth,λ_ r=>r.hd,λr a=>r.deeper a}
section
variable{X:Cx}{x:Str}{p pos:Pos}{e:Expr}{es:List Expr}{t:TA}{id T:String}{r:List V->Hp->VK->Prop}
def tCB(r:List V->Hp->VK->Prop)(t:TA):TE:=λσ H Q=>t σ H λvs H1=>r vs H1 Q
theorem ay(c:cq X (.builtin id) r)(g:Gl X x)(i:X.mg x=none)(l:bootBuiltins x=some (.builtin id))(b:PA X (e::es) t)(j:x≠"__name__":=by decide)(d:(x==("__debug__"))=false:=by decide)(f:starEach (e::es) X.env=(false,eval e X.env)::starEach es X.env:=by rfl)(k:(backTo pos<|starEach es X.env).any (·.1)=false:=by rfl):PE X (.Call (.Name x p) (e::es) [] pos) (tCB r t):=by
 intro pins s σ H Q I h;show wpAny_Call_Name_kw<|fe I g i l (PyProof.Rows.callWith_builtin1 (thn (b pos _ s σ H _ I h) λus s1 ⟨vs,H1,a,n,m⟩=>c _ s1 σ H1 vs us Q a n m) f k) j d
theorem aD(c:cq X (.type T) r)(g:Gl X x)(i:X.mg x=none)(l:bootBuiltins x=some (.type T))(b:PA X (e::es) t)(j:x≠"__name__":=by decide)(d:(x==("__debug__"))=false:=by decide)(f:starEach (e::es) X.env=(false,eval e X.env)::starEach es X.env:=by rfl)(k:(backTo pos<|starEach es X.env).any (·.1)=false:=by rfl):PE X (.Call (.Name x p) (e::es) [] pos) (tCB r t):=by
 intro pins s σ H Q I h;show wpAny_Call_Name_kw<|fe I g i l (E3 (thn (b pos _ s σ H _ I h) λus s1 ⟨vs,H1,a,n,m⟩=>c _ s1 σ H1 vs us Q a n m) f k) j d
end
end L2
namespace HT
open PySem PyProof.Rows
section
open PySem.SeqAt
open PySem.AutoSeq1 (wpAny_loadPart')
open PySem.MeetsSeq PySem.MeetsSeq2 PySem.MeetsSeq3
end
section
variable{prog:zi}{w:xr}{A:xx}{E:zy->zn->Prop}{s:zn}
theorem Aa{t b:zv}{vs ws:List _}{Q:zy->zn->Prop}(r:IsTup s.heap t vs.toArray)(l:IsTup s.heap b ws.toArray)(g:vs≠[])(k:ws=[]->Q (.ref t) s)(h2:ws≠[]->Q (.ref s.heap.objs.size) {s with heap:=s.heap.push {cls:=.type "tuple",data:=.seq (vs++ws).toArray}})(hsz:vs.length+ws.length<=sizeLine):wpAny (model prog w) A (binaryOp .Add (.ref t)<|.ref b) Q E s:=by
 let((cls,dd,data,i),a,m,n,p):=id r;let((u,f,data2,j),c,o,h,q):=id l;subst m p o q;have e:vs.toArray++ws.toArray=(vs++ws).toArray:=by simp
 by_cases d:ws=[]
 .show concat_meets ⟨_,a,rfl⟩ ⟨_,c,rfl⟩ noFill_tuple_add seq_tuple_add slot_tuple_add entry_tuple_add (args_tuple_add_2 _ _)
   (tuple_addW1 t b _ _ n h dd f i j (by simpa using g) (by simp[d])) ⟨a,c,k d⟩
 .show concat_meets ⟨_,a,rfl⟩ ⟨_,c,rfl⟩ noFill_tuple_add seq_tuple_add slot_tuple_add entry_tuple_add (args_tuple_add_2 _ _)
   (tuple_addW2 t b _ _ n h dd f i j (by simpa using g) (by simpa using d) (by show hsz)) {a,c,?_}
  rw[e];show h2 d
def sIx(n d:Nat):Option Int->Nat
 |none=>d
 |some v=>if v<0 then (v+(n:Int)).toNat else min v.toNat n
theorem iY(n d:Nat):sIx n d none=d:=rfl
theorem lc(n d k:Nat):sIx n d (some k)=min k n:=by
 change(if k<0 then (k+(n:Int)).toNat else min _ n)=min k n
 rw[A4 (by lia),toNat_natCast]
theorem tL(v:Int)(n d:Nat):(if v<0 then max (v+n) 0 else min v n)=((sIx n d<|some v)):=by
 change(if v<0 then max _ 0 else min v n)=(((if v<0 then (v+n).toNat else min _ n)))
 by_cases a:v<0
 .lia
 .lia
theorem sf(lo a:Option Int)(n:Nat):Builtin.Slice.sliceAdjust lo a 1 n=(((sIx n 0 lo):Int),((sIx n n a):Int)):=by
 have h1:¬(1<0):=by lia
 unfold Builtin.Slice.sliceAdjust;show Prod.ext ?_ ?_
 .cases lo with
  |none=>rfl
  |some v=>show tL v n 0
 .cases a with
  |none=>rfl
  |some v=>show tL v n n
theorem sh(i j:Nat):Builtin.Slice.slicePlaces i j 1=j-i:=by
 unfold Builtin.Slice.slicePlaces
 split<;>lia
theorem lK{v:zy}{o:Option Int}{Q:Option Int->zn->Prop}(p:IsPart v o)(h:Q o s):wpAny (model prog w) A (Builtin.Slice.slicePartIndex v) Q E s:=by
 cases p with
 |none=>show slicePart_none h
 |int i t=>show slicePart_int h
theorem fH{d:zv}{e f:zy}{lo a:Option Int}{n:Nat}{Q:Int×Int×Nat->zn->Prop}(h:s.heap.IsSliceOf d e f .none)(pl:IsPart e lo)(i:IsPart f a)(g:Q (((sIx n 0 lo:Nat):Int),1,sIx n n a-sIx n 0 lo) s):wpAny (model prog w) A (Builtin.Slice.sliceApplied (.ref d)<|pure (n:Int)) Q E s:=by
 let(os,c,j,b):=id h;show Wb<|Wb (wpAny_field c b rfl<|Wb (wpAny_field c b rfl<|Wb (wpAny_field c b rfl<|Wp (Wb<|slicePart_none ?_))));change wpAny _ _ _ _ _ s;show Wb<|lK pl (Wb<|lK i (Wb<|Wp ?_));change wpAny _ _ (match Builtin.Slice.sliceAdjust lo a 1 n with|(lo,a)=>pure (lo,(1:Int),Builtin.Slice.slicePlaces lo a 1)) _ _ s
 rw[sf lo a n];change wpAny _ _ (pure _) _ _ s;rw[sh];show Wp g
theorem wU(xs:Array zy)(i k:Nat):((List.range k).filterMap λ(m:Nat)=>xs[(i+(m:Int)*1).toNat]?).toArray=((xs.toList.drop i).take k).toArray:=by
 have e:(λ(m:Nat)=>xs[((i:Int)+m*1).toNat]?)=λm=>xs[i+m]?:=by
  funext m
  have:(i+(m:Int)*1).toNat=i+m:=by lia
  rw[this]
 rw[e];have:=pick_run xs i k;rw[List.filterMap_map]at this;have a:((λx=>xs[x]?)∘λx=>i+x)=λm=>xs[i+m]?:=rfl;rw[a]at this;rw[this]
theorem iZ{t f:zv}{items:Array zy}{g h:zy}{lo a:Option Int}{Q:zy->zn->Prop}(c:IsTup s.heap t items)(e:s.heap.IsSliceOf f g h .none)(pl:IsPart g lo)(m:IsPart h a)(l:¬(sIx items.size 0 lo=0/\sIx items.size items.size a=items.size))(b:Q (.ref s.heap.objs.size) {s with heap:=s.heap.push {cls:=.type "tuple",data:=.seq ((items.toList.drop<|sIx items.size 0 lo).take (sIx items.size items.size a-sIx items.size 0 lo)).toArray}})(hsz:items.size<=sizeLine):wpAny (model prog w) A (getItem (.ref t)<|.ref f) Q E s:=by
 have d:sizeOk (.seq ((items.toList.drop<|sIx items.size 0 lo).take (sIx items.size items.size a-sIx items.size 0 lo)).toArray):=by
  change((items.toList.drop<|sIx items.size 0 lo).take (sIx items.size items.size a-sIx items.size 0 lo)).toArray.size<=sizeLine;rw[B2,D6,G1,B6]
  lia
 let(os,k,i,n):=id e;unfold getItem
 try with_reducible show wpAny_holding ?_
 first|show Wb (Wp ?_)|skip
 show Wb<|wpAny_sequenceKey c.typeIs (by decide) (Wb (wpAny_callSpecial?_slot c.typeIs CV
  (wpAny_call_entry CV c.typeIs entry_tuple_getitem ?_<|args_tuple_getitem _ _)))
 change wpAny _ _ (Builtin.Tuple.tupleItemsOf (.ref t) >>= _) _ _ s;show Wb<|tupleItemsOf_ c ?_;show Wb<|wpAny_typeOf (⟨os,k,i⟩) ?_;rw[A6 (by decide)];show Wb<|fH e pl m ?_;have j:¬((((sIx items.size 0 lo:Nat):Int)==0&&(1:Int)==1&&(sIx items.size items.size a-sIx items.size 0 lo)==items.size)=true):=by
  intro q;rw[D7,D7]at q;have o:((sIx items.size 0 lo:Nat):Int)=0:=eq_of_beq q.1.1;have p:sIx items.size items.size a-sIx items.size 0 lo=items.size:=eq_of_beq q.2;show l ⟨by lia,by lia⟩
 change wpAny _ _ (if (((sIx items.size 0 lo:Nat):Int)==0&&(1:Int)==1&&(sIx items.size items.size a-sIx items.size 0 lo)==items.size)=true then _ else _) _ _ s
 rw[A4 j,wU]
 first
  |show Wb<|wpAny_newObj_type (Wp ⟨_,rfl,Wp b⟩) d
  |show Wb<|wpAny_newObj_type (Wb<|Wp (Wp ⟨_,rfl,Wp b⟩)) d
  |show Wb<|Wb (wpAny_newObj_type (Wp<|Wp ⟨_,rfl,Wp b⟩) d)
  |show Wb<|Wb (wpAny_newObj_type (Wp ⟨_,rfl,Wp b⟩) d)
end
end HT
namespace L2
open PySem PySem.Spec PyProof.Rows
abbrev TO:=St->Hp->(Option Int->Hp->Prop)->Prop
def PO(X:Cx)(e:Option Expr)(t:TO):Prop :=
 ∀(pins:List<|zv×Obj)(s:zn)(σ:St)(H:Hp)(Q:Option Int->Hp->Prop),Inv X pins σ H s->t σ H Q ->
  wpAny (model X.prog X.w) X.A (evalPart e X.env) (λu s'=>∃o H',Inv X pins σ H' s'/\IsPart u o/\Q o H') X.xe s
def Ab:TO:=λ_ H Q=>Q none H
def FE(t:TE):TO:=λσ H Q=>t σ H λx H1=>∃i,x=.int i/\Q (some i) H1
theorem sk{ns:List Int}:∀{us:List _},aB (ns.map V.int) us->IntsAre us ns:=by
 induction ns with
 |nil=>intro us r;cases r;show .nil
 |cons n ns a =>
  intro us r;cases r with
  |cons b c =>
   let(t,e):=b;subst e;show .cons n t<|a c
section
variable{X:Cx}{e:Expr}{te:TE}{lo hi:Option Expr}{tl th:TO}{pos p2:Pos}
theorem dR:PO X none Ab:=by
 intro pins s σ H Q I h;show Wp ⟨none,H,I,.none,h⟩
theorem cX(b:PE X e te):PO X (some e) (FE te):=by
 intro pins s σ H Q I d;show thn (b _ s σ H _ I d) λu s1 c=>?_;let(x,H1,a,g,f):=c;let(i,rfl,q):=f;let(t,rfl):=g;show{some i,H1,a,.int i t,q}
def SlR(X:Cx)(r:V->Option Int->Option Int->Hp->VK->Prop):Prop :=
 ∀(pins:List<|zv×Obj)(s:zn)(σ:St)(H:Hp)(x:V)(v b c:zy)(lo hi:Option Int)(a:zv)(Q:VK),Inv X pins σ H s->aH x v->s.heap.IsSliceOf a b c .none->IsPart b lo->IsPart c hi->r x lo hi H Q ->
  ∃T id,typeLookup (.type T) "__getitem__"=pure (some<|.builtin id)/\s.TypeIs v T/\wpAny (model X.prog X.w) X.A (getItem v<|.ref a) (EP X pins σ Q) X.xe s
theorem SlR.or{r b:V->Option Int->Option Int->Hp->VK->Prop}(g:SlR X r)(h':SlR X b):SlR X (λx lo hi H Q=>r x lo hi H Q\/b x lo hi H Q):=by
 intro pins s σ H x v e f lo hi d Q I c hs pl a q;rcases q with q|q
 .show g _ s σ H x v e f lo hi d Q I c hs pl a q
 .show h' _ s σ H x v e f lo hi d Q I c hs pl a q
def tSl(r:V->Option Int->Option Int->Hp->VK->Prop)(b:TE)(d c:TO):TE:=λσ H Q=>b σ H λx H1=>d σ H1 λl H2=>c σ H2 λu a=>r x l u a Q
theorem cH{r:V->Option Int->Option Int->Hp->VK->Prop}(n:SlR X r)(i:PE X e te)(k:PO X lo tl)(p:PO X hi th):PE X (.Subscript e (.Slice lo hi none p2) pos) (tSl r te tl th):=by
 intro pins s σ H Q I h;show Subscript_<|thn (i _ s σ H _ I h) λv s1 ⟨x,H1,c,B,w⟩=>(wpAny_Slice<|thn (k _ s1 σ H1 _ c w) λD C ⟨l,H2,d,pl,y⟩=>thn (p _ C σ H2 _ d y) λE G m=>?_);let(u,a,f,t,z):=m;show Wp ?_;let(T,id,g,o,j):=n _ _ σ a x v D E l u _ Q (f.kept λb F q=>A0 _ q) B (Heap.IsSliceOf.new ..) pl t z;change wpAny _ X.A _ _ _ _;show tail_any o g j (by with_unfolding_all rfl)
def iu(xs:List V)(lo a:Option Int):List V:=(xs.drop<|HT.sIx xs.length 0 lo).take (HT.sIx xs.length xs.length a-HT.sIx xs.length 0 lo)
theorem kI(xs:List V)(lo a:Option Int):(iu xs lo a).length<=xs.length:=by
 unfold iu;rw[D6,G1]
 lia
inductive rSlT(K:Frag)(x:V)(lo hi:Option Int)(H:Hp)(Q:VK):Prop
 |mk a xs (_:x=.ref a) (_:SqT K H a xs) (_:¬(HT.sIx xs.length 0 lo=0/\HT.sIx xs.length xs.length hi=xs.length)) (_:∀p,H p=none->Q (.ref p) (upd H p<|.tup (iu xs lo hi)))
theorem lL:SlR X (rSlT X.K):=by
 intro pins s σ H x v m n lo hi l Q I j hs pl i h;let(a,xs,rfl,g,f,q):=h;cases j;let(its,r,d,e):=I.tuple g;have c:its.toArray.size=xs.length:=by show r.length.symm
 show{"tuple",_,CV.lookup,d.typeIs,(HT.iZ d hs pl i (by rw[c];show f) ?_ (by rw[c];show e))};rw[c];show{.ref _,_,I.laid (λb k q=>A0 _ q) (A8 _) ?_,rfl,q _<|I.hok.fresh (A8 _)};show{CL (kI xs lo hi) e,_,(r.drop _).take _,IsTup.new _ _}
inductive rCatT(K:Frag)(x y:V)(H:Hp)(Q:VK):Prop
 |mk a b xs ys (_:x=.ref a) (_:y=.ref b) (_:SqT K H a xs) (_:SqT K H b ys) (_:xs≠[]) (_:xs.length+ys.length<=sizeLine) (_:(ys=[]->Q (.ref a) H)) (_:(ys≠[]->∀p,H p=none->Q (.ref p) (upd H p<|.tup (xs++ys))))
theorem aB.nil_iff{xs:List V}{a:List _}(r:aB xs a):a=[]↔xs=[]:=by
 cases r with
 |nil=>simp
 |cons _ _=>simp
theorem ij:OpR X (binaryOp .Add) (rCatT X.K):=by
 intro pins s σ H x y v u Q I m n h;let(a,b,xs,ys,rfl,rfl,f,g,i,e,k,l):=h;cases m;cases n;let(its,d,j,_):=I.tuple f;let(o,c,p2,_):=I.tuple g;show HT.Aa j p2 (λz=>i<|d.nil_iff.mp z) (λz=>{.ref a,H,I,rfl,k<|c.nil_iff.mp z}) (λz=>{.ref _,_,I.laid (λb p q=>A0 _ q) (A8 _) ?_,rfl,l (λw=>z<|c.nil_iff.mpr w) _<|I.hok.fresh (A8 _)}) (by rw[<-d.length,<-c.length];show e);show{by rw[B0];show e,_,d.append c,IsTup.new _ _}
end
def ixN(n:Nat)(i:Int):Option Nat:=if 0<=i then (if i<n then some i.toNat else none)else if -(n:Int)<=i then some (i+n).toNat else none
def atI{α:Type}(xs:List α)(i:Int):Option α:=(ixN xs.length i).bind λj=>xs[j]?
theorem tM{n:Nat}{i:Int}{j:Nat}(a:ixN n i=some j):seqIndex? i n=some j/\j<n/\-n<=i/\i<n:=by
 unfold ixN at a
 by_cases b:0<=i
 .rw[A6 b]at a
  by_cases h1:i<n
  .rw[A6 h1]at a;show{by rw[seqIndex_of b h1,(Option.some.inj a)],by lia,by lia,h1}
  .rw[A4 h1]at a;cases a
 .rw[A4 b]at a
  by_cases h1:-n<=i
  .rw[A6 h1]at a;show{by rw[seqIndex_neg (by lia) h1,(Option.some.inj a)],by lia,h1,by lia}
  .rw[A4 h1]at a;cases a
theorem pc{α:Type}{xs:List α}{i:Int}{v:α}(a:atI xs i=some v):∃j,seqIndex? i xs.length=some j/\xs[j]?=some v/\j<xs.length/\-xs.length<=i/\i<xs.length:=by
 unfold atI at a;cases e:ixN _ i with
 |none=>rw[e]at a;cases a
 |some j =>
  rw[e]at a;let(h1,h2,h3,b):=tM e;show⟨j,h1,a,h2,h3,b⟩
theorem pe{α:Type}{xs:List α}{j:Nat}{v:α}(a:xs[j]?=some v):atI xs j=some v:=by
 have b:=(A9.mp a).1;have e:ixN xs.length j=some j:=by
  unfold ixN;rw[A6 (by lia),A6 (by lia)];simp
 unfold atI;rw[e];show a
theorem wV{α:Type}(xs:List α)(v:α):atI (xs++[v]) (-1)=some v:=by
 have a:(xs++[v]).length=xs.length+1:=by simp
 have e:ixN (xs++[v]).length (-1)=some xs.length:=by
  unfold ixN;rw[a,A4 (by decide),A6 (by lia)]
  congr 1
  lia
 unfold atI;rw[e];change(xs++[v])[xs.length]?=some v;simp
def tN(b:Expr):Prop:=∀o i,subscripted b false o i=operate [o,i] (getItem o i)
def IxR(X:Cx)(r:R2):Prop :=
 ∀(value a:Expr)(pins:List<|zv×Obj)(s:zn)(σ:St)(H:Hp)(x y:V)(v u:zy)(Q:VK),Inv X pins σ H s->aH x v->aH y u->r x y H Q ->
  subscripted a false v u=operate [v,u] (getItem v u)->wpAny (model X.prog X.w) X.A (subscriptTail value a v u) (EP X pins σ Q) X.xe s
def MtR(X:Cx)(id:String)(r:V->List V->Hp->VK->Prop):Prop :=
 ∀(pins:List<|zv×Obj)(s:zn)(σ:St)(H:Hp)(x:V)(xs:List V)(v:zy)(us:List zy)(Q:VK),Inv X pins σ H s->aH x v->aB xs us->r x xs H Q ->
  wpAny (model X.prog X.w) X.A (call (.builtin id) (v::us)) (EP X pins σ Q) X.xe s
section
variable{X:Cx}{a b:Expr}{ta tb:TE}{pos:Pos}
theorem cw{r:R2}(f:IxR X r)(d:PE X a ta)(e:PE X b tb)(g:tN b):PE X (.Subscript a b pos) (tOp r ta tb):=by
 intro pins s σ H Q I h;show Subscript_<|Cr d e I h λv u k x y H2 c i j q=>f a b _ k σ H2 x y v u Q c i j q<|g _ _
inductive rIxL(K:Frag)(x y:V)(H:Hp)(Q:VK):Prop
 |mk p xs i v (_:x=.ref p) (_:y=.int i) (_:SqL K H p xs) (_:atI xs i=some v) (_:Q v H)
inductive rIxT(K:Frag)(x y:V)(H:Hp)(Q:VK):Prop
 |mk p xs i v (_:x=.ref p) (_:y=.int i) (_:SqT K H p xs) (_:atI xs i=some v) (_:Q v H)
inductive rIxS(x y:V)(H:Hp)(Q:VK):Prop
 |mk z i c (_:x=.str z) (_:y=.int i) (_:z.length<=sizeLine) (_:atI z.cps.toList i=some c) (_:Q (.str {#[c]}) H)
theorem bn:IxR X (rIxL X.K):=by
 intro value C pins s σ H x y v u Q I n o h hs;let(p,xs,i,z,rfl,rfl,l,g,q):=h;cases n;let(t,rfl):=o;let(its,r,pl,B):=I.list l;let(j,h1,h2,h3,e,f):=pc g;let(w,b,m):=r.get h2;have k:=r.length;have A:=jE;have c:EP X _ σ Q w s:=⟨z,H,I,m,q⟩
 by_cases d:0<=i
 .have a:i.toNat=j:=by
   rw[seqIndex_of d f]at h1;show Option.some.inj h1
  show item_listR pl.isList d (by lia) (by rw[a];simpa using b) c hs
 .have a:(i+its.toArray.size).toNat=j:=by
   rw[seqIndex_neg (by lia) e]at h1;rw[B2,<-k];show Option.some.inj h1
  show subscriptTail_builtinR pl.isList.typeIs slot_list_getitem.lookup
   (wpAny_getItem_list_neg pl.isList (by lia) (by rw[B2]<;>lia) (by lia) (by rw[a];simpa using b) ⟨rfl,c⟩) hs
theorem Cw:IxR X (rIxT X.K):=by
 intro value n pins s σ H x y v u Q I e f h hs;let(p,xs,i,z,rfl,rfl,c,b,q):=h;cases e;let(t,rfl):=f;let(its,r,pl,l):=I.tuple c;let(m,h1,h2,h3,g,j):=pc b;let(w,a,d):=r.get h2;have k:=jE;show subscriptTail_builtinR pl.typeIs slot_tuple_getitem.lookup
  (getItem_tuple pl (by lia) (by lia) (by rw[B2,<-r.length];show h1) (by simpa using a) {rfl,(⟨z,H,I,d,q⟩)}) hs
theorem Cy:IxR X rIxS:=by
 intro value m pins s σ H x y v u Q I f g h hs;let(z,i,c,rfl,rfl,k,d,q):=h;let(t,rfl):=f;let(n,rfl):=g;let(l,h1,h2,h3,a,b):=pc d;have e:z.cps.toList.length=z.length:=by simp[Str.length]
 rw[e]at h1 a b;have j:=jE;show tail_any (typeIs_str s z t) slot_str_getitem.lookup (getItem_str (by
  rw[B9 (by lia),(B9 (by lia)),Bool.or_false]) (by rw[h1];simpa using h2) ⟨.str _,H,I.tok _,⟨_,rfl⟩,q⟩) hs
theorem ph(lo a:Option Int)(n:Nat):(sliceBounds lo a none n).1=((HT.sIx n 0 lo))/\(sliceBounds lo a none n).2.1=((HT.sIx n n a))/\(sliceBounds lo a none n).2.2=1:=by
 show{?_,?_,rfl}
 .cases lo with
  |none=>simp[sliceBounds,HT.sIx]
  |some i =>
   simp only[sliceBounds,HT.sIx,getD_none,D9]
   by_cases h:i<0
   .simp only[h]<;>lia
   .simp only[h]<;>lia
 .cases a with
  |none=>simp[sliceBounds,HT.sIx]
  |some i =>
   simp only[sliceBounds,HT.sIx,getD_none,D9]
   by_cases h:i<0
   .simp only[h]<;>lia
   .simp only[h]<;>lia
theorem mT(a:List _)(lo b:Option Int):slicePick a.toArray lo b none=((a.drop<|HT.sIx a.length 0 lo).take (HT.sIx a.length a.length b-HT.sIx a.length 0 lo)).toArray:=by
 let(h1,h2,h3):=ph lo b _;unfold slicePick;rw[h1,h2,h3];simp only[sliceRange_one,pick_run]<;>rfl
inductive rSlL(K:Frag)(x:V)(lo hi:Option Int)(H:Hp)(Q:VK):Prop
 |mk a xs (_:x=.ref a) (_:SqL K H a xs) (_:∀p,H p=none->Q (.ref p) (upd H p<|.lst (iu xs lo hi)))
theorem lh:SlR X (rSlL X.K):=by
 intro pins s σ H x v l m lo hi k Q I i hs pl g h;let(a,xs,rfl,e,q):=h;cases i;let(its,r,c,f):=I.list e;have d:=r.length;show{"list",_,slot_list_getitem.lookup,c.isList.typeIs,(wpAny_getItem_list_slice c.isList hs pl g .none (by simp) ?_ (by rw[B2]<;>lia))};rw[mT,<-d];show{.ref _,_,I.laid (λb j q=>A0 _ q) (A8 _) ?_,rfl,q _<|I.hok.fresh (A8 _)};show{CL (kI xs lo hi) f,_,0,(r.drop _).take _,A5 _ rfl}
def dP:V->Bool
 |.non=>true
 |.bl _=>true
 |.int _=>true
 |.str _=>true
 |_=>false
def eqV:V->V->Bool
 |.non,.non=>true
 |.bl a,.bl b=>a==b
 |.bl a,.int b=>(if a then 1 else 0)==b
 |.int a,.bl b=>a==(if b then 1 else 0)
 |.int a,.int b=>a==b
 |.str a,.str b=>a==b
 |_,_=>false
theorem lM{A:xx}{s:zn}{y x:V}{u v:zy}(f:aH y u)(c:aH x v)(g:dP y=true)(e:dP x=true):EqAt A s u v (eqV y x):=by
 cases y with
 |non =>
  cases f;cases x with
  |non=>cases c;show EqAt.same _
  |bl b=>cases c;show EqAt.none_bool b
  |int b=>let(t,rfl):=c;show EqAt.none_int b t
  |str b=>let(t,rfl):=c;show EqAt.none_str b t
  |_=>show absurd (e) C4
 |bl a =>
  cases f;cases x with
  |non=>cases c;show EqAt.bool_none a
  |bl b=>cases c;show EqAt.bool_bool a b
  |int b=>let(t,rfl):=c;show EqAt.bool_int a b t
  |str b=>let(t,rfl):=c;show EqAt.bool_str a b t
  |_=>show absurd (e) C4
 |int a =>
  let(d,rfl):=f;cases x with
  |non=>cases c;show EqAt.int_none a d
  |bl b=>cases c;show EqAt.int_bool a d b
  |int b=>let(t,rfl):=c;show EqAt.int_int a d b t
  |str b=>let(t,rfl):=c;show EqAt.int_str a d b t
  |_=>show absurd (e) C4
 |str a =>
  let(d,rfl):=f;cases x with
  |non=>cases c;show EqAt.str_none a d
  |bl b=>cases c;show EqAt.str_bool a d b
  |int b=>let(t,rfl):=c;show EqAt.str_int a d b t
  |str b=>let(t,rfl):=c;show EqAt.str_str a d b t
  |_=>show absurd (e) C4
 |_=>show absurd (g) C4
def eqU(x:V)(u:zy):Bool:=match u with
 |.none=>eqV .non x
 |.bool b=>eqV (.bl b) x
 |.int i _=>eqV (.int i) x
 |.str z _=>eqV (.str z) x
 |_=>false
theorem wW{x y:V}{u:zy}(r:aH y u)(f:dP y=true):eqU x u=eqV y x:=by
 cases y with
 |non=>cases r;rfl
 |bl b=>cases r;rfl
 |int i=>let(t,rfl):=r;rfl
 |str z=>let(t,rfl):=r;rfl
 |_=>show absurd (f) C4
theorem ja{x:V}:∀{xs:List V}{us:List _},aB xs us->xs.all dP=true->us.any (eqU x)=xs.any λy=>eqV y x
 |_,_,.nil,_=>rfl
 |y::xs,u::us,.cons r t,f=>by
  rw[List.all_cons,D7]at f;rw[any_cons,any_cons,wW r f.1,ja t f.2]
theorem gJ{A:xx}{s:zn}{x:V}{v:zy}(c:aH x v)(b:dP x=true):∀{xs:List V}{us:List _},aB xs us->xs.all dP=true->∀u∈us,EqAt A s u v (eqU x u)
 |_,_,.nil,_=>λu a=>by cases a
 |y::xs,u::us,.cons r t,f=>λd a=>by
  rw[List.all_cons,D7]at f;rcases B3.mp a with rfl|a
  .rw[wW r f.1];show lM r c f.1 b
  .show gJ c b t f.2 d a
def inV(x:V)(xs:List V):Bool:=xs.any λy=>eqV y x
inductive rIn(K:Frag)(neg:Bool)(x y:V)(H:Hp)(Q:VK):Prop
 |mk p xs (_:y=.ref p) (_:(SqL K H p xs\/SqT K H p xs)) (_:dP x=true) (_:xs.all dP=true) (_:Q (.bl (if neg then !inV x xs else inV x xs)) H)
theorem vk:OpR X (compareOp .In) (rIn X.K false):=by
 intro pins s σ H x y v u Q I d f h;let(p,xs,rfl,a,c,fs,q):=h;cases f;rcases a with a|a
 .let(its,r,pl,e):=I.list a;show SeqAt.in_listAt _ pl.isList (λw b=>gJ d c r fs w (by simpa using b)) {.bl _,H,I,rfl,?_};rw[show its.toArray.any _=its.any (eqU x)by simp,ja r fs];show q
 .let(its,r,pl,e):=I.tuple a;show SeqAt.in_tupleAt _ pl (λw b=>gJ d c r fs w (by simpa using b)) {.bl _,H,I,rfl,?_};rw[show its.toArray.any _=its.any (eqU x)by simp,ja r fs];show q
theorem jb:OpR X (compareOp .NotIn) (rIn X.K true):=by
 intro pins s σ H x y v u Q I d f h;let(p,xs,rfl,a,c,fs,q):=h;cases f;rcases a with a|a
 .let(its,r,pl,e):=I.list a;show SeqAt.notIn_listAt _ pl.isList (λw b=>gJ d c r fs w (by simpa using b)) {.bl _,H,I,rfl,?_};rw[show its.toArray.any _=its.any (eqU x)by simp,ja r fs];show q
 .let(its,r,pl,e):=I.tuple a;show SeqAt.notIn_tupleAt _ pl (λw b=>gJ d c r fs w (by simpa using b)) {.bl _,H,I,rfl,?_};rw[show its.toArray.any _=its.any (eqU x)by simp,ja r fs];show q
theorem aP:cq X (.builtin "len") (λxs H Q=>∃p ys,xs=[.ref p]/\(SqL X.K H p ys\/SqT X.K H p ys)/\Q (.int ys.length) H):=by
 intro pins s σ H xs us Q I r h;let(p,ys,rfl,a,q):=h;let(u,rfl,e):=cD r;cases e;have f:=jE;rcases a with a|a
 .let(its,c,pl,d):=I.list a;have b:=c.length;show Calls.call_len_list pl.isList (by simp only[B2]<;>lia) {.int _,H,I.tok _,{s.toks+1,by rw[B2,b]},q}
 .let(its,c,pl,d):=I.tuple a;have b:=c.length;show len_tuple pl (by simp only[B2]<;>lia) {.int _,H,I.tok _,{s.toks+1,by rw[B2,b]},q}
theorem jd:cq X (.builtin "len") (λxs H Q=>∃z,xs=[.str z]/\z.length<=sizeLine/\Q (.int z.length) H):=by
 intro pins s σ H xs us Q I r h;let(z,rfl,b,q):=h;let(u,rfl,t,rfl):=cD r;have a:=jE;show len_str (by lia) ⟨.int _,H,I.tok _,⟨_,rfl⟩,q⟩
theorem aS:cq X (.type "tuple") (λxs H Q=>∃p ys,xs=[.ref p]/\((SqL X.K H p ys/\∀l,H l=none->Q (.ref l) (upd H l<|.tup ys))\/(SqT X.K H p ys/\Q (.ref p) H))):=by
 intro pins s σ H xs us Q I r h;let(p,ys,rfl,h):=h;let(u,rfl,i):=cD r;cases i;rcases h with⟨a,q⟩|⟨a,q⟩
 .let(its,c,pl,f):=I.list a;have j:=c.length;show call_tuple_list pl.isList (λh' g=>?_) (by simp only[B2]<;>lia);have d:=I.kept (t':=s.toks) g;show{.ref _,_,(d.laid (t':=s.toks) (λb o e=>A0 _ e) (A8 _) (show cS _ X.w _ _ _ (.tup ys)from{f,its,c,IsTup.new _ _})),rfl,q _<|d.hok.fresh (A8 _)}
 .let(its,c,pl,f):=I.tuple a;show call_tuple_same pl ⟨.ref p,H,I,rfl,q⟩
def tyV(K:Frag)(T:String)(x:V)(H:Hp):Prop:=match x with
 |.str _=>T="str"
 |.int _=>T="int"
 |.ref p=>(T="list"/\∃xs,SqL K H p xs)\/(T="tuple"/\∃o,K.lookup p=some o/\o.cls=.type "tuple"/\o.dict=none) \/
   (T="dict"/\((∃kvs,H p=some (.dK kvs))\/∃kvs,H p=some (.dT kvs)))\/(T="set"/\∃S n,H p=some (.set S n))
 |_=>False
theorem wX{m:List _}{q:St}{H:Hp}{s:zn}{T:String}{x:V}{v:zy}(d:Inv X m q H s)(r:aH x v)(f:tyV X.K T x H):
  s.TypeIs v T/\∀a,v=.ref a->∃j,s.heap.get? a=some j/\j.dict=none:=by
 cases x with
 |str z =>
  let(t,rfl):=r;cases (f);show{typeIs_str s z t,λ_ e=>nomatch e}
 |int i =>
  let(t,rfl):=r;cases (f);show{typeIs_int s i t,λ_ e=>nomatch e}
 |ref p =>
  cases r;rcases f with⟨rfl,xs,l⟩|⟨rfl,o,b,k,h⟩|⟨rfl,b⟩|⟨rfl,S,n,b⟩
  .let(its,_,pl,_):=d.list l;show{pl.isList.typeIs,λa e=>?_};cases e;let(o,n,e,c,h,_):=pl;show⟨o,e,h⟩
  .show{⟨o,d.kIn p o b,k⟩,λa e=>?_};cases e;show{o,d.kIn _ o b,h}
  .have z:∃o,s.heap.get? p=some o/\o.ExactDict:=by
    rcases b with⟨kvs,b⟩|⟨kvs,b⟩
    .let(_,_,_,_,o,_,_,e,ex,_):=d.hok p _ b;show⟨o,e,ex⟩
    .let(_,_,_,_,o,_,_,e,ex,_):=d.hok p _ b;show⟨o,e,ex⟩
   let(o,e,ex):=z;show{⟨o,e,ex.1⟩,λa g=>?_};cases g;show⟨o,e,ex.2.1⟩
  .let(o,_,_,_,e,ex,_):=d.hok p _ b;show{⟨o,e,ex.1⟩,λa g=>?_};cases g;show⟨o,e,ex.2.1⟩
 |_=>show False.elim f
def Hm(K:Frag)(T:String)(r:V->List V->Hp->VK->Prop)(a:TE):TE:=λσ H Q=>a σ H λx H1=>tyV K T x H1/\r x [] H1 Q
def tBM(K:Frag)(T:String)(r:V->List V->Hp->VK->Prop)(a:TE)(t:TA):TE:=λσ H Q=>a σ H λx H1=>tyV K T x H1/\t σ H1 λxs H2=>r x xs H2 Q
variable{o e:Expr}{es:List Expr}{to:TE}{t:TA}{name:Str}{apos cpos:Pos}{T id:String}{r:V->List V->Hp->VK->Prop}
theorem wY(j:PlainAttrs T)(l:Slot T name id)(i:typeOf (.builtin id)=pure (.type "method_descriptor"))(e:MtR X id r)(f:PE X o to)(c:attributeBase o name X.env (eval o X.env)=eval o X.env:=by rfl)(d:(apos.endLine==cpos.line)=true:=by rfl):PE X (.Call (.Attribute o name apos) [] [] cpos) (Hm X.K T r to):=by
 intro pins s σ H Q I h;show wpAny_Call_method0_late c d<|thn (f _ s σ H _ I h) λv s1 g=>?_;let(x,H1,a,b,ty,k):=g;let(h1,h2):=wX a b ty;show{T,id,j,l,i,h1,h2,callWith_builtin rfl<|PySem.evalArgs_none (e _ s1 σ H1 x [] v [] Q a b .nil k)}
theorem cE(u:PlainAttrs T)(B:Slot T name id)(q:typeOf (.builtin id)=pure (.type "method_descriptor"))(k:MtR X id r)(l:PE X o to)(f:PA X (e::es) t)(g:attributeBase o name X.env (eval o X.env)=eval o X.env:=by rfl)(i:((backTo cpos<|starEach (e::es) X.env).all (λx=>!x.1)&&(backToKw cpos<|keywordEach [] X.env).all (λx=>x.1.isSome)
   && decide ((e::es).length+([]:List Keyword).length+(if ([]:List Keyword).isEmpty then 0 else 1)<30))=true:=by rfl)(j:(apos.endLine==cpos.line)=true:=by rfl)(p:starEach (e::es) X.env=(false,eval e X.env)::starEach es X.env:=by rfl)(m:(backTo cpos<|starEach es X.env).any (·.1)=false:=by rfl):
  PE X (.Call (.Attribute o name apos) (e::es) [] cpos) (tBM X.K T r to t):=by
 intro pins s σ H Q I h;show wpAny_Call_method_late g i j rfl<|thn (l pins s σ H _ I h) λv s1 n=>?_;let(x,H1,a,c,ty,w):=n;let(h1,h2):=wX a c ty;show{T,id,u,B,q,h1,h2,?_};have b:=f cpos pins s1 σ H1 _ a w;rw[p]at b|-;show callWith_builtin (by change(false||(backTo cpos _).any (·.1))=false;rw[m]<;>rfl)<|evalArgs_plain (thn b λus A ⟨vs,H2,d,z,y⟩=>k pins A σ H2 x vs v us Q d c z y)
end
def MtM(X:Cx)(id:String)(r:V->List V->Hp->VK->Prop):Prop :=
 ∀(pins:List<|zv×Obj)(s:zn)(σ:St)(H:Hp)(x:V)(xs:List V)(v:zy)(us:List zy)(Q:VK),Inv X pins σ H s->aH x v->aB xs us->r x xs H Q ->
  wpAny (model X.prog X.w) X.A (call (.builtin id) (v::us)) (EP X pins σ Q) X.xe s
theorem aB.one:∀{x:V}{us:List _},aB [x] us->∃u,us=[u]/\aH x u
 |_,_,.cons r .nil=>⟨_,rfl,r⟩
theorem aB.two:∀{x y:V}{us:List _},aB [x,y] us->∃u v,us=[u,v]/\aH x u/\aH y v
 |_,_,_,.cons r (.cons q .nil)=>⟨_,_,rfl,r,q⟩
theorem aB.zero:∀{us:List _},aB [] us->us=[]
 |_,.nil=>rfl
theorem aB.dropLast{xs:List V}{a:List _}(b:aB xs a):aB xs.dropLast a.dropLast:=by
 induction b with
 |nil=>show .nil
 |cons r t c =>
  cases t with
  |nil=>show .nil
  |cons q d=>show .cons r c
theorem aB.eraseIdx:∀{xs:List V}{us:List _}(i:Nat),aB xs us->aB (xs.eraseIdx i) (us.eraseIdx i)
 |_,_,_,.nil=>.nil
 |_,_,0,.cons _ t=>t
 |_,_,i+1,.cons r t=>.cons r<|aB.eraseIdx i t
theorem aB.reverse{xs:List V}{a:List _}(b:aB xs a):aB xs.reverse a.reverse:=by
 induction b with
 |nil=>show .nil
 |cons r t c=>rw[List.reverse_cons,List.reverse_cons];show aB.append c<|.cons r .nil
theorem sm{α:Type}(l:List α):l.eraseIdx (l.length-1)=l.dropLast:=by
 induction l with
 |nil=>rfl
 |cons a r c =>
  cases r with
  |nil=>rfl
  |cons b r =>
   have e:(a::b::r).length-1=((b::r).length-1)+1:=by
    have h1:(a::b::r).length=r.length+2:=rfl;have h2:(b::r).length=r.length+1:=rfl
    lia
   rw[e,List.eraseIdx_cons_succ,c]
   all_goals rfl
theorem nI{α:Type}:∀(l:List α)(i:Nat),(l.eraseIdx i).length<=l.length
 |[],_=>A8 _
 |_::_,0=>le_succ _
 |_::r,i+1=>Nat.succ_le_succ<|nI r i
section
variable{X:Cx}{pins:List (zv×Obj)}{σ:St}{H:Hp}{s:zn}{l b:zv}{xs ys zs:List V}
theorem Inv.lset{b a:List _}{n:Nat}{f:Array _->Array _}{t':Nat}(c:Inv X pins σ H s)(d:H l=some (.lst xs))(e:s.heap.get? l=some {cls:=.type "list",data:=.seq b.toArray n})(h:f b.toArray=a.toArray)(j:aB ys a)(k:ys.length<=sizeLine):
  Inv X pins σ (upd H l<|.lst ys) {s with heap:=s.heap.update l<|Obj.mapSeq f,toks:=t'}:=by
 have q:=PySem.IsL.update e f;rw[h]at q;show c.write (by rw[d];show trivial) (.inl rfl) (λm u g i=>(Heap.get?_update_other _ _<|CD g).trans i) ⟨_,q⟩ ⟨k,a,_,j,q⟩
theorem Inv.lnew{a:List _}{t':Nat}(b:Inv X pins σ H s)(c:aB ys a)(d:ys.length<=sizeLine):
  Inv X pins σ (upd H s.heap.objs.size<|.lst ys) {s with heap:=s.heap.push {cls:=.type "list",data:=.seq a.toArray},toks:=t'} :=
 b.laid (λ_ _ q=>A0 _ q) (A8 _) {d,a,0,c,A5 _ rfl}
theorem Inv.fresh(I:Inv X pins σ H s):H s.heap.objs.size=none:=I.hok.fresh<|A8 _
theorem Inv.lstM(a:Inv X pins σ H s)(b:H l=some (.lst xs)):xs.length<=sizeLine/\∃(its:List _) (n:Nat),aB xs its/\xs.length=its.length/\s.heap.get? l=some {cls:=.type "list",data:=.seq its.toArray n}:=by
 let(z,its,n,r,e):=a.hok l _ b;show⟨z,its,n,r,r.length,e⟩
inductive rAppend(x:V)(vs:List V)(H:Hp)(Q:VK):Prop
 |mk l xs y (_:x=.ref l) (_:vs=[y]) (_:H l=some (.lst xs)) (_:xs.length<sizeLine) (_:Q .non<|upd H l (.lst<|xs++[y]))
theorem ck:MtM X "list.append" rAppend:=by
 intro pins s σ H x vs v us Q I d c h;let(l,xs,y,rfl,rfl,a,g,q):=h;cases d;let(u,rfl,b):=c.one;let(z,its,n,r,f,e):=I.lstM a;show call_meets F.slot_list_append ⟨_,e,rfl⟩ F.entry_list_append (F.args_list_append_2 _ _) (PySem.list_append l _ n u (by rw[B2];lia)) {e,{.non,_,I.lset a e (by simp) (r.append<|.cons b .nil) ?_,rfl,q}};rw[B0,E8]
 lia
inductive rPop(x:V)(vs:List V)(H:Hp)(Q:VK):Prop
 |mk l xs y (_:x=.ref l) (_:vs=[]) (_:H l=some (.lst xs)) (_:xs[xs.length-1]?=some y) (_:Q y<|upd H l (.lst xs.dropLast))
theorem wZ:MtM X "list.pop" rPop:=by
 intro pins s σ H x vs v us Q I j i h;let(l,xs,y,rfl,rfl,a,hy,q):=h;cases j;have d:=i.zero;subst d;let(z,its,n,r,b,e):=I.lstM a;let(u,c,g):=r.get hy;have f:its.toArray[its.toArray.size-1]?=some u:=by
  change its.toArray[its.length-1]?=some u;rw[<-F0,<-b];show c
 show call_meets F.slot_list_pop ⟨_,e,rfl⟩ F.entry_list_pop (F.args_list_pop_1 _) (MeetsSeq.list_pop_last l _ n u f (by rw[B2];lia)) {e,{y,_,I.lset a e ?_ r.dropLast ?_,g,q}}
 .change its.toArray.eraseIdxIfInBounds _=its.dropLast.toArray;rw[B2,List.eraseIdxIfInBounds_toArray,sm]
 .rw[List.length_dropLast]
  lia
inductive rPopAt(x:V)(vs:List V)(H:Hp)(Q:VK):Prop
 |mk l xs i k y (_:x=.ref l) (_:vs=[.int i]) (_:H l=some (.lst xs)) (_:-(2 ^ 63)<=i) (_:i<2 ^ 63) (_:seqIndex? i xs.length=some k) (_:xs[k]?=some y) (_:Q y<|upd H l (.lst<|xs.eraseIdx k))
theorem xa:MtM X "list.pop" rPopAt:=by
 intro pins s σ H x vs v us Q I m g h;let(l,xs,i,k,y,rfl,rfl,a,h1,h2,b,hy,q):=h;cases m;let(u,rfl,f):=g.one;let(t,rfl):=f;let(z,its,n,r,c,e):=I.lstM a;let(w,d,j):=r.get hy;show call_meets F.slot_list_pop ⟨_,e,rfl⟩ F.entry_list_pop (F.args_list_pop_2 _ _)
  (MeetsSeq.list_pop_at l _ n i t k w (fitsIndex_both h1 h2) (by rw[B2,<-c];show b) (by rw[<-F0];show d) (by rw[B2];lia)) {e,{y,_,I.lset a e ?_ (r.eraseIdx k) ?_,j,q}}
 .change its.toArray.eraseIdxIfInBounds k=(its.eraseIdx k).toArray;rw[List.eraseIdxIfInBounds_toArray]
 .have:=nI xs k
  lia
inductive rCat(x y:V)(H:Hp)(Q:VK):Prop
 |mk l b xs zs (_:x=.ref l) (_:y=.ref b) (_:H l=some (.lst xs)) (_:H b=some (.lst zs)) (_:xs.length+zs.length<=sizeLine) (_:∀p,H p=none->Q (.ref p) (upd H p<|.lst (xs++zs)))
theorem Cz:OpR X (binaryOp .Add) rCat:=by
 intro pins s σ H x y v u Q I i j h;let(l,b,xs,zs,rfl,rfl,f,d,o,q):=h;cases i;cases j;let(z,its,n,r,k,e):=I.lstM f;let(t,a,p,g,m,c):=I.lstM d;show PySem.P.add_list e c ?_ (by rw[B2,B2];lia);have ea:its.toArray++a.toArray=(its++a).toArray:=by simp
 rw[ea];show{.ref _,_,I.lnew (r.append g) (by rw[B0];lia),rfl,q _ I.fresh}
end
section
variable{κ:Type}[DecidableEq κ]
def bu(kvs:List<|κ×V)(k:κ):Option V:=(kvs.find? λa=>decide<|a.1=k).map (·.2)
def bW(kvs:List<|κ×V)(k:κ)(v:V):List (κ×V) :=
 if (kvs.any λa=>decide<|a.1=k)=true then kvs.map (λa=>if a.1=k then (a.1,v)else a)else kvs++[(k,v)]
def dQ(kvs:List<|κ×V)(k:κ):List (κ×V):=kvs.filter λa=>decide<|a.1≠k
theorem bF{p:κ×V}{r:List _}{k:κ}(e:p.1=k):bu (p::r) k=some p.2:=by simp[bu,e]
theorem bg{p:κ×V}{r:List _}{k:κ}(e:¬p.1=k):bu (p::r) k=bu r k:=by simp[bu,e]
theorem je(k:κ):∀kvs:List _,(kvs.any λa=>decide<|a.1=k)=(bu kvs k).isSome
 |[]=>rfl
 |p::r=>by
  rw[any_cons]
  by_cases e:p.1=k
  .simp only[bF e,C7 e,Bool.true_or,Option.isSome_some]
  .rw[bg e,B9 e,Bool.false_or];show je k r
theorem qi(k j:κ)(y:V):∀kvs:List _,bu (kvs.map λa=>if a.1=k then (a.1,y)else a) j=(bu kvs j).map λx=>if j=k then y else x
 |[]=>rfl
 |p::r=>by
  have b:=qi k j y r;rw[CM]
  by_cases h:p.1=k
  .rw[A6 h]
   by_cases e:p.1=j
   .rw[bF (p:=(p.1,y)) e,bF e,map_some,A6<|e.symm.trans h]
   .rw[bg (p:=(p.1,y)) e,bg e,b]
  .rw[A4 h]
   by_cases e:p.1=j
   .rw[bF e,bF e,map_some,A4 λz=>h<|e.trans z]
   .rw[bg e,bg e,b]
theorem nJ(k j:κ)(y:V):∀kvs:List _,bu kvs k=none->bu (kvs++[(k,y)]) j=if j=k then some y else bu kvs j
 |[],_=>by
  by_cases e:k=j
  .rw[A6 e.symm];show bF e
  .rw[A4 λz=>e z.symm];show bg e
 |p::r,hn=>by
  rw[cons_append];have a:¬p.1=k:=λz=>by rw[bF z]at hn;cases hn
  rw[bg a]at hn
  by_cases e:p.1=j
  .rw[bF e,bF e,A4 λz=>a<|e.trans z]
  .rw[bg e,bg e,(nJ k j y r hn)]
theorem eI(kvs:List _)(k j:κ)(y:V):bu (bW kvs k y) j=if j=k then some y else bu kvs j:=by
 unfold bW
 by_cases a:(kvs.any λc=>decide<|c.1=k)=true
 .rw[A6 a,qi];rw[je]at a
  by_cases e:j=k
  .let(x,b):=isSome_iff_exists.mp a;rw[A6 e,e,b,map_some,A6 rfl]
  .rw[A4 e];cases bu kvs j with
   |none=>rfl
   |some x=>rw[map_some,A4 e]
 .rw[A4 a];show nJ k j y kvs ?_;rw[je]at a;cases q:bu kvs k with
  |none=>rfl
  |some x=>rw[q]at a;show(a rfl).elim
theorem eS(kvs:List _)(k:κ)(v:V):(bW kvs k v).length<=kvs.length+1:=by
 unfold bW
 split
 .rw[A1];lia
 .rw[B0,CC,F9];lia
theorem fE.isSome_eq{o:Option V}{u:Option _}(r:fE o u):o.isSome=u.isSome:=by
 cases o with
 |none=>cases u with
  |none=>rfl
  |some _=>show(r).elim
 |some _=>cases u with
  |none=>show(r).elim
  |some _=>rfl
theorem fE.getD{o:Option V}{u:Option _}{d:V}{d':zy}(r:fE o u)(a:aH d d'):aH (o.getD d) (u.getD d'):=by
 cases o with
 |none=>cases u with
  |none=>show a
  |some _=>show(r).elim
 |some _=>cases u with
  |none=>show(r).elim
  |some _=>show r
theorem KV.val{kvs:List _}{vs:List _}(r:KV kvs vs)(k:κ):fE (bu kvs k) (valueAt vs k):=by
 induction r with
 |nil=>show True.intro
 |@cons p q ps qs h t ih =>
  let(h1,h2):=h
  by_cases e:p.1=k
  .have b:valueAt (q::qs) k=some q.2:=by simp[valueAt,(h1.symm.trans e)]
   rw[bF e,b];show h2
  .have a:¬q.1=k:=λz=>e<|h1.trans z;have b:valueAt (q::qs) k=valueAt qs k:=by simp[valueAt,a]
   rw[bg e,b];show ih
theorem KV.any{kvs:List _}{vs:List _}(r:KV kvs vs)(k:κ):(kvs.any λa=>decide<|a.1=k)=vs.any λa=>decide (a.1=k):=by
 induction r with
 |nil=>rfl
 |cons h t b=>rw[any_cons,any_cons,b,h.1]
theorem KV.repl{kvs:List _}{vs:List _}(r:KV kvs vs)(k:κ){y:V}{u:zy}(b:aH y u):
  KV (kvs.map λa=>if a.1=k then (a.1,y)else a) (vs.map λa=>if a.1=k then (a.1,u)else a):=by
 induction r with
 |nil=>show .nil
 |@cons p q ps qs h t ih =>
  rw[CM,CM];show .cons ?_ ih;let(h1,h2):=h
  by_cases e:p.1=k
  .rw[A6 e,A6<|h1.symm.trans e];show⟨h1,b⟩
  .rw[A4 e,A4 λz=>e<|h1.trans z];show⟨h1,h2⟩
theorem KV.put{kvs:List _}{vs:List _}(r:KV kvs vs)(k:κ){y:V}{u:zy}(a:aH y u):KV (bW kvs k y) (stored vs k u):=by
 unfold bW stored;rw[r.any k]
 by_cases e:(vs.any λb=>decide<|b.1=k)=true
 .rw[A6 e,A6 e];show r.repl k a
 .rw[A4 e,A4 e];show Paired.snoc r ⟨rfl,a⟩
theorem KV.drop{kvs:List _}{vs:List _}(r:KV kvs vs)(k:κ):KV (dQ kvs k) (without vs k):=by
 unfold dQ without
 induction r with
 |nil=>show .nil
 |@cons p q ps qs h t ih =>
  let(h1,h2):=h;rw[filter_cons,filter_cons]
  by_cases e:p.1=k
  .rw[A4 (by simp[e]),A4 (by simp[h1.symm.trans e])];show ih
  .have a:¬q.1=k:=λz=>e<|h1.trans z;rw[A6 (by simp[e]),A6 (by simp[a])];show .cons ⟨h1,h2⟩ ih
theorem KV.length{kvs:List (κ×V)}{vs:List _}(r:KV kvs vs):kvs.length=vs.length:=Paired.length r
theorem qj(kvs:List _)(k:κ):(dQ kvs k).length<=kvs.length:=D0 _ _
end
theorem gK{P:zi}{w:xr}{k:Key}{u:zy}(r:aH (kV k) u):(aR P w).is k u=true:=by
 cases k with
 |inl i=>let(t,e):=(r);subst e;show pX P w i t
 |inr x=>let(t,e):=(r);subst e;show pY P w x t
theorem CJ{a b:Key}(e:kV a=kV b):a=b:=by
 cases a with
 |inl i=>cases b with
  |inl d=>have c:=e;injection c with c;rw[c]
  |inr y=>show nomatch (e)
 |inr x=>cases b with
  |inl d=>show nomatch (e)
  |inr y=>have c:=e;injection c with c;rw[c]
theorem tO:∀{a b:List Key},a.map kV=b.map kV->a=b
 |[],[],_=>rfl
 |[],_::_,e=>by simp at e
 |_::_,[],e=>by simp at e
 |x::xs,y::ys,e=>by
  injection e with c d
  rw[CJ c,tO d]
theorem jG{P:zi}{w:xr}:∀{ks:List Key}{us:List _},aB (ks.map kV) us->ItemsAre (aR P w) ks us
 |[],_,r=>by cases r;show .nil
 |k::ks,_,r=>by
  cases r with
  |cons h t=>show .cons (gK h)<|jG t
abbrev KT(H:Hp):List (List Key×V)->List (List Key×zv×zy)->Prop:=Paired λp q=>p.1=q.1/\H q.2.1=some (.tup<|p.1.map kV)/\aH p.2 q.2.2
theorem KT.val{H:Hp}{kvs:List _}{xs:List _}(r:KT H kvs xs)(k:List Key):fE (bu kvs k) ((atKey xs k).map (·.2)):=by
 induction r with
 |nil=>show True.intro
 |@cons p q ps qs h t ih =>
  let(h1,_,h2):=h
  by_cases e:p.1=k
  .have b:atKey (q::qs) k=some q.2:=by simp[atKey,(h1.symm.trans e)]
   rw[bF e,b];show h2
  .have a:¬q.1=k:=λz=>e<|h1.trans z;have b:atKey (q::qs) k=atKey qs k:=by simp[atKey,a]
   rw[bg e,b];show ih
theorem KT.repl{H:Hp}{kvs:List _}{xs:List _}(r:KT H kvs xs)(k:List Key){y:V}{u:zy}(b:aH y u):
  KT H (kvs.map λa=>if a.1=k then (a.1,y)else a) (xs.map<|putAt k u):=by
 induction r with
 |nil=>show .nil
 |@cons p q ps qs h t ih =>
  rw[CM,CM];show .cons ?_ ih;let(h1,h2,h3):=h;unfold putAt
  by_cases e:p.1=k
  .rw[A6 e,A6<|h1.symm.trans e];show⟨h1,h2,b⟩
  .rw[A4 e,A4 λz=>e<|h1.trans z];show⟨h1,h2,h3⟩
theorem KT.put{H:Hp}{kvs:List _}{xs:List _}(r:KT H kvs xs)(k:List Key){b:zv}{y:V}{u:zy}(c:H b=some (.tup<|k.map kV))(a:aH y u):
  KT H (bW kvs k y) (storedH xs k b u):=by
 have e:(kvs.any λd=>decide<|d.1=k)=(atKey xs k).isSome:=by
  rw[je,(r.val k).isSome_eq,isSome_map]
 unfold bW storedH;rw[e]
 by_cases q:(atKey xs k).isSome=true
 .rw[A6 q,A6 q];show r.repl k a
 .rw[A4 q,A4 q];show Paired.snoc r ⟨rfl,c,a⟩
theorem KT.keeps{H a:Hp}{kvs:List _}{xs:List _}(r:KT H kvs xs)(c:∀b ys,H b=some (.tup ys)->a b=some (.tup ys)):KT a kvs xs :=
 Paired.mapP r λ_ _ z=>⟨z.1,c _ _ z.2.1,z.2.2⟩
section
variable{P:zi}{w:xr}{H:Hp}{h:qq}{a:zv}
theorem BL{u:HO}(b:HOk P w H h)(e:Rd H a u):cS P w H h a u:=e.ok b
theorem lN{kvs:List _}(b:HOk P w H h)(e:Rd H a<|.dK kvs):kvs.length<=sizeLine/\(a==sysModules)=false/\∃vs,KV kvs vs/\h.DictOf (aR P w) a vs :=
 BL b e
theorem ql{kvs:List _}(b:HOk P w H h)(e:H a=some (.dK kvs)):kvs.length<=sizeLine/\(a==sysModules)=false/\∃vs,KV kvs vs/\h.DictOf (aR P w) a vs:=lN b<|.inl e
theorem jH{ks:List Key}(b:HOk P w H h)(e:H a=some (.tup<|ks.map kV)):(tupleKind<|aR P w).is h ks a:=by
 let(_,its,r,o,h1,h2,n,h3):=(b a _ e);show{o,its.toArray,n,h1,h2,h3,by simpa using jG r}
theorem lO{kvs:List _}(c:HOk P w H h)(e:Rd H a<|.dT kvs):kvs.length<=sizeLine/\(a==sysModules)=false /\
  ∃xs,KT H kvs xs/\h.DictOfH (tupleKind<|aR P w) a xs:=by
 let(z,y,xs,r,o,es,d,h1,h2,h3,f,g):=(BL c e);show{z,y,xs,r,o,es,d,h1,h2,h3,f,λx b=>?_,g};have all:∀{l:List _}{m:List _},KT H l m->∀x∈m,(tupleKind<|aR P w).is h x.1 x.2.1:=by
  intro l m q
  induction q with
  |nil=>intro x b;show nomatch b
  |@cons p q ps qs hq t ih =>
   intro x b;rcases B3.mp b with e|b
   .subst e;show jH c (by rw[<-hq.1];show hq.2.1)
   .show ih x b
 show all r x b
theorem FF{kvs:List _}(b:HOk P w H h)(e:H a=some (.dT kvs)):kvs.length<=sizeLine/\(a==sysModules)=false /\
  ∃xs,KT H kvs xs/\h.DictOfH (tupleKind<|aR P w) a xs:=lO b<|.inl e
end
def dM(H:Hp)(a:zv)(y:V)(r:Option V):Prop :=
 (∃kvs k,Rd H a (.dK kvs)/\y=kV k/\r=bu kvs k)\/∃kvs k b,Rd H a (.dT kvs)/\y=.ref b/\H b=some (.tup<|k.map kV)/\r=bu kvs k
def qp(H:Hp)(a:zv)(y v:V)(c:Hp):Prop :=
 (∃kvs k,H a=some (.dK kvs)/\y=kV k/\kvs.length<sizeLine/\c=upd H a (.dK<|bW kvs k v)) \/
 ∃kvs k b,H a=some (.dT kvs)/\y=.ref b/\H b=some (.tup<|k.map kV)/\kvs.length<sizeLine/\c=upd H a (.dT<|bW kvs k v)
theorem dM.k{H:Hp}{a:zv}{kvs:List _}{k:Key}(e:H a=some (.dK kvs)):dM H a (kV k) (bu kvs k):=.inl ⟨kvs,k,.inl e,rfl,rfl⟩
theorem qp.k{H:Hp}{a:zv}{kvs:List _}{k:Key}{v:V}(e:H a=some (.dK kvs))(b:kvs.length<sizeLine):qp H a (kV k) v (upd H a<|.dK (bW kvs k v)):=.inl ⟨kvs,k,e,rfl,b,rfl⟩
section
variable{X:Cx}{pins:List (zv×Obj)}{σ:St}{H:Hp}{s:zn}{a:zv}{y v:V}{u r:zy}{o:Option V}{A:xx}{E:zy->zn->Prop}
theorem Inv.big(I:Inv X pins σ H s):sysModules<s.heap.objs.size:=by
 show Nat.lt_trans (by decide)<|(I.mod.glob.keeps I.bk).lt
theorem vm{Q:zy->zn->Prop}(t:A.units+1<cLine)(d:Inv X pins σ H s)(g:dM H a y<|some v)(n:aH y u)(m:∀c s',Inv X pins σ H s'->aH v c->Q c s'):
  wpAny (model X.prog X.w) A (getItem (.ref a) u) Q E s:=by
 rcases g with⟨kvs,k,e,f,l⟩|⟨kvs,k,b,e,f,o,l⟩
 .subst f;let(z,q,vs,i,dd):=lN d.hok e;let(c,h,j):=fE.some_of (by rw[l];show i.val k);show wpAny_getItem_of (gK n) dd.mapOf h<|m c _ (d.tok _) j
 .subst f;cases (n);let(z,q,xs,i,dd):=lO d.hok e;let(c,h,j):=fE.some_of (by rw[l];show i.val k);let(p,hp,r):=map_eq_some_iff.mp h;show wpAny_getItem_heap (tupleKind_room_in1 t) (jH d.hok o) dd hp ?_;rw[r];show m c _ (d.tok _) j
theorem Hn{Q:zy->zn->Prop}(n:A.units+1<cLine)(c:Inv X pins σ H s)(g:dM H a y o)(j:aH y u)(i:∀s',Inv X pins σ H s'->Q (.bool o.isSome) s'):
  wpAny (model X.prog X.w) A (compareOp .In u<|.ref a) Q E s:=by
 rcases g with⟨kvs,k,e,d,l⟩|⟨kvs,k,b,e,d,m,l⟩
 .subst d;let(z,f,vs,h,dd):=lN c.hok e;show wpAny_in_of (gK j) f dd.mapOf ?_;rw[<-(h.val k).isSome_eq,<-l];show i _<|c.tok _
 .subst d;cases (j);let(z,f,xs,h,dd):=lO c.hok e;show wpAny_in_heap (tupleKind_room_in1 n) (jH c.hok m) f dd ?_;have q:=(h.val k).isSome_eq;rw[isSome_map]at q;rw[<-q,<-l];show i _<|c.tok _
theorem Ac{Q:zy->zn->Prop}(n:A.units+1<cLine)(c:Inv X pins σ H s)(g:dM H a y o)(j:aH y u)(i:∀s',Inv X pins σ H s'->Q (.bool<|!o.isSome) s'):
  wpAny (model X.prog X.w) A (compareOp .NotIn u<|.ref a) Q E s:=by
 rcases g with⟨kvs,k,e,d,l⟩|⟨kvs,k,b,e,d,m,l⟩
 .subst d;let(z,f,vs,h,dd):=lN c.hok e;show wpAny_notIn_of (gK j) f dd.mapOf ?_;rw[<-(h.val k).isSome_eq,<-l];show i _<|c.tok _
 .subst d;cases (j);let(z,f,xs,h,dd):=lO c.hok e;show wpAny_notIn_heap (tupleKind_room_in1 n) (jH c.hok m) f dd ?_;have q:=(h.val k).isSome_eq;rw[isSome_map]at q;rw[<-q,<-l];show i _<|c.tok _
theorem jf{h':qq}{t':Nat}{c:HO}(d:Inv X pins σ H s)(h:Mut<|H a)(g:SameBut a s.heap h')(f:∃q,h'.get? a=some q)(i:cS X.prog X.w (upd H a c) h' a c):
  Inv X pins σ (upd H a c) {s with heap:=h',toks:=t'} :=
 d.write h (.inl rfl) (λb q e z=>(g.2 b e).trans z) f i
theorem lP{P:zi}{w:xr}{b:Hp}{h':qq}{kvs:List _}{vs:List _}(z:kvs.length<=sizeLine)(d:(a==sysModules)=false)(e:KV kvs vs)(c:h'.DictOf (aR P w) a vs):
  cS P w b h' a (.dK kvs):=⟨z,d,vs,e,c⟩
theorem vq{o:Hp}{Q:Unit->zn->Prop}(I:A.units+1<cLine)(d:Inv X pins σ H s)(g:qp H a y v o)(C:aH y u)(B:aH v r)(x:∀s',Inv X pins σ o s'->Q () s'):
  wpAny (model X.prog X.w) A (setItem (.ref a) u r) Q E s:=by
 rcases g with⟨kvs,k,e,m,l,j⟩|⟨kvs,k,b,e,m,p,l,j⟩
 .subst m j;let(z,n,vs,f,dd):=ql d.hok e;show wpAny_setItem_pairs (hsz:=by rw[<-f.length];show z) (gK C) dd λh' h hs=>x _ ?_;show jf d (by rw[e];show True.intro) hs (let⟨q,_,_,i,_⟩:=h;⟨q,i⟩)<|lP (by have:=eS kvs k v;lia) n (f.put k B) h
 .subst m j;cases (C);let(z,n,xs,f,dd):=FF d.hok e;show wpAny_setItem_heap (hsz:=by rw[<-Paired.length f];show z) (tupleKind_room_in1 I) (jH d.hok p) dd λh' h hs=>x _ ?_;let(q,es,D,i,h2,h3,F,_,G):=h;show jf d (by rw[e];show True.intro) hs ⟨q,i⟩ {(by have:=eS kvs k v;lia),n,_,(f.put k p B).keeps λc ys t=>?_,q,es,D,i,h2,h3,F,G};rw[aj<|tG t e (λz=>nomatch z)];show t
end
section
variable{X:Cx}{pins:List (zv×Obj)}{σ:St}{H:Hp}{s:zn}{a:zv}{kvs:List (Key×V)}{k:Key}{u:zy}{A:xx}{E:zy->zn->Prop}
theorem FG{v:V}{more:List _}{Q:zy->zn->Prop}(f:Inv X pins σ H s)(e:H a=some (.dK kvs))(d:aH (kV k) u)(l:bu kvs k=some v)(h:more=[]\/∃x,more=[x])(j:∀b s',Inv X pins σ (upd H a<|.dK (dQ kvs k)) s'->aH v b->Q b s'):wpAny (model X.prog X.w) A (call (.builtin "dict.pop") (.ref a::u::more)) Q E s:=by
 let(z,n,vs,c,dd):=ql f.hok e;let(b,p,r):=fE.some_of (by rw[<-l];show c.val k);have hp:(keyPart u).isSome=true:=by
  cases k with
  |inl i=>let(t,q):=(d);subst q;rfl
  |inr x=>let(t,q):=(show ∃t,u=Value.str x t from d);subst q;rfl
 have m:argsOk "dict.pop" {.ref a::u::more,[]}:=by
  rcases h with q|⟨x,q⟩
  .subst q;show PySem.F.args_dict_pop_2 _ _
  .subst q;show PySem.F.args_dict_pop_3 _ _ _
 show call_meetsIn slot_dict_pop dd.typeIs PySem.F.entry_dict_pop m (meets_dict_pop_there _ a (gK d) _ h hp)
  {vs,b,dd,by rw[<-c.length];show z,p,λh' g hs=>j b _ ?_ r}
 show jf f (by rw[e];show True.intro) hs (let⟨q,_,_,o,_⟩:=g;⟨q,o⟩)<|lP (CL (qj kvs k) z) n (c.drop k) g
theorem CQ{r:zy}{Q:zy->zn->Prop}(c:Inv X pins σ H s)(e:H a=some (.dK kvs))(b:aH (kV k) u)(l:bu kvs k=none)(d:∀s',Inv X pins σ H s'->Q r s'):
  wpAny (model X.prog X.w) A (call (.builtin "dict.pop") [.ref a,u,r]) Q E s:=by
 let(z,f,vs,g,dd):=ql c.hok e;have hp:(keyPart u).isSome=true:=by
  cases k with
  |inl i=>let(t,q):=(b);subst q;rfl
  |inr x=>let(t,q):=(b);subst q;rfl
 show call_meetsIn slot_dict_pop dd.typeIs PySem.F.entry_dict_pop (PySem.F.args_dict_pop_3 _ _ _) (meets_dict_pop_default _ a (gK b) f hp r) {vs,dd,(fE.none_of (by rw[<-l];show g.val k)),d _<|c.tok _}
end
def FH(i:Expr):Prop:=∀b a,subscripted i false b a=operate [b,a] (getItem b a)
theorem Ad{prog:zi}{w:xr}{A:xx}{E:zy->zn->Prop}{s:zn}{env:Env}{d a:Expr}{pos:Pos}{T id:String}{Q:zy->zn->Prop}(j:typeLookup (.type T) "__getitem__"=pure (some<|.builtin id))(k:FH a)(g:wpAny (model prog w) A (eval d env) (λo e=>wpAny (model prog w) A (eval a env) (λi s₂=>s₂.TypeIs o T/\wpAny (model prog w) A (getItem o i) Q E s₂) E e) E s):
  wpAny (model prog w) A (eval (.Subscript d a pos) env) Q E s:=by
 show Subscript_<|wpAny_mono g (λo e l=>wpAny_mono l (λi s₂ c=>?_) λ_ _ x=>x) λ_ _ x=>x;let(h,c):=c;show Wb<|Wb (wpAny_specialOf h j ?_);have b:wpAny (model prog w) A (subscripted a false o i) (λr f=>wpAny (model prog w) A (letTemporaryGo d o r >>= λ_=>pure r) Q E f) E s₂:=by
  rw[k o i];show wpAny_operating<|wpAny_mono c (λr f m=>Wb<|wpAny_letTemporaryGo (Wp m)) λ_ _ x=>x
 first
  |show Wp<|Wb b
  |show Wb<|Wp (Wb b)
  |show Wb b
theorem qr{X:Cx}{d:List _}{f:St}{H:Hp}{s:zn}{a:zv}{y:V}{o:Option V}(c:Inv X d f H s)(g:dM H a y o):s.TypeIs (.ref a) "dict":=by
 rcases g with⟨kvs,k,e,_,_⟩|⟨kvs,k,b,e,_,_,_⟩
 .let(_,_,vs,_,dd):=lN c.hok e;show dd.typeIs
 .let(_,_,xs,_,dd):=lO c.hok e;show dd.typeIs
def FI(b c:TE):TE:=λσ H Q=>b σ H λx H1=>c σ H1 λy H2=>∃a v,x=.ref a/\dM H2 a y (some v)/\Q v H2
def Ho(c b:TE):TE:=λσ H Q=>c σ H λy H1=>b σ H1 λx H2=>∃a o,x=.ref a/\dM H2 a y o/\Q (.bl o.isSome) H2
def Ae(c b:TE):TE:=λσ H Q=>c σ H λy H1=>b σ H1 λx H2=>∃a o,x=.ref a/\dM H2 a y o/\Q (.bl<|!o.isSome) H2
def FJ(e g f:TE):TS:=λc σ H=>f σ H λv H1=>e σ H1 λx H2=>g σ H2 λy d=>∃a b,x=.ref a/\qp d a y v b/\c.nx σ b
section
variable{X:Cx}{o i e value:Expr}{pos pos' tpos:Pos}{td ty tv:TE}
theorem cB(l:X.A.units+1<cLine)(f:PE X o td)(e:PE X i ty)(k:FH i):PE X (.Subscript o i pos) (FI td ty):=by
 intro pins s σ H Q I h;show Ad PySem.F.slot_dict_getitem.lookup k<|thn (f _ s σ H _ I h) λu s1 ⟨x,H1,c,q,m⟩=>thn (e _ s1 σ H1 _ c m) λt w j=>?_;let(y,H2,b,r,a,v,ex,g,n):=j;subst ex;obtain rfl:u=Value.ref a:=q;show{qr b g,vm l b g r λB z d p=>⟨v,H2,d,p,n⟩}
theorem xb(k:X.A.units+1<cLine)(e:PE X i ty)(f:PE X o td):PC X .In i o (Ho ty td):=by
 intro pins s σ H Q I h;show thn (e _ s σ H _ I h) λq s1 ⟨y,H1,b,p,l⟩=>thn (f _ s1 σ H1 _ b l) λu t j=>?_;let(x,H2,c,n,a,r,ex,g,m):=j;subst ex;obtain rfl:u=Value.ref a:=n;show Hn k c g p λv d=>⟨.bl _,H2,d,rfl,m⟩
theorem fJ(k:X.A.units+1<cLine)(e:PE X i ty)(f:PE X o td):PC X .NotIn i o (Ae ty td):=by
 intro pins s σ H Q I h;show thn (e _ s σ H _ I h) λq s1 ⟨y,H1,b,p,l⟩=>thn (f _ s1 σ H1 _ b l) λu t j=>?_;let(x,H2,c,n,a,r,ex,g,m):=j;subst ex;obtain rfl:u=Value.ref a:=n;show Ac k c g p λv d=>⟨.bl _,H2,d,rfl,m⟩
theorem jg(m:X.A.units+1<cLine)(k:PE X o td)(j:PE X i ty)(n:PE X value tv)(l:swapsWith value (some<|.Subscript o i pos') pos.line X.env=pure false):
  PS X (.Assign [.Subscript o i pos'] value pos) (FJ td ty tv):=by
 intro pins s σ H D I h;show wpAny_Assign_Subscript (thn (n _ s σ H _ I h) λr s1 ⟨v,H1,c,w,p⟩=>thn (k _ s1 σ H1 _ c p) λu C ⟨x,H2,d,z,q⟩=>thn (j _ C σ H2 _ d q) λF G ⟨y,E,e,B,a,b,ex,g,t⟩=>?_) l;subst ex;obtain rfl:u=Value.ref a:=z;show vq m e g B w λJ f=>⟨σ,b,f,t⟩
end
theorem qt{P:zi}{w:xr}{H:Hp}(a:qq)(b:sysModules<a.objs.size):cS P w H (a.push {cls:=.type "dict",data:=.dict #[]}) a.objs.size (.dK []) :=
 {CI _,D5.mpr<|CD (C2 b),[],.nil,Heap.DictOf.new a}
def CY:TE:=λ_ H Q=>∀p,H p=none->Q (.ref p) (upd H p<|.dK [])
section
variable{X:Cx}{pos:Pos}
theorem qu:PE X (.Dict [] [] pos) CY:=λpins s σ H Q I h =>
 wpAny_Dict_empty {.ref _,_,I.laid (λ_ _ q=>A0 _ q) (A8 _)<|qt _ I.big,rfl,h _<|I.hok.fresh (A8 _)}
end
structure M1(X:Cx)(o:Expr)(m:Str)(apos:Pos)(e:Expr)(cpos:Pos):Prop where
 base:attributeBase o m X.env (eval o X.env)=eval o X.env
 few:((backTo cpos<|starEach [e] X.env).all (λx=>!x.1)&&(backToKw cpos<|keywordEach [] X.env).all (λx=>x.1.isSome)
  && decide (([e]:List Expr).length+([]:List Keyword).length+(if ([]:List Keyword).isEmpty then 0 else 1)<30))=true
 line:(apos.endLine==cpos.line)=true
 trees:backTo cpos (starEach [e] X.env)=[(false,eval e X.env)]
structure M2(X:Cx)(o:Expr)(m:Str)(apos:Pos)(e f:Expr)(cpos:Pos):Prop where
 base:attributeBase o m X.env (eval o X.env)=eval o X.env
 few:((backTo cpos<|starEach [e,f] X.env).all (λx=>!x.1)&&(backToKw cpos<|keywordEach [] X.env).all (λx=>x.1.isSome)
  && decide (([e,f]:List Expr).length+([]:List Keyword).length+(if ([]:List Keyword).isEmpty then 0 else 1)<30))=true
 line:(apos.endLine==cpos.line)=true
 trees:backTo cpos (starEach [e,f] X.env)=[(false,eval e X.env),(false,eval f X.env)]
def IsD(H:Hp)(a:zv):Prop:=(∃kvs,Rd H a<|.dK kvs)\/∃kvs,Rd H a<|.dT kvs
theorem xc{X:Cx}{h:List _}{i:St}{H:Hp}{s:zn}{a:zv}(g:Inv X h i H s)(d:IsD H a):
  s.TypeIs (.ref a) "dict"/\(∀b,Value.ref a=.ref b->∃c,s.heap.get? b=some c/\c.dict=none)/\(a==sysModules)=false:=by
 rcases d with⟨kvs,e⟩|⟨kvs,e⟩
 .let(_,f,vs,_,dd):=lN g.hok e;show{dd.typeIs,λb q=>?_,f};cases q;let(c,_,_,h1,h2,_):=dd;show⟨c,h1,h2.2.1⟩
 .let(_,f,xs,_,dd):=lO g.hok e;show{dd.typeIs,λb q=>?_,f};cases q;let(c,_,_,h1,h2,_):=dd;show⟨c,h1,h2.2.1⟩
section
variable{X:Cx}{pins:List (zv×Obj)}{σ:St}{H:Hp}{s:zn}{a:zv}{y d:V}{u r:zy}{o:Option V}{A:xx}{E:zy->zn->Prop}
theorem CZ{Q:zy->zn->Prop}(p:A.units+1<cLine)(c:Inv X pins σ H s)(g:dM H a y o)(j:aH y u)(i:∀m s',Inv X pins σ H s'->aH (o.getD .non) m->Q m s'):
  wpAny (model X.prog X.w) A (call (.builtin "dict.get") [.ref a,u]) Q E s:=by
 rcases g with⟨kvs,k,e,d,l⟩|⟨kvs,k,b,e,d,n,l⟩
 .subst d;let(z,f,vs,h,dd):=lN c.hok e;show call_meetsIn slot_dict_get dd.typeIs PySem.F.entry_dict_get (PySem.F.args_dict_get_2 _ _) (meets_dict_get _ a (gK j) f) {_,dd.mapOf,i _ _ (c.tok _) ?_};rw[l];show(h.val k).getD rfl
 .subst d;cases (j);let(z,f,xs,h,dd):=lO c.hok e;show call_meetsIn slot_dict_get dd.typeIs PySem.F.entry_dict_get (PySem.F.args_dict_get_2 _ _) (meetsH_dict_get _ a b f) {tupleKind_room_in1 p,k,xs,jH c.hok n,dd,i _ _ (c.tok _) ?_};rw[l];show(h.val k).getD rfl
end
def Da(b c:TE):TE:=λσ H Q=>b σ H λx H1=>∃a,x=.ref a/\IsD H1 a/\c σ H1 λy H2=>∃o,dM H2 a y o/\Q (o.getD .non) H2
def Db(c e d:TE):TE:=λσ H Q=>c σ H λx H1=>∃a,x=.ref a/\IsD H1 a/\e σ H1 λy H2=>d σ H2 λz b=>∃kvs k,b a=some (.dK kvs)/\y=kV k /\
 (∀v,bu kvs k=some v->Q v (upd b a<|.dK (dQ kvs k)))/\(bu kvs k=none->Q z b)
section
variable{X:Cx}{o e f:Expr}{apos cpos:Pos}{td ty tx:TE}
theorem lQ(l:X.A.units+1<cLine)(j:PE X o td)(i:PE X e ty)(m:M1 X o "get" apos e cpos):PE X (.Call (.Attribute o "get" apos) [e] [] cpos) (Da td ty):=by
 intro pins s σ H Q I h;show wpAny_Call_method m.base m.few m.line plainAttrs_dict slot_dict_get PySem.F.type_dict_get<|thn (j _ s σ H _ I h) λu s1 k=>?_;let(x,H1,b,r,a,ex,d,n):=k;subst ex;obtain rfl:u=Value.ref a:=r;let(v,w,_):=xc b d;show{v,w,?_};rw[m.trees];show callWith_builtin rfl<|evalArgs_plain (spliced_cons<|thn (i _ s1 σ H1 _ b n) λz C ⟨y,H2,c,t,B,g,p⟩=>spliced_nil<|CZ l c g t λE D f q=>⟨_,H2,f,q,p⟩)
theorem xf(t:PE X o td)(q:PE X e ty)(r:PE X f tx)(m:M2 X o "pop" apos e f cpos):PE X (.Call (.Attribute o "pop" apos) [e,f] [] cpos) (Db td ty tx):=by
 intro pins s σ H Q I h;show wpAny_Call_method m.base m.few m.line plainAttrs_dict slot_dict_pop PySem.F.type_dict_pop<|thn (t _ s σ H _ I h) λu s1 w=>?_;let(x,H1,c,G,a,ex,d,A):=w;subst ex;obtain rfl:u=Value.ref a:=G;let(M,N,_):=xc c d;show{M,N,?_};rw[m.trees];show callWith_builtin rfl<|evalArgs_plain (spliced_cons (thn (q _ s1 σ H1 _ c A) λO K ⟨y,H2,n,i,B⟩ =>
  spliced_cons (thn (r _ K σ H2 _ n B) λfv P ⟨z,j,g,J,kvs,k,ea,p,C,D⟩=>spliced_nil ?_)))
 subst p;cases l:bu kvs k with
 |some v=>show FG g ea i l (.inr ⟨fv,rfl⟩) λR L b E=>⟨v,_,b,E,C v l⟩
 |none=>show CQ g ea i l λL b=>⟨z,j,b,J,D l⟩
end
end L2
namespace Att
open PySem PySem.W PySem.Calls PyProof.Rows
theorem kW{P:Params}{c:qq}:∀(ns:List Int)(vs:List _),WellAll P c vs (ns.map WData.int)->IntsAre vs ns:=by
 intro ns
 induction ns with
 |nil =>
  intro vs w;cases w;show .nil
 |cons n ns d =>
  intro vs w;cases w with
  |cons a b =>
   cases a;show .cons _ _<|d _ b
theorem vt{l:OpenLaw}{n:Nat}(j:l.most=some n){P:Params}{c:qq}{args:List _}{vals:List _}(g:l.row.toRowW.claim.pre args=true)(m:WellAll P c vals args):
  ∃a vs ns,vals=[Value.ref a]/\args=[WData.list<|ns.map WData.int]/\c.get? a=some {cls:=.type "list",data:=.seq vs.toArray}/\IntsAre vs ns/\ns.length<=n:=by
 have f:l.pre.holds [] _=true:=(pre_splitW g).2;let(d,r,rfl,h1,h2):=hasAllW_cons<|(pre_splitW g).1;obtain rfl:=hasAllW_nil h2;let(xs,rfl,h3):=hasW_list h1;let(ns,rfl):=items_int h3;have i:ns.length<=n:=by
  unfold OpenLaw.pre at f;have b:(WTm.not<|.lt (.lit<|.int (n:Int)) (.len<|.arg 0)).holds [] {args:=[.list<|ns.map .int]}=true:=by
   have b:=(holds_andW f).1;rw[j]at b;show b
  have e:=condW_of b<|w_not (w_lt w_lit<|w_len_list (w_arg rfl));show Nat.le_of_not_lt λq=>?_
  first
   |(show absurd e (by decide))
   |(simp at e;lia)
 cases m with
 |cons o p =>
  cases p;cases o with
  |list k h=>show{_,_,ns,rfl,rfl,k,kW ns _ h,i}
theorem vw(l:OpenLaw)(args:List _):l.row.toRowW.claim.post args (.bool true) args=true :=
 postW_of
  (by first|rfl|decide|simp[WShape.has,WShape.arms,WShape.armsAll])
  (w_eq_bool (w_res rfl) w_lit) rfl
theorem qv{l:OpenLaw}{n:Nat}{q:zi}{m:List Str}{i:(Str->Option _)->qq->Prop}{j:xr->qq->Prop}{d:DefRec}(D:l.most=some n)(x:d.params.defaults=[])(call:∀(w:xr) (s₀ b:zn) (mg h:Str->Option _) (c:zv) (o:Obj) (pm e g:zy) (a:zv) (vs:List _) (ns:List Int),
   Ground q m [] i w s₀ mg h b.heap->j w b.heap ->
   b.heap.get? c=some o->o.data=.func (docDef d.name d.params d.body d.scope pm e g)->b.heap.CodeRec e d.name->mg d.name=some (.ref c) ->
   b.heap.get? a=some {cls:=.type "list",data:=.seq vs.toArray}->IntsAre vs ns->ns.length<=n->b.gens=#[] ->
   codeAny (model l.prog w) callerA (.call (.ref c) {[.ref a],[]}) (λr s'=>r=.ok (.ret<|.bool true)/\OldK b.heap s'.heap/\s'.os=b.os/\AllBare s'.gens) b):
  WalkO q m i j l.row.toRowW d [] (λf vs=>PySem.call f vs):=by
 intro w s₀ b mg h G p c o pm e g s kV E v u k C y K vals as H L N J M;obtain rfl:s=.none:=Dflts.none k x;obtain rfl:kV=.none:=Dflts.noKw k;let(a,vs,ns,rfl,rfl,F,z,A):=vt D H J;show enter_call<|codeAny_mono (call w _ _ mg h c o pm e g a vs ns G p E (fd_plain v) u C F z A y) λr s' I=>?_;let(rfl,h2,h3,t):=I;show{.inl {.bool _,.bool _,[],rfl,λ_=>rfl,.bool _,vw l _,λ_=>{Pairwise.nil,λ_ B=>(nomatch B)}},h2,h3,t}
end Att
namespace L2
open PySem PySem.Spec PyProof.Rows
theorem nK:∀{vs:List _}{ns:List Int},IntsAre vs ns->aB (ns.map V.int) vs
 |_,_,.nil=>.nil
 |_,_,.cons n t h=>.cons ⟨t,rfl⟩<|nK h
def eT(s:Stmt)(j:Nat):Stmt:=match s with
 |.ClassDef _ _ _ body _ _ _ _ _ _ _=>body.getD j<|.Pass ⟨0,0,0,0⟩
 |_=>.Pass ⟨0,0,0,0⟩
def dS(s:Stmt):Arguments:=match s with
 |.FunctionDef _ a _ _ _ _ _ _ _ _=>a
 |_=>{posonlyargs:=[],args:=[],vararg:=none,kwonlyargs:=[],kw_defaults:=[],kwarg:=none,defaults:=[]}
def bJ(s:Stmt):List Stmt:=match s with
 |.FunctionDef _ _ b _ _ _ _ _ _ _=>b
 |_=>[]
def ak(s:Stmt):Scope:=match s with
 |.FunctionDef _ _ _ _ _ _ a _ _ _=>a
 |_=>{kind:=.function,names:=[],isGenerator:=false,isCoroutine:=false}
abbrev CX0:CXT:=λ_ _ _ _ _ _=>False
abbrev E0:XK:=λ_ _ _=>False
theorem bX{X:Cx}:iD CX0 X E0:=λ_ _ _ _ _ _ _ h=>h.elim
structure Fun(K:Frag)(x qual:Str)(st:Stmt)(f:zv)(fd:xl):Prop where
 ex:∃(oc:zy) (od:Option zv) (kV doc pm:zy) (an:Option zv) (cdv ct:zy) (osl:Array<|Option zy),
  fd=fnOf x qual (dS st) (bJ st) (ak st) .none kV doc pm an cdv ct/\K.lookup f=some ⟨oc,od,.func fd,osl⟩/\codeIn K cdv qual=true
 kp:keepIn K (.ref f)=true
section
variable{P:zi}{w:xr}{K:Frag}{mg:Str->Option zy}{base:qq}
theorem Fun.ok{x qual:Str}{st:Stmt}{f:zv}{a:xl}{N ps:List Str}{k:Nat}{sp:Sp}(F:Fun K x qual st f a)(S:FnScope N ps<|ak st)(g:∀vs H Q E,sp vs H Q E->vs.length=ps.length)(b:∀(cdv:zy) (A:xx) (outer:List Env) (s:zn) (H:Hp) (vs:List V) (Q:VK) (E:XK),Room k (A.deeper<|envOfC qual (ak st) s.heap.objs.size f cdv)->sp vs H Q E ->
   ∃t,PSs (kU CX0 P w K mg base N qual (ak st) f cdv A outer s H E).nox (bJ st) t/\t {nx:=λ_ H'=>Q .non H',rt:=Q} (start N vs) H):aE P w K mg base CX0 (k+1) f a ps sp:=by
 let(n,o,kV,m,pm,j,cdv,l,p,rfl,i,c):=F.ex;show wT FD i c S g λA outer s H vs Q E d e=>?_;let(t,h,q):=b cdv A _ s H vs Q E d e;show⟨t,h.nox,q⟩
theorem Fun.binds{x qual:Str}{st:Stmt}{f:zv}{c:xl}{ps:List Str}(F:Fun K x qual st f c)(d:∀(kV b pm:zy) (a:Option _) (cdv ct:zy) (us:List _),us.length=ps.length->bindArgs (fnOf x qual (dS st) (bJ st) (ak st) .none kV b pm a cdv ct) {us,[]}=pure (ps.zip us)):br K c ps []:=by
 let(h,i,kV,b,pm,a,cdv,ct,j,rfl,g,e):=F.ex;show .all<|d kV b pm a cdv ct
theorem sq{x qual:Str}{st:Stmt}{f:zv}{oc:zy}{e a:Option _}{g:Array _}{kV b d cdv ct:zy}(l:K.lookup f=some {oc,e,.func<|fnOf x qual (dS st) (bJ st) (ak st) .none kV b d a cdv ct,g})(c:codeIn K cdv qual=true)(k:keepIn K (.ref f)=true):Fun K x qual st f (fnOf x qual (dS st) (bJ st) (ak st) .none kV b d a cdv ct):=⟨⟨oc,e,kV,b,d,a,cdv,ct,g,rfl,l,c⟩,k⟩
end
theorem bv{A:xx}{k:Nat}(a:Room k A):A.units+1<cLine:=FC (Nat.add_le_add_left (by decide) _) a.units
theorem aU{n:Nat}(h:n<=1000):n<sizeLine:=FC h (by decide)
section
variable{X:Cx}
theorem pv(i:Nat){x:Str}{pos:Pos}(a:X.N[i]?=some x:=by rfl)(d:Vis X.env.scope x:=by first|show Or.inl rfl|show Or.inr (Or.inl rfl)|show Or.inr<|Or.inr rfl)(c:(x==("__debug__"))=false:=by decide)(b:(x==("__classdict__"))=false:=by decide):PE X (.Name x pos) (tVar i):=Cl a d c b
end
theorem aM{A B:Prop}(h:B):if false=true then A else B:=by
 show h
theorem cp{A B:Prop}(h:A):if true=true then A else B:=by
 show h
theorem Hr{c A B:Prop}[Decidable c](a:c->A)(h2:¬c->B):if c then A else B:=by
 by_cases h:c
 .rw[A6 h];show a h
 .rw[A4 h];show h2 h
theorem FK{c A B:Prop}[Decidable c](b:c)(a:B):if (!decide c)=true then A else B:=by
 rw[C7 b];show aM a
def Same(H a:Hp):Prop:=∀b o,H b=some o->a b=some o
theorem Same.refl(H:Hp):Same H H:=λ_ _ h=>h
theorem Same.trans{H d H2:Hp}(a:Same H d)(b:Same d H2):Same H H2:=λc o h=>b c o<|a c o h
theorem Same.free{H a:Hp}(e:Same H a){l:zv}(b:a l=Option.none):H l=Option.none:=by
 cases q:H l with
 |none=>rfl
 |some o =>
  rw[e l o q]at b;cases b
theorem Same.seq{K:Frag}{H c:Hp}{a:zv}{xs:List V}(e:Same H c)(b:SqL K H a xs):SqL K c a xs:=by
 rcases b with (b|⟨o,b⟩)|b
 .show .inl<|.inl (e _ _ b)
 .show .inl<|.inr ⟨o,e _ _ b⟩
 .show .inr b
section
variable{κ:Type}[DecidableEq κ]
theorem vx{p:κ×V}{r:List _}{k:κ}(e:p.1=k):dQ (p::r) k=dQ r k:=by
 unfold dQ;rw[filter_cons,A4 (by simp[e])]
theorem vz{p:κ×V}{r:List _}{k:κ}(e:¬p.1=k):dQ (p::r) k=p::dQ r k:=by
 unfold dQ;rw[filter_cons,A6 (by simp[e])]
end
structure LcOk(X:Cx)(scope:Scope)(cl:List<|Str×zv):Prop where
 kind:scope.kind=.function
 clos:closureFor scope X.env=pure cl
 names:∀x∈scope.names,x.2=.local->scope.names.lookup x.1=some .local
 nocell:∀x∈scope.names,x.2≠.cell
 cells:∀x c,cl.lookup x=some c->X.env.cells.lookup x=some c
 has:∀x,((relabel scope X.env).names.lookup x=some .cell\/(relabel scope X.env).names.lookup x=some .free)->∃c,cl.lookup x=some c
abbrev ca(X:Cx)(N:List Str)(a:Scope)(cl:List<|Str×zv)(s:zn)(H:Hp)(ex:List zv):Cx :=
 {X with N:=N,s₀:=s,H₀:=H,env:=compEnvC a cl s.heap.objs.size X.env,outer:=X.stack,stack:=X.stack,ex:=ex,fn:=λ_=>false,pn:=[],xe:=λ_ _=>False}
section
variable{X:Cx}{pins:List (zv×Obj)}{σ:St}{H:Hp}{s:zn}{N:List Str}{scope:Scope}{cl:List (Str×zv)}{fp:List zv}
theorem BM(a:Inv X pins σ H s)(f:LcOk X scope cl)(g:∀b∈fp,kT X pins H b)(i:∀b∈fp,b<s.heap.objs.size):(ca X N scope cl s H fp).Ok where
 mod:=a.ok.mod
 kind:=f.kind
 glob:=a.ok.glob
 blt:=a.ok.blt
 above:=A8 _
 inj:=λx y c h1 h2=>a.ok.inj x y c (f.cells x c h1)<|f.cells y c h2
 has:=λx j=>f.has x j
 cab:=λx c h _=>absurd h (by simp)
 hd:=a.ok.hd
 frames:=a.ok.frames
 stk:=.inl rfl
 exf:=λb d=>{C2<|i b d,λx c h=>(g b d).2.2.2.2.1 x c (f.cells x c h)}
 bs:=a.bs
 bsz:=CL a.ok.bsz a.sz
 noex:=λb o e d=>by
  rcases (g b d).2.2.2.1 with z|z
  .show a.ok.noex b o e z
  .show absurd (C5 (B5 e)<|CL a.ok.bsz z)<|lt_irrefl _
 exfs:=λb d hs=>by
  rcases B3.mp (a.stkSub b hs)with z|z
  .show(g b d).2.1 z
  .show(g b d).2.2.1 z
 funs:=a.stack
 frf:=a.stkFree
def cM(k:Nat)(js:List Nat)(b:St):St:=List.replicate k none++js.map λa=>(b[a]?).getD none
theorem xg{h₁:qq}{tk:Nat}{k:Nat}{js:List Nat}(f:Inv X pins σ H s)(g:LcOk X scope cl)(G:∀b∈fp,kT X pins H b)(M:∀b∈fp,b<s.heap.objs.size)(L:∃m,h₁.Ns s.heap.objs.size m)(w:∀b o,s.heap.get? b=some o->h₁.get? b=some o)(F:N.length=k+js.length)(I:∀(i j:Nat) x,js[i]?=some j->N[k+i]?=some x->X.N[j]?=some x/\Vis X.env.scope x/\X.env.scope.names.lookup x≠some .local/\((relabel scope X.env).names.lookup x=some .cell\/(relabel scope X.env).names.lookup x=some .free)):
  Inv (ca X N scope cl s H fp) [] (cM k js σ) H {s with heap:=h₁,toks:=tk}:=by
 let(m,K):=L;have z:∀c v,s.heap.IsCell c v->h₁.IsCell c v:=λc v ⟨o,e,d⟩=>⟨o,w c o e,d⟩;show{BM f g G M,rfl,f.bare,Un.kept w,{m,K,λi x v n a P=>?_},λx c e=>?_,f.hok.fresh<|A8 _,λx c e=>f.freeC x c<|g.cells x c e,λp hp=>absurd (hp) (by simp),f.hok.kept w,?_}
 .unfold cM at a
  by_cases hi:i<k
  .rw[E9 (by simpa using hi),List.getElem?_replicate]at a
   split at a<;>cases a
  .obtain⟨i',rfl⟩:∃i',i=k+i':=⟨i-k,by lia⟩;rw[D8 (by simp),List.length_replicate,Nat.add_sub_cancel_left,B7]at a;cases t:js[i']? with
   |none=>rw[t]at a;cases a
   |some j =>
    rw[t]at a;have l:(σ[j]?).getD none=some v:=Option.some.inj a;let(h1,h2,h3,B):=I i' j x t n;have C:σ[j]?=some (some v):=by
     cases q:σ[j]? with
     |none=>rw[q]at l;cases l
     |some y=>rw[q]at l;show congrArg some l
    let(Q,_,J):=f.loc;let(u,r,O):=J j x v h1 C h2;show{u,r,.inr {B,?_}};rcases O with⟨q,_⟩|⟨_,c,D,E⟩
    .show absurd q h3
    .let(h,A):=g.has x B;have:h=c:=Option.some.inj<|(g.cells x h A).symm.trans D;subst this;show{h,A,z h _ E}
 .let(v,n):=f.cell x c<|g.cells x c e;show{v,z c v n}
 .unfold cM;rw[B0,List.length_replicate,A1];show F.symm
theorem xh{f:Hp}{x:St}{s':zn}{h':qq}(i:Inv X pins σ H s)(r:∀b∈fp,kT X pins H b)(J:Inv (ca X N scope cl s H fp) [] x f s')(g:SameBut s.heap.objs.size s'.heap h'):Inv X pins σ f {s' with heap:=h'}:=by
 have h:∀b o,s.heap.get? b=some o->b≠s.heap.objs.size:=λb o e=>C2<|B5 e;have u:=J.base;have w:Un _ fp H f _ h' :=
  {λb o e n a d=>(g.2 b<|h b o e).trans (u.keep b o e n a d),λb o e n a d=>by
   let(t,q):=u.slot b o e n a d;show{t,(g.2 b<|h b o e).trans q},u.free,λb o e d=>by
   let(o',q):=u.there b o e d;show{o',(g.2 b<|h b o e).trans q},u.tups,u.frzs,u.tbls}
 have nt:∀b o,f b=some o->b≠s.heap.objs.size:=λb o e z=>by
  have:=J.free;rw[show(ca X N _ cl s H fp).env.locals=s.heap.objs.size from rfl,<-z,e]at this;cases this
 show i.call' J.os w (λb o e=>?_) J.bare λb a=>?_
 .show(J.hok b o e).stay (λc v p q=>(g.2 c ?_).trans q) (λ_ q=>q) λ_ _ q=>q;rcases p with z|z
  .rw[z];show nt b o e
  .show nt c _ z
 .let(y,j,A,k,l,m):=r b a;show⟨k,j,l,m⟩
end
section
variable{prog:zi}{w:xr}{A:xx}{R:Result->zn->Prop}{s:zn}
def ocW(prog:zi)(w:xr)(A:xx)(oc:Option Expr)(env:Env)(K:Bool->zn->Prop)(s:zn):Prop:=match oc with
 |none=>K true s
 |some c=>wpAny (model prog w) A (isTrue c env<|eval c env) K (λ_ _=>False) s
theorem lR(e b iter c:Expr)(g:Scope)(pos:Pos)(a d:zy)(env:Env):
  compTurn (.ListComp e [{b,iter,[c],0}] g pos) 0 a d env=(standAt iter.pos >>= λ_=>pyNext a >>= λr=>match r with
   |none=>pure (.done .next)
   |some v=>letOwnedTupleGo b a v >>= λ_=>assign b env v >>= λ_ =>
    (forIn [c] true λc r=>if r=true then do let f <- isTrue c env (eval c env);pure (ForInStep.yield f)else pure (ForInStep.yield r)) >>= λf =>
    if f=true then (eval e env >>= λx=>call (.builtin "list.append") [d,x] >>= λ_=>pure ()) >>= λ_ =>
     again (.compLoop (.ListComp e [{b,iter,[c],0}] g pos) 0 a d env)
    else again (.compLoop (.ListComp e [{b,iter,[c],0}] g pos) 0 a d env)):=by rfl
theorem Af{q o iter:Expr}{oc:Option Expr}{z:Scope}{pos:Pos}{j p:zy}{env:Env}(e:Nat->zn->Prop)(u:∀n s,e n s->wpAny (model prog w) A (pyNext j) (λr g=>match r with
   |none=>R (.ok .next) g
   | some v=>wpAny (model prog w) A (letOwnedTupleGo o j v) (λ_ l=>wpAny (model prog w) A (assign o env v) (λ_ a=>ocW prog w A oc env (λk a =>
     if k=true then wpAny (model prog w) A (eval q env) (λx h =>
      wpAny (model prog w) A (call (.builtin "list.append") [p,x]) (λ_ B=>∃m,m<n/\e m B) (λ_ _=>False) h) (λ_ _=>False) a
     else ∃m,m<n/\e m a) a) (λ_ _=>False) l) (λ_ _=>False) g) (λ_ _=>False) s)(n:Nat)(y:e n s):codeAny (model prog w) A (.compLoop (.ListComp q [⟨o,iter,oc.toList,0⟩] z pos) 0 j p env) R s:=by
 show codeAny_loop rfl e (λn s t=>?_) n y;change wpAny _ _ _ _ _ s;show wpAny_noted ?_;cases oc with
 |none =>
  rw[show(none:Option Expr).toList=[]from rfl,compTurn_list1];show Wb<|wpAny_standAt (Wb<|wpAny_mono (u n s t) (λr g f=>?_) λ_ _ h'=>h'.elim);cases r with
  |none=>show Wp f
  |some v =>
   show Wb<|wpAny_mono f (λ_ l i=>Wb<|wpAny_mono i (λ_ a b=>(Wb<|Wb (wpAny_mono (b) (λx a b=>Wb<|wpAny_mono b (λ_ h d=>Wp<|Wp ⟨rfl,d⟩) λ_ _ h'=>h'.elim) λ_ _ h'=>h'.elim))) λ_ _ h'=>h'.elim) λ_ _ h'=>h'.elim
 |some c =>
  rw[show(some c).toList=[c]from rfl,lR];show Wb<|wpAny_standAt (Wb<|wpAny_mono (u n s t) (λr g f=>?_) λ_ _ h'=>h'.elim);cases r with
  |none=>show Wp f
  |some v =>
   show Wb<|wpAny_mono f (λ_ l i=>Wb<|wpAny_mono i (λ_ a b=>?_) λ_ _ h'=>h'.elim) λ_ _ h'=>h'.elim;rw[List.forIn_cons];simp only[D9];show Wb<|Wb (Wb<|wpAny_mono (show wpAny _ _ _ _ _ _ from b) (λk h d=>Wp<|Wp ?_) λ_ _ h'=>h'.elim);cases k with
   |true=>show Wb<|Wb (wpAny_mono (d) (λx a b=>Wb<|wpAny_mono b (λ_ h d=>Wp<|Wp ⟨rfl,d⟩) λ_ _ h'=>h'.elim) λ_ _ h'=>h'.elim)
   |false=>show Wp ⟨rfl,d⟩
end
def LcW(k:Nat)(js:List Nat)(g:TG)(h:TE)(j:St)(Q:VK)(J:It)(e:Hp)(p:zv):Prop:=∃W:Nat->Nat->List V->St->Hp->Prop,
 (∃m,W 0 m [] (cM k js j)<|upd e p (.lst []))/\∀i m ys c H',W i m ys c H'->(J.stop i H'/\Q (.ref p) H') \/
  (J.go i H'/\ys.length<sizeLine/\∀x H2,J.yld i H' x H2->g x c H2 λd f=>h d f λy a=>a p=some (.lst ys)/\∃b,b<m/\W (i+1) b (ys++[y]) d (upd a p<|.lst (ys++[y])))
def tLc(k:Nat)(js:List Nat)(c:TI)(g:TG)(b:TE):TE:=λσ H Q=>c σ H λa H1=>∀p,H1 p=none->LcW k js g b σ Q a H1 p
def pk(k:Nat)(js:List Nat)(g:TG)(l:TT)(n:TE)(o:St)(Q:VK)(J:It)(h:Hp)(p:zv):Prop:=∃W:Nat->Nat->List V->St->Hp->Prop,
 (∃m,W 0 m [] (cM k js o)<|upd h p (.lst []))/\∀i m ys f H',W i m ys f H'->(J.stop i H'/\Q (.ref p) H') \/
  (J.go i H'/\ys.length<sizeLine/\∀x H2,J.yld i H' x H2->g x f H2 λc j=>l c j λb d=>if b=true then n c d λy e=>e p=some (.lst ys)/\∃a,a<m/\W (i+1) a (ys++[y]) c (upd e p<|.lst (ys++[y]))
   else ∃a,a<m/\W (i+1) a ys c d)
def Ag(k:Nat)(js:List Nat)(d:TI)(g:TG)(b:TT)(c:TE):TE:=λσ H Q=>d σ H λa H1=>∀p,H1 p=none->pk k js g b c σ Q a H1 p
def ocT(X:Cx)(oc:Option Expr)(a:TT):Prop:=match oc with
 |none=>∀σ H K,a σ H K->K true H
 |some c=>PT X c a
theorem Ah{X:Cx}{oc:Option _}{i:TT}{h:List _}{s:zn}{a:St}{H:Hp}{K:Bool->Hp->Prop}{f:Bool->zn->Prop}(g:ocT X oc i)(j:X.xe=λ_ _=>False)(d:Inv X h a H s)(q:i a H K)(m:∀b s',TP X h a K b s'->f b s'):ocW X.prog X.w X.A oc X.env f s:=by
 cases oc with
 |none=>show m _ s ⟨H,d,g a H K q⟩
 |some c=>show wpAny_mono (g _ s a H K d q) m λ_ _ e=>by rw[j]at e;show e
section
variable{X:Cx}{N:List Str}{scope:Scope}{cl:List (Str×zv)}{k:Nat}{js:List Nat}
theorem tP{U K iter:Expr}{oc:Option Expr}{pos q:Pos}{d7:TI}{g:TG}{d4:TT}{d5:TE}{a6:Option (zy->Sem Unit)}{S:zy->zn->Prop}{Q:VK}{B:List (zv×Obj)}{s:zn}{D:St}{H:Hp}(c5:X.calm=true)(m:LcOk X scope cl)(e8:N.length=k+js.length)(f3:∀(i j:Nat) x,js[i]?=some j->N[k+i]?=some x->X.N[j]?=some x/\Vis X.env.scope x/\X.env.scope.names.lookup x≠some .local/\((relabel scope X.env).names.lookup x=some .cell\/(relabel scope X.env).names.lookup x=some .free))(f2:PI X K iter d7)(f1:∀s H fp,PG (ca X N scope cl s H fp) K g)(f8:∀s H fp,ocT (ca X N scope cl s H fp) oc d4)(f0:∀s H fp,PE (ca X N scope cl s H fp) U d5)(f6:∀x,foldedSetIterable iter X.env x=pure x){c1:It->Hp->zv->Prop}(e7:∀J H1 p,c1 J H1 p->pk k js g d4 d5 D Q J H1 p)(d9:Inv X B D H s)(V:d7 D H λJ H1=>∀p,H1 p=none->c1 J H1 p)(e4:∀{a4 I:zn} {P t:Hp} {h3:St} {fp:List zv} {p:zv},Inv X B D P a4->(∀b∈fp,kT X B P b)->Inv (ca X N scope cl a4 P fp) [] h3 t I->Q (.ref p) t->compPost (model X.prog X.w) X.A X.xe a6 S (.ref p) a4.heap.objs.size (.ok .next) I):
  wpAny (model X.prog X.w) X.A (comprehension (.ListComp U [⟨K,iter,oc.toList,0⟩] scope pos) scope X.env q (newList []) false (eval iter X.env) a6) S X.xe s:=by
 show wpAny_comprehension_free rfl f6 m.clos m.kind m.names<|thn (f2 B s D H _ d9 V) λv s1 h1=>thn h1 λh4 f h2=>?_;let(f9,fp,d6,J,H2,e,b3,T,d2,c2,e9):=h2;subst e;have c6:∀b∈fp,b<f.heap.objs.size:=λb a=>by
  let(o,e,_):=T.obj _ _ d2 b a;show B5 e
 show wpAny_newObj_type<|wpAny_newFunctionEnv m.nocell (by intro y hy;simp at hy) (λh₁ a0 a2=>?_) m.kind;dsimp only at a0 a2|-;let(W,(g0,g8),g7):=e7 _ _ _<|e9 f.heap.objs.size (b3.hok.fresh<|A8 _);have G:Inv X B D (upd H2 f.heap.objs.size<|.lst []) {f with heap:=f.heap.push {cls:=.type "list",dict:=none,data:=.seq ([]:List zy).toArray}}:=b3.lnew (t':=f.toks) .nil<|CI _
 generalize c4:f.heap.push {cls:=.type "list",dict:=none,data:=.seq ([]:List zy).toArray}=h at a0 a2 G|-;have f7:h.objs.size=f.heap.objs.size+1:=by rw[<-c4,size_push]
 have E:∀b∈fp,kT X B (upd H2 f.heap.objs.size<|.lst []) b:=λb a=>{by rw[aj<|C2 (c6 b a)];show(c2 b a).1,(c2 b a).2};have Y:∀b∈fp,b<h.objs.size:=λb a=>by rw[f7];show F5<|c6 b a
 have c7:∀b o,h.get? b=some o->h₁.get? b=some o:=λb o e=>a2.extBut b o (C2<|B5 e)<|A0 _ e;have d1:d6 0 h₁:=T.keep _ _ _ d2 λb a o e=>c7 b o<|(λb o e=>by rw[<-c4];show A0 _ e) b o e;have a5:∀{H':Hp},(∀b∈fp,H' b=none)->∀b∈fp,kT (ca X N scope cl {f with heap:=h} (upd H2 f.heap.objs.size<|.lst []) fp) [] H' b:=λf5 b a =>
  {f5 b a,C2<|Y b a,(BM (N:=N) G m E Y).exfs b a,.inl a,λx c V=>(E b a).2.2.2.2.1 x c (m.cells x c V),λp hp=>absurd (show p∈([]:List<|zv×Obj)from hp) (by simp)}
 have c8:codeAny (model X.prog X.w) X.A (.compLoop (.ListComp U [⟨K,iter,oc.toList,0⟩] scope pos) 0 (.ref f9) (.ref f.heap.objs.size)<|compEnvC scope cl h.objs.size X.env)
   (compPost (model X.prog X.w) X.A X.xe a6 S (.ref f.heap.objs.size) h.objs.size) {f with heap:=h₁,toks:=f.toks+([]:List<|Str×zy).length}:=by
  show Af (λn s'=>∃i ys d8 H',Inv (ca X N scope cl {f with heap:=h} (upd H2 f.heap.objs.size<|.lst []) fp) [] d8 H' s'/\d6 i s'.heap/\(∀b∈fp,H' b=none)/\W i n ys d8 H') ?_ g0 {0,[],_,_,(xg (N:=N) (k:=k) (js:=js) (tk:=f.toks+([]:List<|Str×zy).length) G m E Y ⟨_,a0⟩ c7 e8 f3),d1,λb a=>(E b a).1,g8}
  rintro n c9 ⟨i,ys,M,t,c0,d3,c3,g9⟩;rcases g7 i n ys M t g9 with⟨stop,g2⟩|⟨go,f4,step⟩
  .show thn (T.done (ca X N scope cl {f with heap:=h} (upd H2 f.heap.objs.size<|.lst []) fp) rfl rfl rfl c5 i [] c9 M t (λ_ _=>False) c0 (a5 c3) d3 stop) λr I l=>?_
   let(a1,e0):=l;subst a1;show e4 G E e0 g2
  .show thn (T.item (ca X N scope cl {f with heap:=h} (upd H2 f.heap.objs.size<|.lst []) fp) rfl rfl rfl c5 i [] c9 M t (λ_ _=>False) c0 (a5 c3) d3 go) λr I l=>?_
   let(u,a1,e6):=l;subst a1;show thn e6 λ_ g5 l=>?_;let(x,a8,e1,g3,h0,F,e5):=l;show thn (f1 _ _ _ _ g5 M a8 x u _ (e1.pinned (a5 e5)<|T.obj _ _ F) g3<|step x a8 h0) λ_ d0 ⟨O,a9,z,C⟩=>(Ah (f8 _ _ _) rfl z C λb d0 l=>?_);let(a9,z,C):=l;cases b with
   |true =>
    rw[A6 rfl]at C|-;show thn (f0 _ _ _ _ d0 O a9 _ z C) λy g6 ⟨L,b1,e2,g4,g1,a3,Z,a7⟩=>(thn (ck _ g6 O b1 (.ref f.heap.objs.size) [L] _ _ (λ_ b2=>b2=upd b1 f.heap.objs.size (.lst<|ys++[L])) e2 rfl (.cons g4 .nil) ⟨_,ys,L,rfl,rfl,g1,f4,rfl⟩) λ_ h5 l=>?_);let(_,b2,R,_,e3):=l;subst e3;show{a3,Z,i+1,ys++[L],O,_,R.unpinned,T.keep _ _ _ F λb a o e=>(R.pin (b,o)<|CH _ (CH _<|dq a e)).1,λb a=>?_,a7};let(o,e,d):=T.obj _ _ F b a;show(R.pin (b,o)<|CH _ (CH _<|dq a e)).2.1
   |false =>
    rw[A4 (by simp)]at C|-;let(a3,Z,a7):=C;show{a3,Z,i+1,ys,O,_,z.unpinned,T.keep _ _ _ F λb a o e=>(z.pin (b,o)<|CH _ (CH _<|dq a e)).1,λb a=>?_,a7};let(o,e,d):=T.obj _ _ F b a;show(z.pin (b,o)<|CH _ (CH _<|dq a e)).2.1
 show codeAny_compStart_list c8<|T.self _ 0 _ _ _ d1 c8
theorem tQ{g:TG}{b:TE}{c:St}{Q:VK}(J:It)(a:Hp)(p:zv)(d:LcW k js g b c Q J a p):pk k js g (λ_ H K=>K true H) b c Q J a p:=by
 let(W,f,e):=d;show⟨W,f,e⟩
theorem xi{d a iter:Expr}{oc:Option _}{pos:Pos}{l:TI}{g:TG}{e:TT}{f:TE}{c:St->VK->It->Hp->zv->Prop}(r:∀{σ Q} J H1 p,c σ Q J H1 p->pk k js g e f σ Q J H1 p)(u:X.calm=true)(o:LcOk X scope cl)(t:N.length=k+js.length)(z:∀(i j:Nat) x,js[i]?=some j->N[k+i]?=some x->X.N[j]?=some x/\Vis X.env.scope x/\X.env.scope.names.lookup x≠some .local/\((relabel scope X.env).names.lookup x=some .cell\/(relabel scope X.env).names.lookup x=some .free))(y:PI X a iter l)(w:∀s H fp,PG (ca X N scope cl s H fp) a g)(D:∀s H fp,ocT (ca X N scope cl s H fp) oc e)(v:∀s H fp,PE (ca X N scope cl s H fp) d f)(B:∀x,foldedSetIterable iter X.env x=pure x):PE X (.ListComp d [⟨a,iter,oc.toList,0⟩] scope pos) (λσ H Q=>l σ H λJ H1=>∀p,H1 p=none->c σ Q J H1 p):=by
 intro pins s σ H Q I h;show tP u o t z y w D v B r I h λn q b E=>let⟨m,A,_⟩:=b.loc;{m,A,λh' C=>⟨.ref _,_,xh n q b C,rfl,E⟩}
theorem qw{b a iter:Expr}{pos:Pos}{d:TI}{g:TG}{c:TE}(l:X.calm=true)(e:LcOk X scope cl)(f:N.length=k+js.length)(p:∀(i j:Nat) x,js[i]?=some j->N[k+i]?=some x->X.N[j]?=some x/\Vis X.env.scope x/\X.env.scope.names.lookup x≠some .local/\((relabel scope X.env).names.lookup x=some .cell\/(relabel scope X.env).names.lookup x=some .free))(o:PI X a iter d)(n:∀s H fp,PG (ca X N scope cl s H fp) a g)(m:∀s H fp,PE (ca X N scope cl s H fp) b c)(q:∀x,foldedSetIterable iter X.env x=pure x:=by intro _;rfl):PE X (.ListComp b [{a,iter,[],0}] scope pos) (tLc k js d g c):=xi (oc:=none) tQ l e f p o n (λ_ _ _ _ _ _ h=>h) m q
theorem Dc{b a iter c:Expr}{pos:Pos}{f:TI}{g:TG}{d:TT}{e:TE}(n:X.calm=true)(l:LcOk X scope cl)(m:N.length=k+js.length)(r:∀(i j:Nat) x,js[i]?=some j->N[k+i]?=some x->X.N[j]?=some x/\Vis X.env.scope x/\X.env.scope.names.lookup x≠some .local/\((relabel scope X.env).names.lookup x=some .cell\/(relabel scope X.env).names.lookup x=some .free))(q:PI X a iter f)(p:∀s H fp,PG (ca X N scope cl s H fp) a g)(u:∀s H fp,PT (ca X N scope cl s H fp) c d)(o:∀s H fp,PE (ca X N scope cl s H fp) b e)(t:∀x,foldedSetIterable iter X.env x=pure x:=by intro _;rfl):PE X (.ListComp b [{a,iter,[c],0}] scope pos) (Ag k js f g d e):=xi (oc:=some c) (λ_ _ _ h=>h) n l m r q p u o t
end
end L2
namespace TB
open PySem PySem.SetTable
def adv(mask:Nat)(p:Probe):Probe :=
 if p.more>0 then {p with j:=p.j+1,more:=p.more-1} else
 {p with j:=(leap mask p.i p.perturb).1,more:=runEnd mask (leap mask p.i p.perturb).1-(leap mask p.i p.perturb).1,i:=(leap mask p.i p.perturb).1,perturb:=(leap mask p.i p.perturb).2}
theorem lT(t:SetTable)(p:Probe):advance t p=adv t.mask p:=rfl
def lvP(mask:Nat)(x:Nat×Nat):Probe:={j:=x.1,more:=runEnd mask x.1-x.1,i:=x.1,perturb:=x.2,dummy:=none}
def st(mask:Nat)(h:Int):Probe:=lvP mask (bits h % (mask+1),bits h)
def nth(mask:Nat):Probe->Nat->Probe
 |p,0=>p
 |p,n+1=>nth mask (adv mask p) n
theorem jh(mask:Nat):∀(a b:Nat)(p:Probe),nth mask p (a+b)=nth mask (nth mask p a) b
 |0,b,p=>by rw[zero_add];rfl
 |a+1,b,p=>by
  rw[show a+1+b=(a+b)+1 by lia];change nth _ _ _=nth _ _ b;show jh _ a b _
theorem xj(mask:Nat)(p:Probe)(n:Nat):nth mask p (n+1)=adv mask (nth mask p n):=by
 rw[jh];rfl
def pos(mask:Nat)(h:Int)(n:Nat):Nat:=(nth mask (st mask h) n).j
theorem nM(mask:Nat):∀(m:Nat)(p:Probe),p.more=m->nth mask p m={p with j:=p.j+m,more:=0}
 |0,p,h=>by
  change p=_;cases p;grind
 |m+1,p,h=>by
  change nth _ _ m=_;have e:adv mask p={p with j:=p.j+1,more:=m}:=by
   unfold adv;rw[A6 (by lia),h];rfl
  rw[e,nM _ m _ rfl]
  grind
theorem sr(mask:Nat)(x:Nat×Nat):nth mask (lvP mask x) (runEnd mask x.1-x.1+1)=lvP mask (leap mask x.1 x.2):=by
 rw[xj,(nM mask (runEnd mask x.1-x.1) (lvP _ x) rfl)];rfl
theorem Dd(mask i:Nat):runEnd mask i-i<=9:=by unfold runEnd;grind
def lv(mask:Nat):Nat->Nat×Nat->Nat×Nat
 |0,x=>x
 |k+1,x=>lv mask k<|leap mask x.1 x.2
theorem ss(mask:Nat):∀(a b:Nat)(x:Nat×Nat),lv mask (a+b) x=lv mask b (lv mask a x)
 |0,b,x=>by rw[zero_add];rfl
 |a+1,b,x=>by
  rw[show a+1+b=(a+b)+1 by lia];show ss _ a b _
theorem qx(mask:Nat):∀(k:Nat)(x:Nat×Nat),∃n,n<=10*k/\nth mask (lvP mask x) n=lvP mask (lv mask k x)
 |0,x=>⟨0,by lia,rfl⟩
 |k+1,x=>by
  let(n,a,e):=qx _ k _;show{(runEnd mask x.1-x.1+1)+n,?_,?_}
  .have:=Dd mask x.1;lia
  .rw[jh,sr];show e
theorem iE(mask:Nat):∀(k:Nat)(x:Nat×Nat),(lv mask k x).2=x.2 / 32 ^ k
 |0,x=>by simp[lv]
 |k+1,x=>by
  change(lv _ k _).2=_;rw[iE _ k];change x.2 / 32 / 32 ^ k=_;rw[Nat.div_div_eq_div_mul,Nat.pow_succ,Nat.mul_comm 32]
theorem tR(mask:Nat):∀(k:Nat)(x:Nat×Nat),x.1<=mask->(lv mask k x).1<=mask
 |0,x,h=>h
 |k+1,x,h=>tR _ k _ (by change(x.1*5+1+x.2 / 32) % (mask+1)<=mask;have:=mod_lt (x.1*5+1+x.2 / 32) (show 0<mask+1 by lia);lia)
theorem tS(h:Int):bits h<2 ^ 64:=by
 unfold bits
 grind
def ji(mask:Nat):Nat->Nat->Nat
 |0,i=>i
 |k+1,i=>ji mask k<|(i*5+1) % (mask+1)
theorem lU(mask:Nat):∀(k i:Nat),lv mask k (i,0)=(ji mask k i,0)
 |0,i=>rfl
 |k+1,i=>by
  change lv _ k ((i*5+1+0 / 32) % (mask+1),0 / 32)=_;show lU _ k _
def Cyc(mask:Nat):Prop:=∀i,i<=mask->∀j,j<=mask->∃k,k<=mask/\ji mask k i=j
theorem ik(mask:Nat):∀(a b i:Nat),ji mask (a+b) i=ji mask b (ji mask a i)
 |0,b,i=>by rw[zero_add];rfl
 |a+1,b,i=>by
  rw[show a+1+b=(a+b)+1 by lia];show ik _ a b _
def Ai(mask:Nat):Nat->Nat->List Nat
 |0,_=>[]
 |n+1,i=>i::Ai mask n ((i*5+1) % (mask+1))
theorem qy{mask j:Nat}:∀{n i:Nat},j∈Ai mask n i->∃k,k<n/\ji mask k i=j
 |0,_,h=>by simp[Ai]at h
 |n+1,i,h=>by
  rcases B3.mp h with e|e
  .show{0,by lia,e.symm}
  .let(k,b,a):=qy e;show{k+1,by lia,a}
theorem xk{mask:Nat}(g:ji mask (mask+1) 0=0)(d:(List.range<|mask+1).all (λj=>(Ai mask (mask+1) 0).contains j)=true):Cyc mask:=by
 have all:∀j,j<=mask->∃k,k<=mask/\ji mask k 0=j:=λj f=>by
  rw[G5]at d;have h1:=d j<|FW.mpr (by lia);rw[List.contains_iff_mem]at h1;let(k,n,e):=qy h1
  grind
 intro i hi j f;let(a,h,ea):=all i hi;let(b,m,c):=all j f
 by_cases l:a<=b
 .show{b-a,by lia,?_};rw[<-ea,<-ik,show a+(b-a)=b by lia];show c
 .show{mask+1-a+b,by lia,?_};rw[<-ea,<-ik,show a+(mask+1-a+b)=(mask+1)+b by lia,ik,g];show c
def Mk(m:Nat):Prop:=m=7\/m=15\/m=31\/m=63\/m=127\/m=255
theorem Mk.cyc{m:Nat}(h:Mk m):Cyc m:=by
 rcases h with e|e|e|e|e|e<;>subst e<;>show xk (by decide +kernel) (by decide +kernel)
theorem Mk.ge{m:Nat}(h:Mk m):7<=m/\m<=255:=by rcases h with e|e|e|e|e|e<;>subst e<;>lia
theorem Mk.odd{m:Nat}(h:Mk m):m % 2=1:=by rcases h with e|e|e|e|e|e<;>subst e<;>rfl
def mkB(m:Nat):Bool:=m==7||m==15||m==31||m==63||m==127||m==255
theorem De:(List.range 256).all (λw=>mkB (sizeAbove w-1)&&decide (w<=sizeAbove w-1)&&decide (sizeAbove w<=256))=true:=by decide +kernel
theorem jj{w:Nat}(h:w<=255):Mk (sizeAbove w-1)/\w<=sizeAbove w-1/\sizeAbove w<=256:=by
 have h1:=(G5.mp De) w (FW.mpr (by lia));rw[D7,D7,C8,C8]at h1;show{?_,h1.1.2,h1.2};have h2:=h1.1.1;unfold mkB at h2;rw[or_eq_true,or_eq_true,or_eq_true,or_eq_true,or_eq_true,G4,G4,G4,G4,G4,G4]at h2;rcases h2 with ((((h|h)|h)|h)|h)|h
 .show .inl h
 .show .inr<|.inl h
 .show .inr<|.inr (.inl h)
 .show .inr<|.inr (.inr<|.inl h)
 .show .inr<|.inr (.inr<|.inr (.inl h))
 .show .inr<|.inr (.inr<|.inr (.inr h))
theorem cover{mask:Nat}(c:Cyc mask)(a:Int){j:Nat}(f:j<=mask):∃n,n<10*turns mask/\pos mask a n=j:=by
 have d:(lv mask 13 (bits a % (mask+1),bits a)).2=0:=by
  rw[iE];have:=tS a;show Nat.div_eq_of_lt (by grind)
 have h1:(lv mask 13 (bits a % (mask+1),bits a)).1<=mask:=tR mask _ _ (by have:=mod_lt (bits a) (show 0<mask+1 by lia);grind);let(k,g,e):=c _ h1 j f;let(n,h,b):=qx _ (13+k) _;show{n,by unfold turns;lia,?_};unfold pos st;rw[b,ss];have ex:lv mask 13 (bits a % (mask+1),bits a)=((lv mask 13 (bits a % (mask+1),bits a)).1,0):=by rw[<-d]
 rw[ex,lU];show e
def InT(mask:Nat)(p:Probe):Prop:=p.j+p.more<=mask
theorem jI{mask i:Nat}(h:i<=mask):runEnd mask i<=mask/\i<=runEnd mask i:=by unfold runEnd;grind
theorem Aj{mask:Nat}{p:Probe}(b:InT mask p):InT mask (adv mask p):=by
 unfold adv InT at *
 split
 .grind
 .have a:(leap mask p.i p.perturb).1<=mask:=by
   change(p.i*5+1+p.perturb / 32) % (mask+1)<=mask;have:=mod_lt (p.i*5+1+p.perturb / 32) (show 0<mask+1 by lia)
   lia
  have:=jI a
  grind
theorem tT{mask:Nat}:∀(n:Nat){p:Probe},InT mask p->InT mask (nth mask p n)
 |0,_,h=>h
 |n+1,_,h=>tT n<|Aj h
theorem Df{mask:Nat}{x:Nat×Nat}(h:x.1<=mask):InT mask (lvP mask x):=by
 have:=jI h;change x.1+(runEnd _ x.1-x.1)<=mask
 lia
theorem xm(mask:Nat)(h:Int)(n:Nat):pos mask h n<=mask:=by
 have:InT _ (nth _ (st mask h) n):=tT n<|Df (by have:=mod_lt (bits h) (show 0<mask+1 by lia);grind);unfold InT at this;unfold pos
 lia
theorem lV(E:Nat->Prop):∀N,E N->∃n,n<=N/\E n/\∀m,m<n->¬E m
 |N,h=>by
  induction N using Nat.strongRecOn with
  |_ N a =>
   grind
theorem jJ(mask:Nat):∀(n:Nat)(p:Probe),(nth mask p n).dummy=p.dummy
 |0,_=>rfl
 |n+1,p=>by
  change(nth _ _ n).dummy=_;rw[jJ _ n];unfold adv
  split<;>rfl
theorem lW(t:SetTable)(c:Nat->Int)(b:Int):∀(n:Nat)(p:Probe)(a:Nat),n<a ->
  (∀m,m<n->∃i,t.slot (nth t.mask p m).j=.live i/\(c i==b)=false)->t.slot (nth t.mask p n).j=.empty ->
  probe.go t c b a p=some (.empty (nth t.mask p n).j p.dummy)
 |0,p,a+1,_,_,e=>by
  have d:t.slot p.j=.empty:=e;unfold probe.go;rw[d];rfl
 |n+1,p,a+1,hf,hl,e=>by
  let(i,h1,h2):=hl 0 (by lia);have f:t.slot p.j=.live i:=h1;unfold probe.go;rw[f];simp only[h2,C9,CO,lT];rw[lW t c b n _ _ (by lia) (λm g=>hl (m+1) (by lia)) e]
  congr 2
  show jJ _ 1 p
theorem tU(t:SetTable)(c:Nat->Int)(b:Int)(i:Nat):∀(n:Nat)(p:Probe)(a:Nat),n<a ->
  (∀m,m<n->∃i,t.slot (nth t.mask p m).j=.live i/\(c i==b)=false)->t.slot (nth t.mask p n).j=.live i->(c i==b)=true ->
  probe.go t c b a p=some (.candidate (nth t.mask p n).j i (nth t.mask p<|n+1))
 |0,p,a+1,_,_,e,hh=>by
  have d:t.slot p.j=.live i:=e;unfold probe.go;rw[d];simp only[hh,D9];rfl
 |n+1,p,a+1,hf,hl,e,hh=>by
  let(i',h1,h2):=hl 0 (by lia);have f:t.slot p.j=.live i':=h1;unfold probe.go;rw[f];simp only[h2,CO,lT];rw[tU t c b i n _ a (by lia) (λm g=>hl (m+1) (by lia)) e hh];rfl
theorem lX(xs:Array Nat)(j:Nat)(d:∀a b,a<b->b<xs.size->xs.getD a 0<xs.getD b 0):∀(c lo hi:Nat),hi-lo<=c->lo<=hi->hi<=xs.size ->
  (∀k,k<lo->xs.getD k 0<j)->(∀k,hi<=k->k<xs.size->j<=xs.getD k 0) ->
  below.go xs j c lo hi<=xs.size/\(∀k,k<below.go xs j c lo hi->xs.getD k 0<j)/\(∀k,below.go xs j c lo hi<=k->k<xs.size->j<=xs.getD k 0)
 |0,lo,hi,hf,hl,hh,h1,h2=>by
  have e:lo=hi:=by lia
  subst e;show⟨hh,h1,h2⟩
 |c+1,lo,hi,hf,hl,hh,h1,h2=>by
  unfold below.go
  by_cases g:lo<hi
  .rw[A6 g];have h:xs.getD ((lo+hi) / 2) j=xs.getD ((lo+hi) / 2) 0:=by
    rw[CB,CB,C1 (by lia)];rfl
   simp only[h]
   split
   .rename_i f
    show lX xs j d c _ hi (by lia) (by lia) hh (λk i=>?_) h2
    by_cases e:k=(lo+hi) / 2
    .rw[e];show f
    .have:=d k ((lo+hi) / 2) (by lia) (by lia);lia
   .rename_i f
    show lX xs j d c lo _ (by lia) (by lia) (by lia) h1 λk i l=>?_
    by_cases e:k=(lo+hi) / 2
    .rw[e];lia
    .have:=d ((lo+hi) / 2) k (by lia) l;lia
  .rw[A4 g];have e:lo=hi:=by lia
   subst e;show⟨hh,h1,h2⟩
def Up(l:List Nat):Prop:=l.Pairwise (· < ·)
theorem Dg{l:List Nat}(d:Up l){a b:Nat}(e:a<b)(c:b<l.length):l.toArray.getD a 0<l.toArray.getD b 0:=by
 have:=D2.mp d a b (by lia) c e;simp[show a<l.length by lia,c];show this
theorem cQ{l:List Nat}(d:Up l)(j:Nat):below l.toArray j<=l.length/\(∀k (c:k<l.length),k<below l.toArray j->l[k]<j)/\(∀k (c:k<l.length),below l.toArray j<=k->j<=l[k]):=by
 have:=lX _ j (λa b e f=>Dg d e (by simpa using f)) l.toArray.size 0 _ (by lia) (by lia) (A8 _) (by intro k c;lia) (by intro k c g;lia);unfold below;show{by simpa using this.1,λk c h1=>?_,λk c h1=>?_}
 .have:=this.2.1 k h1;simpa [c]using this
 .have:=this.2.2 k h1 (by simpa using c);simpa [c]using this
structure Tb(t:SetTable)(l:List Nat):Prop where
 pl:t.place=l.toArray
 nd:t.dummies=#[]
 up:Up l
 le:∀j∈l,j<=t.mask
theorem tV(j:Nat):has #[] j=false:=by
 unfold has;simp
theorem tW{t:SetTable}{l:List Nat}(T:Tb t l){i j:Nat}(a:l[i]?=some j):t.slot j=.live i:=by
 let(hi,e):=A9.mp a;let(f,b,c):=cQ T.up j;have d:below l.toArray j=i:=by
  rcases lt_trichotomy (below l.toArray j) i with z|z|z
  .have:=c _ (by lia)<|A8 _;have:=D2.mp T.up _ i (by lia) hi z
   lia
  .show z
  .have:=b i hi z;lia
 unfold SetTable.slot;rw[T.pl,d];simp[a]
theorem qz{t:SetTable}{l:List Nat}(T:Tb t l){j:Nat}(h:j∉l):t.slot j=.empty:=by
 unfold SetTable.slot;rw[T.pl,T.nd,tV];have:¬(l.toArray[below l.toArray j]?==some j)=true:=by
  intro z;show h<|C3 (by simpa using z)
 simp only[this,C9,CO]
theorem vA{l:List Nat}(d:Up l){j:Nat}(m:j∉l):Up (l.take (below l.toArray j)++j::l.drop (below l.toArray j)):=by
 let(n,h,i):=cQ d j;unfold Up;rw[pairwise_append,E1];have h1:∀a∈l.take (below l.toArray j),a<j:=by
  intro a c;let(k,g,e):=G0.mp c;rw[D6]at g;rw[List.getElem_take]at e;rw[<-e];show h k (by lia) (by lia)
 have h2:∀a∈l.drop (below l.toArray j),j<a:=by
  intro a c;have o:a≠j:=λe=>m (e ▸ List.mem_of_mem_drop c);let(k,g,e):=G0.mp c;rw[G1]at g;rw[List.getElem_drop]at e;have:=i (below l.toArray j+k) (by lia) (by lia)
  lia
 show{(Pairwise.sublist (take_sublist _ _) d),{h2,(Pairwise.sublist (List.drop_sublist _ _) d)},λa c b f=>?_};rcases B3.mp f with rfl|f
 .show h1 a c
 .have:=h1 a c;have:=h2 b f;lia
theorem xn{t:SetTable}{l:List Nat}(T:Tb t l){j:Nat}(c:j∉l)(d:j<=t.mask):Tb (t.put j).1 (l.take (below l.toArray j)++j::l.drop (below l.toArray j))/\(t.put j).2=below l.toArray j/\(t.put j).1.mask=t.mask:=by
 show{{?_,?_,vA T.up c,?_},?_,rfl}
 .change insertAt _ _ j=_;rw[T.pl];apply toList_inj.mp;rw[SetTable.toList_insertAt]
 .change(if has _ j=true then _ else t.dummies)=#[];rw[T.nd,tV];rfl
 .intro a b;rcases C6.mp b with h|h
  .show T.le a<|List.mem_of_mem_take h
  .rcases B3.mp h with rfl|h
   .show d
   .show T.le a<|List.mem_of_mem_drop h
 .change below _ j=_;rw[T.pl]
def emp(owner:Array<|Option Nat)(j:Nat):Bool:=(owner.getD j<|some 0).isNone
theorem nN(mask:Nat)(owner:Array _):∀(a:Nat)(x:Nat×Nat),x.1<=mask->(∃k,k<a/\emp owner (lv mask k x).1=true) ->
  ∃j,layClean.free mask owner a x.1 x.2=some j/\emp owner j=true/\j<=mask
 |0,x,_,h=>by let(k,c,_):=h;lia
 |a+1,x,hx,h=>by
  unfold layClean.free;have d:=jI hx;cases e:(List.range _).find? _ with
  |some k =>
   rw[List.find?_range_eq_some]at e;have:=FW.mp e.2.1;show{x.1+k,rfl,e.1,by lia}
  |none =>
   rw[List.find?_range_eq_none]at e;let(k,c,h1):=h;cases k with
   |zero =>
    have:=e 0 (by lia);have b:(owner.getD x.1 _).isNone=true:=h1;rw[Nat.add_zero,b]at this;simp at this
   |succ k=>show nN _ _ _ _ (tR _ 1 x hx) ⟨k,by lia,h1⟩
theorem Ak{mask:Nat}(c:Cyc mask)(owner:Array _)(a:Int){d:Nat}(h:d<=mask)(g:emp owner d=true):
  ∃j,layClean.free mask owner (turns mask) (bits a % (mask+1)) (bits a)=some j/\emp owner j=true/\j<=mask:=by
 have f:(lv mask 13 (bits a % (mask+1),bits a)).2=0:=by
  rw[iE];have:=tS a;show Nat.div_eq_of_lt (by have e:(32:Nat) ^ 13=36893488147419103232:=(by decide);rw[e];change bits a<_;lia)
 have b:bits a % (mask+1)<=mask:=by have:=mod_lt (bits a) (show 0<mask+1 by lia);lia
 have h1:(lv mask 13 (bits a % (mask+1),bits a)).1<=mask:=tR mask _ _ b;let(k,i,e):=c _ h1 _ h;show nN mask _ _ (bits a % (mask+1),bits a) b {13+k,by unfold turns;lia,?_};rw[ss];have ex:lv mask 13 (bits a % (mask+1),bits a)=((lv mask 13 (bits a % (mask+1),bits a)).1,0):=by rw[<-f]
 rw[ex,lU,e];show g
def live(mask:Nat)(owner:Array<|Option Nat):List (Nat×Nat):=(List.range<|mask+1).filterMap λj=>(owner.getD j none).map (j,·)
theorem gM{α d:Type}{f g:α->Option d}:∀{l:List α},(∀x∈l,g x=f x)->l.filterMap g=l.filterMap f
 |[],_=>rfl
 |x::l,h=>by
  have c:=gM λy hy=>h y<|B1 _ hy;have a:=h x B4;cases e:f x with
  |none=>rw[F2 e,F2<|a.trans e,c]
  |some b=>rw[E6 e,E6<|a.trans e,c]
theorem ix{α m:Type}(f g:α->Option m)(a:α)(v:m)(i:f a=none)(j:g a=some v)(d:∀x,x≠a->g x=f x):∀(l:List α),l.Nodup->a∈l ->
  (l.filterMap g).Perm (v::l.filterMap f)
 |[],_,h=>by simp at h
 |x::l,hn,h=>by
  let(h1,h2):=E7.mp hn
  by_cases e:x=a
  .subst e;rw[E6 j,F2 i];have:=gM λy hy=>d y λe=>h1 (e ▸ hy);rw[this]
  .have n:a∈l:=by
    rcases B3.mp h with z|z
    .show absurd z.symm e
    .show z
   have k:=ix f g a v i j d l h2 n;cases c:f x with
   |none =>
    rw[F2 c,F2 (by rw[d x e,c])];show k
   |some b =>
    rw[E6 c,E6 (by rw[d x e,c])];show(k.cons b).trans (List.Perm.swap _ _ _)
structure Lay(mask:Nat)(owner:Array<|Option Nat)(hs:List Int):Prop where
 size:owner.size=mask+1
 perm:((live mask owner).map (·.2)).Perm (List.range hs.length)
theorem tX{mask:Nat}{owner:Array _}(b:owner.size=mask+1){j:Nat}(a:j<=mask):emp owner j=(owner.getD j none).isNone:=by
 unfold emp;rw[CB,CB,C1 (by lia)];rfl
theorem Al(mask:Nat):Lay mask (replicate (mask+1) none) []:=by
 have e:∀j,(replicate (mask+1) (none:Option Nat)).getD j _=none:=λj=>by
  rw[CB,Array.getElem?_replicate]
  split<;>rfl
 show{by simp,?_}
 .have:live mask (replicate (mask+1) none)=[]:=by
   unfold live;rw[List.filterMap_eq_nil_iff];intro j _;rw[e];rfl
  rw[this];simp
theorem xo{mask:Nat}{owner:Array _}{d:List Int}(c:Lay mask owner d)(b:d.length<=mask):∃j,j<=mask/\emp owner j=true:=by
 by_cases h:∃j,j<=mask/\emp owner j=true
 .show h
 .exfalso
  have all:∀j,j<=mask->∃i,owner.getD j none=some i:=λj a=>by
   cases e:owner.getD j _ with
   |some i=>show⟨i,rfl⟩
   |none=>show(h {j,a,by rw[tX c.size a,e];rfl}).elim
  have g:(live mask owner).length=mask+1:=by
   have key:∀l:List Nat,(∀j∈l,j<=mask)->(l.filterMap λj=>(owner.getD j none).map (j,·)).length=l.length:=by
    intro l
    induction l with
    |nil=>intro _;rfl
    |cons x l f =>
     intro b;let(i,e):=all x<|b x (by simp);rw[E6 (by rw[e];rfl),CC,CC,f λj a=>b j (by simp[a])]
   unfold live;rw[key _ (λj a=>by have:=FW.mp a;lia),F4]
  have:=c.perm.length_eq;rw[A1,F4,g]at this
  lia
theorem qA{owner:Array _}{j k:Nat}{v:Option Nat}(a:j<owner.size):(owner.setIfInBounds j v).getD k none=if k=j then v else owner.getD k none:=by
 rw[CB,CB,Array.getElem?_setIfInBounds]
 by_cases e:j=k
 .subst e;simp[a]
 .rw[A4 e,A4 λz=>e z.symm]
theorem xp{mask:Nat}(c:Cyc mask){owner:Array _}{a:List Int}(b:Lay mask owner a)(m:a.length<=mask)(d:Int):
  ∃j,layClean.free mask owner (turns mask) (bits d % (mask+1)) (bits d)=some j/\Lay mask (owner.setIfInBounds j<|some a.length) (a++[d]):=by
 let(o,l,g):=xo b m;let(j,f,e,h):=Ak c _ d l g;have i:owner.getD j none=none:=by
  rw[tX b.size h]at e;show Option.isNone_iff_eq_none.mp e
 show{j,f,by simpa using b.size,?_}
 .have p:=ix (λk=>(owner.getD k none).map (k,·)) (λk=>((owner.setIfInBounds j<|some a.length).getD k none).map (k,·)) j (j,a.length) (by simp[i])
   (by change((owner.setIfInBounds j<|some a.length).getD j none).map (j,·)=_;rw[qA (by rw[b.size];lia),A6 rfl];rfl) (λx n=>by change((owner.setIfInBounds j<|some a.length).getD x none).map (x,·)=(owner.getD x none).map (x,·);rw[qA (by rw[b.size];lia),A4 n]) (List.range<|mask+1) nodup_range (FW.mpr (by lia))
  have p2:=p.map (·.2);rw[B0,E8,List.range_succ];show p2.trans<|(b.perm.cons _).trans (FL _ _).symm
theorem qB{mask:Nat}(c:Cyc mask)(hashes:Array Int)(n:hashes.size<=mask+1):∃owner,layClean mask hashes=some owner/\Lay mask owner hashes.toList:=by
 have key:∀(r hs:List Int)(owner:Array<|Option Nat),Lay mask owner hs->hs.length+r.length<=mask+1 ->
   ∃a,r.foldl (λj h=>do
    let(owner,k) <- j
    let d <- layClean.free mask owner (turns mask) (bits h % (mask+1)) (bits h)
    pure (owner.setIfInBounds d<|some k,k+1)) (some (owner,hs.length))=some (a,hs.length+r.length)/\Lay mask a (hs++r):=by
  intro r
  induction r with
  |nil=>intro hs owner b _;show{owner,rfl,by simpa using b}
  |cons h r p =>
   intro hs owner b o;rw[CC]at o;let(d,e,i):=xp c b (by lia) h;let(a,g,f):=p (hs++[h]) _ i (by rw[B0,E8];lia);show{a,?_,by rw[append_assoc]at f;show f};rw[foldl_cons];have m:(do
    let(owner,k) <- some (owner,hs.length)
    let d <- layClean.free mask owner (turns mask) (bits h % (mask+1)) (bits h)
    pure (owner.setIfInBounds d<|some k,k+1))=some (owner.setIfInBounds d<|some hs.length,hs.length+1):=by
    change(layClean.free mask owner (turns mask) (bits h % (mask+1))<|bits h).bind _=_;rw[e];rfl
   rw[m];rw[B0,E8]at g;rw[g,CC]
   congr 2
   lia
 let(a,e,b):=key hashes.toList [] _ (Al mask) (by simpa using n);show{a,?_,by simpa using b}
 unfold layClean;rw[<-Array.foldl_toList];have l:(0:Nat)=([]:List Int).length:=rfl;rw[l,e];rfl
theorem tY{mask finger moves:Nat}{led plain:Bool}{hashes:Array Int}(c:Cyc mask)(o:hashes.size<=mask+1):
  ∃(t':SetTable) (zs:List<|Nat×Nat),SetTable.laid mask finger moves led plain hashes=some (t',(zs.map (·.2)).toArray)/\t'.mask=mask/\t'.led=led/\t'.plain=plain /\
   Tb t' (zs.map (·.1))/\(zs.map (·.2)).Perm (List.range hashes.size):=by
 let(f,e,h):=qB c _ o;show{{mask:=mask,place:=((live mask _).map _).toArray,dummies:=#[],finger:=finger,led:=led,moves:=moves,plain:=plain},live mask f,?_,rfl,rfl,rfl,{rfl,rfl,?_,?_},?_}
 .unfold laid;rw[e];rfl
 .unfold Up live;rw[List.map_filterMap];have a:((List.range<|mask+1).filterMap λd=>((f.getD d none).map (d,·)).map (·.1))=(List.range<|mask+1).filter λd=>(f.getD d none).isSome:=by
   generalize List.range (mask+1)=l
   induction l with
   |nil=>rfl
   |cons x l g =>
    cases ex:f.getD x none with
    |none=>rw[F2 (by rw[ex];rfl),List.filter_cons_of_neg (by simp[ex])];show g
    |some i=>rw[E6 (b:=x) (by rw[ex];rfl),List.filter_cons_of_pos (by simp[ex]),g]
  rw[a];show Pairwise.sublist D1 List.pairwise_lt_range
 .intro d m;let(z,p,rfl):=A3.mp m;let(k,n,a):=List.mem_filterMap.mp p;cases ex:f.getD k none with
  |none=>rw[ex]at a;cases a
  |some i =>
   rw[ex]at a;have j:(k,i)=z:=Option.some.inj a;subst j;have:=FW.mp n;change k<=mask
   lia
 .have:=h.perm;show this
theorem jK{t:SetTable}{hashes:Array Int}{wanted:Nat}(c:Cyc<|sizeAbove wanted-1)(a:hashes.size<=sizeAbove wanted-1+1):
  ∃(t':SetTable) (zs:List<|Nat×Nat),t.relaid hashes wanted=some (t',(zs.map (·.2)).toArray)/\t'.mask=sizeAbove wanted-1/\t'.led=t.led/\t'.plain=t.plain /\
   Tb t' (zs.map (·.1))/\(zs.map (·.2)).Perm (List.range hashes.size):=tY c a
section
variable{prog:zi}{w:xr}{K:Type}[DecidableEq K]{knd:KeyKind prog w K}{A:xx}{E:zy->zn->Prop}{s:zn}
theorem kX(n:Nat){v:zy}(h:carriedByValue v=true):ofAClassStatement n v=pure false:=by
 cases v with
 |ref a=>simp[carriedByValue]at h
 |_=>cases n<;>rfl
theorem iy{ks:List K}{a:zv}{Q:Bool->zn->Prop}(c:IsTupleKey knd s.heap ks a)(e:Q false s):wpAny (model prog w) A (ofAClassStatement 8<|.ref a) Q E s:=by
 have f:=c.typeIs;let(o,j,n,h,_,g,hi):=c;unfold ofAClassStatement;show Wb<|wpAny_typeOf f (Wb<|Wp ?_);show Wb<|wpAny_seqItems h g (Wb ?_);rw[<-forIn_toList];show wpAny_forIn_list _ (λrest r s'=>r.1=none/\s'=s/\∀v∈rest,carriedByValue v=true) _ ?_ ?_ _ _ ⟨rfl,rfl,hi.byValue⟩
 .rintro v rest r s' ⟨d,rfl,b⟩;rw[kX _<|b v B4];show Wb<|Wp (Wp {rfl,rfl,λu i=>b u<|B1 _ i})
 .rintro⟨k,l⟩ s' ⟨d,rfl,_⟩;subst d;show Wp e
theorem xq(n:Nat){x:zy}(a:x.scannable=true):∃b,hashByValue n x=pure b:=⟨_,hashByValue_scannable n a⟩
theorem vB{ks:List K}{a:zv}{Q:Bool->zn->Prop}(g:IsTupleKey knd s.heap ks a)(q:∀k v,knd.is k v=true->v.scannable=true)(f:∀b,Q b s):wpAny (model prog w) A (hashByValue 8<|.ref a) Q E s:=by
 have i:=g.typeIs;let(o,d,n,m,_,j,hi):=g;have c:∀v∈d.toList,v.scannable=true:=by
  generalize d.toList=l at hi
  induction hi with
  |nil=>grind
  |cons h1 _ t =>
   grind
 show Wb<|wpAny_specialOf i F.slot_tuple_hash.lookup ?_;change wpAny _ _ _ _ _ s;show Wb<|wpAny_seqItems m j (Wb ?_);change wpAny _ _ (forIn d _ _) _ _ s;rw[<-forIn_toList];show wpAny_forIn_list _ (λrest r s'=>r.1=none/\s'=s/\∀v∈rest,v.scannable=true) _ ?_ ?_ _ _ ⟨rfl,rfl,c⟩
 .rintro v rest r s' ⟨h,rfl,c⟩;let(b,e):=xq 7<|c v B4;rw[e];show Wb<|Wp ?_;cases b with
  |true =>
   show Wp {rfl,rfl,λu p=>c u<|B1 _ p}
  |false =>
   show Wp<|Wp (f _)
 .rintro⟨x,y⟩ s' ⟨h,rfl,_⟩;subst h;show Wp<|f _
theorem Am{k:List K}{b:zv}(f:IsTupleKey knd s.heap k b)(stored:List _)(m:∀v∈stored,∃c a,v=.ref a/\IsTupleKey knd s.heap c a){Q:Bool->zn->Prop}(j:Q false s):
  wpAny (model prog w) A (searchCouldBeSeen (.ref b) stored) Q E s:=by
 show Wb<|wpAny_forIn_list _ (λrest r s'=>r.1=none/\s'=s/\∀v∈rest,∃c a,v=.ref a/\IsTupleKey knd s.heap c a) _ ?_ ?_ _ _ ⟨rfl,rfl,m⟩
 .rintro v rest r s' ⟨h,rfl,d⟩;let(c,a,rfl,g):=d v B4;have e:=λu n=>d u (B1 _ n)
  by_cases i:(b==a)=true
  .simp only[i,Bool.true_or,D9];show Wp ⟨rfl,rfl,e⟩
  .have o:(b==a)=false:=by simpa using i
   have l:carriedByValue (.ref b)=false:=rfl;simp only[o,l,Bool.false_and,Bool.or_false,C9,CO];show Wb<|wpAny_eqIsQuiet_tuple f (Wb<|wpAny_eqIsQuiet_tuple g ?_);show Wb<|iy f (Wb<|iy g ?_);show Wp ⟨rfl,rfl,e⟩
 .rintro⟨p,q⟩ s' ⟨h,rfl,_⟩;subst h;show Wp j
end
section
variable{prog:zi}{w:xr}{K:Type}[DecidableEq K](knd:KeyKind prog w K)
variable{knd}
variable{A:xx}{E:zy->zn->Prop}{s:zn}
theorem il{t:SetTable}{l:List Nat}(T:Tb t l):t.fill=l.length:=by
 unfold SetTable.fill;rw[T.pl,T.nd];simp
theorem im{t:SetTable}{l:List Nat}(T:Tb t l){n:Nat}(b:l.length=n)(a:n<=t.mask):t.fits n=true:=by
 unfold SetTable.fits;rw[il T,T.pl];simp[b,a]
theorem lY{mask:Nat}{a:Int}(b m:Nat):(nth mask (nth mask (st mask a) b) m).j=pos mask a (b+m):=by
 unfold pos;rw[jh]
end
theorem tZ:∀(n:Nat)(l:List Nat),(∀j,j<n->j∈l)->n<=l.length
 |0,_,_=>CI _
 |n+1,l,h=>by
  have a:=h n (by lia);have b:=tZ n (l.erase n) λj c=>(List.mem_erase_of_ne (by lia)).mpr (h j (by lia));rw[List.length_erase_of_mem a]at b;have:=List.length_pos_of_mem a
  lia
theorem lZ(n:Nat)(l:List Nat)(a:l.length<=n):∃j,j<=n/\j∉l:=by
 by_cases z:∃j,j<=n/\j∉l
 .show z
 .exfalso
  have:=tZ (n+1) l λj b=>by
   by_cases e:j∈l
   .show e
   .show(z ⟨j,by lia,e⟩).elim
  lia
section
variable{prog:zi}{w:xr}{K:Type}[DecidableEq K]{knd:KeyKind prog w K}{A:xx}{E:zy->zn->Prop}{s:zn}
theorem IsTupleKey.same{b h':qq}{ks:List K}{a d:zv}{o:Obj}{es ep t}(x:IsTupleKey knd b ks a)(i:b.get? d=some o)(g:o.data=.set es ep t)(j:SameBut d b h'):IsTupleKey knd h' ks a:=by
 let(o',k,n,e,f,c,hi):=x;have h:a≠d:=by
  rintro rfl;obtain rfl:o'=o:=Option.some.inj<|e.symm.trans i;rw[g]at c;show nomatch c
 show{o',k,n,(j.2 a h).trans e,f,c,hi}
theorem xt{t:SetTable}{l:List Nat}(T:Tb t l)(b:Bool):Tb {t with plain:=b} l:=⟨T.pl,T.nd,T.up,T.le⟩
theorem stored{a:zv}{o:Obj}{d:Array _}{b:Nat}{t:SetTable}(e:s.heap.get? a=some o)(c:o.data=.set d b t)(es':Array _)(t':SetTable):
  (s.heap.update a<|Obj.putSet es' t').get? a=some {o with data:=.set es' (b+1) t'}:=by
 have:=get?_update_self (Obj.putSet es' t') e (by rw[putSet_of es' t' c];rfl);rw[putSet_of es' t' c]at this;show this
theorem pq{n:Nat}(h:n<=64):n<=sizeLine:=by rw[sizeLine_eq];lia
end
section
variable{prog:zi}{w:xr}{K:Type}[DecidableEq K]{knd:KeyKind prog w K}{A:xx}{R:Result->zn->Prop}{I:zv}{fp wr:List zv}{G:Array GenState->Array GenState->Prop}{n:Nat}{P:Nat->zy->Prop}{St:Nat->zn->Prop}
theorem mf{a:List _}{s s':zn}{k:List K}{b:zv}(m:Moved a G s s')(d:b∉a)(c:IsTupleKey knd s.heap k b):IsTupleKey knd s'.heap k b:=by
 let(o,f,n,e,r):=c;show{o,f,n,m.heap b o d e,r}
end
end TB
namespace SRT
open PySem PySem.W PyProof.Rows
def run{α:Type}(f:Nat->Nat->Bool):KasT α->α
 |.ret a=>a
 |.ask i j k=>run f<|k (f i j)
theorem fK{α b:Type}(f:Nat->Nat->Bool)(g:α->KasT b):∀t:KasT α,run f (t.bind g)=run f (g<|run f t)
 |.ret a=>rfl
 |.ask i j k=>fK f g<|k _
def path{α:Type}(f:Nat->Nat->Bool)(n:Nat):KasT α->Prop
 |.ret _=>True
 |.ask i j k=>i<n/\j<n/\path f n (k<|f i j)
theorem eB{α b:Type}{f:Nat->Nat->Bool}{n:Nat}{g:α->KasT b}:∀{t:KasT α},path f n t->path f n (g<|run f t)->path f n (t.bind g)
 |.ret a,_,h=>h
 |.ask i j k,h,h'=>⟨h.1,h.2.1,eB h.2.2 h'⟩
theorem pz{α:Type}{f:Nat->Nat->Bool}{n:Nat}{b:Nat->Nat->(Bool->zn->Prop)->zn->Prop}{s:zn}(c:∀i j C,i<n->j<n->C (f i j) s->b i j C s)(Q:α->zn->Prop):∀t:KasT α,path f n t->Q (run f t) s->t.kasWp b Q s
 |.ret a,_,h=>h
 |.ask i j k,p,h=>c i j _ p.1 p.2.1<|pz c Q _ p.2.2 h
structure Ord(f:Nat->Nat->Bool)(n:Nat):Prop where
 irr:∀i,i<n->f i i=false
 tr:∀i j k,i<n->j<n->k<n->f i j=true->f j k=true->f i k=true
 tot:∀i j,i<n->j<n->i≠j->f i j=true\/f j i=true
section
variable{f:Nat->Nat->Bool}{n:Nat}
structure Row(n:Nat)(p:Array Nat):Prop where
 perm:p.toList.Perm<|List.range n
theorem Row.size{p:Array Nat}(r:Row n p):p.size=n:=by have:=r.perm.length_eq;simpa using this
theorem Row.lt{p:Array Nat}(r:Row n p){i:Nat}(a:i<n):p.getD i 0<n:=by
 have hs:=r.size;have:p.getD i 0∈p.toList:=by
  rw[CB,C1 (by lia)];show Array.getElem_mem_toList (by lia)
 show FW.mp<|r.perm.mem_iff.mp this
theorem Row.ne{p:Array Nat}(r:Row n p){i j:Nat}(c:i<n)(d:j<n)(b:i≠j):p.getD i 0≠p.getD j 0:=by
 have hs:=r.size;rw[CB,CB,C1 (by lia),C1 (by lia)];intro e;have a:p.toList[i]'(by simpa using (by lia))=p.toList[j]'(by simpa using (by lia)):=by simpa using e
 show b<|(getElem_inj<|r.perm.nodup_iff.mpr nodup_range).mp a
theorem Row.rev{p:Array Nat}(r:Row n p)(i j:Nat):Row n (kas_rev p i j):={(Array.perm_iff_toList_perm.mp<|mirror_perm p i j _).trans r.perm}
theorem Row.bub{p:Array Nat}(r:Row n p)(i j:Nat):Row n (bubble p i j):={(Array.perm_iff_toList_perm.mp<|bubble_perm p i j).trans r.perm}
def Up(f:Nat->Nat->Bool)(p:Array Nat)(m:Nat):Prop:=∀i j,i<j->j<m->f (p.getD i 0) (p.getD j 0)=true
theorem An(O:Ord f n){p:Array Nat}(r:Row n p){m:Nat}(a:m<n)(j:1<=m)(u:Up f p m)(g:f (p.getD m 0) (p.getD (m-1) 0)=false):Up f p (m+1):=by
 have c:f (p.getD (m-1) 0) (p.getD m 0)=true:=by
  rcases O.tot _ _ (r.lt a) (r.lt (i:=m-1) (by lia)) (r.ne a (by lia) (by lia))with z|z
  .rw[g]at z;cases z
  .show z
 intro i b h k
 by_cases e:b=m
 .subst e
  by_cases d:i=b-1
  .rw[d];show c
  .show O.tr _ _ _ (r.lt (by lia)) (r.lt (by lia)) (r.lt a) (u i _ (by lia) (by lia)) c
 .show u i b h (by lia)
theorem pA(O:Ord f n){p:Array Nat}(r:Row n p):∀(a m:Nat),1<=m->m+a<=n->Up f p m ->
  m<=run f (kas_asc p a m)/\run f (kas_asc p a m)<=m+a/\Up f p (run f<|kas_asc p a m)/\(run f (kas_asc p a m)<m+a->f (p.getD (run f<|kas_asc p a m) 0) (p.getD (run f (kas_asc p a m)-1) 0)=true)
 |0,m,_,_,u=>{A8 _,A8 _,u,λh=>absurd h (by simp[kas_asc,run])}
 |a+1,m,h1,hm,u=>by
  cases e:f (p.getD m 0) _ with
  |true =>
   have b:run f (kas_asc p (a+1) m)=m:=by
    change run f (if f (p.getD m 0) (p.getD (m-1) 0)=true then KasT.ret m else kas_asc p a (m+1))=m
    rw[e,A6 rfl];rfl
   rw[b];show{A8 _,by lia,u,λ_=>e}
  |false =>
   have b:run f (kas_asc p (a+1) m)=run f (kas_asc p a<|m+1):=by
    change run f (if f (p.getD m 0) (p.getD (m-1) 0)=true then KasT.ret m else kas_asc p a (m+1))=_
    rw[e,A4 (by simp)]
   rw[b];let(g,i,c,d):=pA O r a (m+1) (by lia) (by lia)<|An O r (by lia) h1 u e;show{by lia,by lia,c,λh=>d (by lia)}
def Dh(f:Nat->Nat->Bool)(p:Array Nat)(m:Nat):Prop:=∀i j,i<j->j<m->f (p.getD j 0) (p.getD i 0)=true
theorem pB(O:Ord f n){p:Array Nat}(r:Row n p):∀(a m:Nat),1<=m->m+a<=n->Dh f p m ->
  ∃b,run f (kas_desc a p m 0)=(p,b,0)/\m<=b/\b<=m+a/\Dh f p b
 |0,m,_,_,u=>⟨m,rfl,A8 _,A8 _,u⟩
 |a+1,m,h1,hm,u=>by
  cases e:f _ _ with
  |true =>
   have g:run f (kas_desc (a+1) p m 0)=run f (kas_desc a p (m+1) 0):=by
    change run f (if f (p.getD m 0) (p.getD (m-1) 0)=true then (if 0>0 then _ else kas_desc a p (m+1) 0)else _)=_
    rw[e,A6 rfl,A4 (by lia)]
   rw[g];let(b,j,q,s,k):=pB O r a (m+1) (by lia) (by lia) (by
    intro i h o t
    by_cases l:h=m
    .subst l
     by_cases c:i=h-1
     .rw[c];show e
     .show O.tr _ _ _ (r.lt (by lia)) (r.lt (by lia)) (r.lt (by lia)) e (u i _ (by lia) (by lia))
    .show u i h o (by lia))
   show{b,j,by lia,by lia,k}
  |false =>
   have c:f (p.getD (m-1) 0) (p.getD m 0)=true:=by
    rcases O.tot _ _ (r.lt (i:=m) (by lia)) (r.lt (i:=m-1) (by lia)) (r.ne (by lia) (by lia) (by lia))with z|z
    .rw[e]at z;cases z
    .show z
   have g:run f (kas_desc (a+1) p m 0)=(p,m,0):=by
    change run f (if f (p.getD m 0) (p.getD (m-1) 0)=true then _ else KasT.ask (p.getD (m-1) 0) (p.getD m 0) λd=>if d=true then .ret (p,m,0)else kas_desc a p (m+1) (0+1))=_
    rw[e,A4 (by simp)];change run f (if f (p.getD (m-1) 0) (p.getD m 0)=true then KasT.ret (p,m,0)else kas_desc a p (m+1) (0+1))=_
    rw[c,A6 rfl];rfl
   show{m,g,A8 _,by lia,u}
theorem ub{p:Array Nat}{m:Nat}(b:m<=p.size)(k:Nat)(a:k<m):(kas_rev p 0 m).getD k 0=p.getD (m-1-k) 0:=by
 unfold kas_rev;rw[CB,getElem?_mirror_all b k,A6 ⟨by lia,a⟩,CB]
 congr 2
 lia
theorem Di{p:Array Nat}{m:Nat}(a:m<=p.size)(d:Dh f p m):Up f (kas_rev p 0 m) m:=by
 intro i c e b;rw[ub a i (by lia),ub a c b];show d _ _ (by lia) (by lia)
theorem qC(O:Ord f n){p:Array Nat}(r:Row n p)(h2:1<=n):∃m g,run f (kas_count n p)=(m,g)/\1<=m/\m<=n/\Row n g/\Up f g m:=by
 let(d,l,b,h):=pA O r (n-1) 1 (by lia) (by lia) (by intro i k u v;lia);have t:run f (kas_count n p)=run f (if (run f (kas_asc p (n-1) 1)==n)=true then KasT.ret (run f<|kas_asc p (n-1) 1,p)else if run f (kas_asc p (n-1) 1)>1 then .ask (p.getD 0 0) (p.getD (run f (kas_asc p (n-1) 1)-1) 0) λc=>if c=true then .ret (run f<|kas_asc p (n-1) 1,p)else kas_descPart (run f<|kas_asc p (n-1) 1) n (kas_rev p 0<|run f (kas_asc p (n-1) 1))
  else kas_descPart (run f<|kas_asc p (n-1) 1) n p):=by
  unfold kas_count;rw[fK]
 rw[t];generalize run f (kas_asc p (n-1) 1)=m at d l b h|-
 by_cases e:m=n
 .rw[A6 (by simp[e])];show{m,p,rfl,d,by lia,r,b}
 .rw[A4 (by simpa using e)]
  by_cases j:m>1
  .rw[A6 j];show{m,p,?_,d,by lia,r,b};change run f (if f (p.getD 0 0) (p.getD (m-1) 0)=true then KasT.ret (m,p)else _)=_
   rw[b 0 (m-1) (by lia) (by lia),A6 rfl];rfl
  .rw[A4 j];have s:m=1:=by lia
   subst s;unfold kas_descPart;let(a,o,w,x,b4):=pB O r (n-(1+1)) (1+1) (by lia) (by lia) (by
    intro i k u v;have:i=0/\k=1:=by lia
    rw[this.1,this.2];show h (by lia))
   rw[fK,o];dsimp only;rw[A4 (by lia)];unfold kas_tail3;have hs:=r.size;let(y,z,q,A):=pA O (r.rev 0 a) (n-a) a (by lia) (by lia)<|Di (f:=f) (by lia:a<=p.size) b4;rw[fK];show{_,_,rfl,by lia,by lia,r.rev 0 a,q}
theorem jk(O:Ord f n){p:Array Nat}(r:Row n p){k:Nat}(b:k<n)(u:Up f p k):∀(a l r':Nat),r'-l<=a->l<=r'->r'<=k ->
  (∀i,i<l->f (p.getD i 0) (p.getD k 0)=true)->(∀i,r'<=i->i<k->f (p.getD k 0) (p.getD i 0)=true) ->
  run f (kas_place p k a l r')<=k/\(∀i,i<run f (kas_place p k a l r')->f (p.getD i 0) (p.getD k 0)=true)/\(∀i,run f (kas_place p k a l r')<=i->i<k->f (p.getD k 0) (p.getD i 0)=true)
 |0,l,r',h1,h2,h3,h4,h5=>by
  have:l=r':=by lia
  subst this;show⟨h3,h4,h5⟩
 |a+1,l,r',h1,h2,h3,h4,h5=>by
  unfold kas_place
  by_cases e:l>=r'
  .rw[A6 e];have:l=r':=by lia
   subst this;show⟨h3,h4,h5⟩
  .rw[A4 e];cases c:f (p.getD k 0) _ with
   |true =>
    have g:run f (KasT.ask (p.getD k 0) (p.getD ((l+r') / 2) 0) λc=>if c=true then kas_place p k a l ((l+r') / 2)else kas_place p k a ((l+r') / 2+1) r')=run f (kas_place p k a l<|(l+r') / 2):=by
     change run f (if f (p.getD k 0) (p.getD ((l+r') / 2) 0)=true then _ else _)=_
     rw[c,A6 rfl]
    rw[g];show jk O r b u a l _ (by lia) (by lia) (by lia) h4 λi hi j=>?_
    by_cases d:i=(l+r') / 2
    .rw[d];show c
    .show O.tr _ _ _ (r.lt b) (r.lt (i:=(l+r') / 2) (by lia)) (r.lt (by lia)) c<|u _ _ (by lia) j
   |false =>
    have g:run f (KasT.ask (p.getD k 0) (p.getD ((l+r') / 2) 0) λc=>if c=true then kas_place p k a l ((l+r') / 2)else kas_place p k a ((l+r') / 2+1) r')=run f (kas_place p k a ((l+r') / 2+1) r'):=by
     change run f (if f (p.getD k 0) (p.getD ((l+r') / 2) 0)=true then _ else _)=_
     rw[c,A4 (by simp)]
    rw[g];have h:f (p.getD ((l+r') / 2) 0) (p.getD k 0)=true:=by
     rcases O.tot _ _ (r.lt (i:=k) b) (r.lt (i:=(l+r') / 2) (by lia)) (r.ne b (by lia) (by lia))with z|z
     .rw[c]at z;cases z
     .show z
    show jk O r b u a _ r' (by lia) (by lia) h3 (λi hi=>?_) h5
    by_cases d:i=(l+r') / 2
    .rw[d];show h
    .show O.tr _ _ _ (r.lt (by lia)) (r.lt (i:=(l+r') / 2) (by lia)) (r.lt b) (u i _ (by lia) (by lia)) h
theorem lm{p:Array Nat}{k l:Nat}(a:k<p.size)(b:l<=k)(i:Nat):(bubble p k<|k-l).getD i 0=if i=l then p.getD k 0 else if l<i/\i<=k then p.getD (i-1) 0 else p.getD i 0:=by
 simp only[CB];rw[getElem?_bubble a _ (by lia) i];have e:k-(k-l)=l:=by lia
 rw[e]
 by_cases h1:i=l
 .rw[A6 h1,A6 h1]
 .rw[A4 h1,A4 h1]
  by_cases h2:l<i/\i<=k
  .rw[A6 h2,A6 h2]
  .rw[A4 h2,A4 h2]
theorem xu(O:Ord f n):∀(a:Nat)(p:Array Nat)(k:Nat),Row n p->k+a=n->Up f p k->Row n (run f<|kas_bin a p k)/\Up f (run f<|kas_bin a p k) n
 |0,p,k,r,hk,u=>by
  have:k=n:=by lia
  subst this;show⟨r,u⟩
 |a+1,p,k,r,hk,u=>by
  let(c,d,e):=jk O r (by lia) u k 0 k (by lia) (by lia) (A8 _) (λi hi=>by lia) (λi h1 h2=>by lia);have o:run f (kas_bin (a+1) p k)=run f (kas_bin a (bubble p k<|k-run f (kas_place p k k 0 k))<|k+1):=by
   change run f ((kas_place p k k 0 k).bind λl=>kas_bin a (bubble p k<|k-l)<|k+1)=_;rw[fK]
  rw[o];generalize run f (kas_place p k k 0 k)=l at c d e|-;have hs:=r.size;show xu O a _ (k+1) (r.bub _ _) (by lia) λi b q t=>?_;rw[lm (by lia) c i,lm (by lia) c b]
  by_cases g:i=l
  .rw[A6 g,A4 (by lia),A6 ⟨by lia,by lia⟩];show e (b-1) (by lia) (by lia)
  .rw[A4 g]
   by_cases h:b=l
   .rw[A6 h,A4 (by lia)];show d i (by lia)
   .rw[A4 h]
    by_cases j:l<i/\i<=k
    .rw[A6 j,A6 ⟨by lia,by lia⟩];show u _ _ (by lia) (by lia)
    .rw[A4 j]
     by_cases m:l<b/\b<=k
     .rw[A6 m]
      by_cases s:i=b-1
      .lia
      .show u i (b-1) (by lia) (by lia)
     .rw[A4 m];show u i b q (by lia)
theorem mh{p:Array Nat}(r:Row n p):∀(a m:Nat),1<=m->m+a<=n->path f n (kas_asc p a m)
 |0,m,_,_=>trivial
 |a+1,m,h1,hm=>by
  show{r.lt (by lia),r.lt (by lia),?_};change path f n (if f _ _=true then KasT.ret m else kas_asc p _ _)
  split
  .show trivial
  .show mh r _ _ (by lia) (by lia)
theorem nO(O:Ord f n){p:Array Nat}(r:Row n p):∀(a m:Nat),1<=m->m+a<=n->path f n (kas_desc a p m 0)
 |0,m,_,_=>trivial
 |a+1,m,h1,hm=>by
  show{r.lt (by lia),r.lt (by lia),?_};change path f n (if f _ _=true then (if 0>0 then _ else kas_desc _ p _ 0)else KasT.ask _ _ _)
  cases e:f _ _ with
  |true =>
   show nO O r _ _ (by lia) (by lia)
  |false =>
   have b:f (p.getD (m-1) 0) (p.getD m 0)=true:=by
    rcases O.tot _ _ (r.lt (i:=m) (by lia)) (r.lt (i:=m-1) (by lia)) (r.ne (by lia) (by lia) (by lia))with z|z
    .rw[e]at z;cases z
    .show z
   show{r.lt (by lia),r.lt (by lia),?_};dsimp only;rw[b,A6 rfl];show trivial
theorem su(O:Ord f n){p:Array Nat}(r:Row n p)(h2:1<=n):path f n (kas_count n p):=by
 let(d,g,a,b):=pA O r (n-1) 1 (by lia) (by lia) (by intro i c l o;lia);unfold kas_count;show eB (mh r _ _ (by lia) (by lia)) ?_;generalize run f _=m at d g a b|-
 by_cases e:m=n
 .rw[A6 (by simp[e])];show trivial
 .rw[A4 (by simpa using e)]
  by_cases j:m>1
  .rw[A6 j];show{r.lt (by lia),r.lt (by lia),?_};dsimp only;rw[a 0 (m-1) (by lia) (by lia),A6 rfl];show trivial
  .have k:m=1:=by lia
   subst k;show eB (nO O r _ _ (by lia) (by lia)) ?_;let(q,h,s,t,b4):=pB O r (n-(1+1)) (1+1) (by lia) (by lia) (by
    intro i c l o;have:i=0/\c=1:=by lia
    rw[this.1,this.2];show b (by lia))
   rw[h];dsimp only;show eB (mh (r.rev 0 q) _ _ (by lia) (by lia)) trivial
theorem iF{p:Array Nat}(r:Row n p){k:Nat}(b:k<n):∀(c l a:Nat),a<=k->path f n (kas_place p k c l a)
 |0,l,a,_=>trivial
 |c+1,l,a,h=>by
  unfold kas_place
  by_cases e:l>=a
  .rw[A6 e];show trivial
  .rw[A4 e];show{r.lt b,r.lt (by lia),?_};dsimp only
   split
   .show iF r b _ _ _ (by lia)
   .show iF r b _ _ _ h
theorem qD(O:Ord f n):∀(b:Nat)(p:Array Nat)(k:Nat),Row n p->k+b=n->Up f p k->path f n (kas_bin b p k)
 |0,p,k,r,hk,u=>trivial
 |b+1,p,k,r,hk,u=>by
  have o:k<n:=by lia
  change path f n _;show eB (iF r o _ _ _<|A8 _) ?_;let(c,d,e):=jk O r o u k 0 k (by lia) (by lia) (A8 _) (λi hi=>by lia) (λi h1 h2=>by lia);generalize run f (kas_place p k k 0 k)=l at c d e|-;have hs:=r.size;show qD O b _ (k+1) (r.bub _ _) (by lia) λi a q t=>?_;rw[lm (by lia) c i,lm (by lia) c a]
  by_cases g:i=l
  .rw[A6 g,A4 (by lia),A6 ⟨by lia,by lia⟩];show e (a-1) (by lia) (by lia)
  .rw[A4 g]
   by_cases h:a=l
   .rw[A6 h,A4 (by lia)];show d i (by lia)
   .rw[A4 h]
    by_cases j:l<i/\i<=k
    .rw[A6 j,A6 ⟨by lia,by lia⟩];show u _ _ (by lia) (by lia)
    .rw[A4 j]
     by_cases m:l<a/\a<=k
     .rw[A6 m]
      by_cases s:i=a-1
      .lia
      .show u i (a-1) (by lia) (by lia)
     .rw[A4 m];show u i a q (by lia)
theorem nP(O:Ord f n)(a:1<=n):path f n (kas_sort n):=by
 have c:Row n (toArray<|List.range n):=⟨by simp⟩;let(m,d,e,h1,h2,r,u):=qC O c a;show eB (su O c a) ?_;rw[e]
 by_cases b:m<n
 .rw[A6 b];have:max m 1=m:=by lia
  rw[this];show qD O _ d m r (by lia) u
 .rw[A4 b];show trivial
theorem uc(O:Ord f n)(b:1<=n):Row n (run f<|kas_sort n)/\Up f (run f<|kas_sort n) n:=by
 have d:Row n (toArray<|List.range n):=⟨by simp⟩;let(m,c,e,h1,h2,r,u):=qC O d b;unfold kas_sort;rw[fK,e]
 by_cases a:m<n
 .rw[A6 a];have:max m 1=m:=by lia
  rw[this];show xu O _ c m r (by lia) u
 .rw[A4 a];have:m=n:=by lia
  subst this;show⟨r,u⟩
end
section
variable{prog:zi}{w:xr}{A:xx}{E:zy->zn->Prop}{s:zn}
theorem Ao{vs:List _}(h:vs.length<2):((vs.toArray.zip vs.toArray).map (·.2)).toList=(toArray<|(toArray<|List.range vs.length).toList.map λi=>vs.getD i Value.none).toList:=by
 cases vs with
 |nil=>simp
 |cons v r =>
  cases r with
  |nil=>simp
  |cons u r=>show absurd h (by simp)
theorem pC{f:Nat->Nat->Bool}{a:zv}{vs:List zy}{n:Nat}{κ:SortKind}{P:PySem.Fin->zn->Prop}(O:Ord f vs.length)(h:s.heap.get? a=some (seqObj "list" vs.toArray n))(H:vs.length<64)(N:∀s':zn,(∀b o,b≠a->s.heap.get? b=some o->s'.heap.get? b=some o)->∀Q:SortKind->zn->Prop,2<=vs.length->Q κ s'->wpAny (model prog w) A (keyKind' vs.toArray) Q (λ_ _=>False) s')(R:∀s':zn,(∀b o,b≠a->s.heap.get? b=some o->s'.heap.get? b=some o)->∀(i j:Nat) (C:Bool->zn->Prop),i<vs.length->j<vs.length->C (f i j) s'->wpAny (model prog w) A (keyLt' κ (vs.getD i Value.none)<|vs.getD j Value.none) C (λ_ _=>False) s')(m:∀p:Array Nat,Row vs.length p->Up f p vs.length->P (.done<|.ret .none) {s with heap:=sortedHeap s.heap a vs (toArray<|p.toList.map λi=>vs.getD i Value.none)}):
  wpAny (model prog w) A (Builtin.«list.sort» {[.ref a],[]}) P E s:=by
 have W:a<s.heap.objs.size:=B5 h;obtain⟨d,r⟩:∃d,(s.heap.update a<|Obj.mapSeq λ_=>(#[]:Array zy)).get? a=some (seqObj "list" #[] d):={_,get?_update_seq h λ_=>#[]};rw[list_sort_plain];show Wb<|listItems_at h rfl (Wb<|listUpdate_at h rfl ?_ (by rw[B2,sizeLine_eq];lia) (CI _));show Wb<|seqEpoch_at r rfl ?_;show Wb<|wpAny_newTuple (Wb<|wpAny_newList ?_ (CI _)) (by change vs.length<=_;rw[sizeLine_eq];lia);show wpAny_holding ?_;have k:(((s.heap.update a<|Obj.mapSeq λ_=>(#[]:Array zy)).push (seqObj "tuple" vs.toArray 0)).push (seqObj "list" #[] 0)).get? a=some (seqObj "list" #[] d):=A0 _<|A0 _ r;have u:∀b o,b≠a->s.heap.get? b=some o->(((s.heap.update a<|Obj.mapSeq λ_=>(#[]:Array zy)).push (seqObj "tuple" vs.toArray 0)).push (seqObj "list" #[] 0)).get? b=some o:=λb o K e =>
  A0 _ (A0 _<|((CA s.heap a<|Obj.mapSeq λ_=>(#[]:Array zy)).2 b K).trans e)
 change wpAny (model prog w) A _ P E _;dsimp only
 by_cases c:vs.toArray.size<2
 .rw[A6 c,A6 c];show Wb<|Wp ?_;rw[StateT.run_pure];show Wb<|Wp ?_;dsimp only;have g:vs.length<2:=by simpa using c
  have t:Row vs.length (toArray<|List.range vs.length):=⟨by simp⟩;have D:(arrOf<|SortSt.mk' general' (vs.toArray.zip vs.toArray) #[] 7 none).map (·.2)=toArray ((toArray<|List.range vs.length).toList.map λi=>vs.getD i Value.none):=by
   change(vs.toArray.zip vs.toArray).map (·.2)=_;apply toList_inj.mp;show Ao g
  show Wb<|seqEpoch_at k rfl ?_;rw[D];show Wb<|listUpdate_at k rfl ?_ (CI _) (by rw[B2,A1,B6,t.size,sizeLine_eq];lia);change wpAny _ _ (if (d != d)=true then _ else _) _ _ _
  simp only[G2,C9,CO];show Wp<|m _ t (λi j X q=>by lia)
 .have g:2<=vs.length:=by rw[B2]at c;lia
  rw[A4 c,A4 c];show Wb<|wpAny_mono (N {s with heap:=((s.heap.update a<|Obj.mapSeq λ_=>(#[]:Array zy)).push (seqObj "tuple" vs.toArray 0)).push (seqObj "list" #[] 0)} u (λU s'=>U=κ/\s'={s with heap:=((s.heap.update a<|Obj.mapSeq λ_=>(#[]:Array zy)).push (seqObj "tuple" vs.toArray 0)).push (seqObj "list" #[] 0)}) g ⟨rfl,rfl⟩) (λZ Y L=>?_) λ_ _ x=>x.elim
  let(F,es):=L;subst F es;let(S,T):=uc O (by lia:1<=vs.length);show Wb<|wpAny_mono (kat_run (Q:=λl s'=>∃p:Array Nat,p.size=vs.length/\arrOf l=p.map (kas_item<|vs.toArray.zip vs.toArray)/\failedOf l=none/\p=run f (kas_sort vs.length)/\s'={s with heap:=((s.heap.update a<|Obj.mapSeq λ_=>(#[]:Array zy)).push (seqObj "tuple" vs.toArray 0)).push (seqObj "list" #[] 0)})
   rfl g H (λV l s' v y z B=>⟨V,v,y,z,B⟩) (pz (n:=vs.length) (λi j C hi q I=>R _ u i j C hi q I) _ _ (nP O (by lia)) ⟨rfl,rfl⟩)) ?_ λ_ _ e=>e
  rintro⟨⟨⟩,l⟩ s' ⟨p,hp,J,M,G,es⟩;subst es;dsimp only;show Wb<|seqEpoch_at k rfl ?_;rw[kat_snds (ks:=vs) rfl J];show Wb<|listUpdate_at k rfl ?_ (CI _) (by rw[B2,A1,B6,hp,sizeLine_eq];lia);rw[M];simp only[G2,C9,CO];rw[G];show Wp<|m _ S T
theorem qE{l:zv}{vs:List zy}{Q:List zy->zn->Prop}(e:IsTup s.heap l vs.toArray)(b:Q vs {s with heap:=(s.heap.push<|seqObj "list" #[] 0).update s.heap.objs.size (Obj.mapSeq (· ++ vs.toArray))})(hsz:vs.length<=sizeLine):
  wpAny (model prog w) A (collect<|.ref l) Q E s:=by
 let(o,f,c,n,d):=id e;unfold collect;show Wb<|wpAny_runValue (codeAny_builtin entry_proto_collect' ?_);change wpAny _ _ _ _ _ s;show Wb<|wpAny_newList (Wp {Code.quiet_builtin _ (by decide +kernel),codeAny_builtin entry_list_iadd' ?_});change wpAny _ _ (Builtin.List.listExtendWith (.ref s.heap.objs.size) (.ref l)<|.ref s.heap.objs.size) _ _ _;unfold Builtin.List.listExtendWith;have a:(s.heap.push<|seqObj "list" #[] 0).get? l=some o:=A0 _ f;show Wb<|wpAny_typeOf (T:="tuple") ⟨o,a,c⟩ ?_;have g:(Value.type "tuple"==Value.type "tuple")=true:=by rfl
 rw[A6 (by rw[g];simp)];show Wb<|listItems_at a d (Wb<|listItems_at (xs:=#[]) (n:=0) (A5 _ rfl) rfl ?_);rw[A4 (by simp)];show Wb<|listUpdate_at (xs:=#[]) (n:=0) (A5 _ rfl) rfl (Wp ?_) (CI _) (by change(#[]++vs.toArray).size<=sizeLine+1;simp only[Array.size_append,B2,F9];lia);change wpAny (model prog w) A _ Q E _;show Wb<|wpAny_load (get?_update_seq (A5 _ rfl) _) ?_;change wpAny _ _ (pure ((#[]:Array zy)++vs.toArray).toList) Q E _;rw[show((#[]:Array zy)++vs.toArray).toList=vs by simp];show Wp b
theorem qF{l:zv}{vs:List _}{Q:List _->zn->Prop}(a:s.heap.IsList l vs.toArray\/IsTup s.heap l vs.toArray)(b:Q vs {s with heap:=(s.heap.push<|seqObj "list" #[] 0).update s.heap.objs.size (Obj.mapSeq (· ++ vs.toArray))})(hsz:vs.length<=sizeLine):
  wpAny (model prog w) A (collect<|.ref l) Q E s:=by
 rcases a with a|a
 .show collect_list a b hsz
 .show qE a b hsz
theorem qG{f:Nat->Nat->Bool}{vs:List zy}{κ:SortKind}{Q:zy->zn->Prop}(O:Ord f vs.length)(u:vs.length<64)(z:∀(a:xx) (s':zn),a.units<=A.units+1->(∀b o,s.heap.get? b=some o->s'.heap.get? b=some o)->∀Q:SortKind->zn->Prop,2<=vs.length->Q κ s'->wpAny (model prog w) a (keyKind' vs.toArray) Q (λ_ _=>False) s')(B:∀(a:xx) (s':zn),a.units<=A.units+1->(∀b o,s.heap.get? b=some o->s'.heap.get? b=some o)->∀(i j:Nat) (C:Bool->zn->Prop),i<vs.length->j<vs.length->C (f i j) s'->wpAny (model prog w) a (keyLt' κ (vs.getD i Value.none)<|vs.getD j Value.none) C (λ_ _=>False) s')(t:∀(p:Array Nat) (h':qq),Row vs.length p->Up f p vs.length->(∀b o,s.heap.get? b=some o->h'.get? b=some o)->(∃k,h'.get? s.heap.objs.size=some (seqObj "list" (toArray<|p.toList.map λi=>vs.getD i Value.none) k))->Q (.ref s.heap.objs.size) {s with heap:=h'}):
  wpAny (model prog w) A (do
   let l <- newList vs
   let _ <- holding [l] (call (.builtin "list.sort") [l] [])
   ret l) (λr s'=>∃v,r=.done (.ret v)/\Q v s') E s:=by
 show Wb<|wpAny_newList ?_ (by rw[sizeLine_eq];lia);have d:(s.heap.push<|seqObj "list" vs.toArray 0).get? s.heap.objs.size=some (seqObj "list" vs.toArray 0):=A5 _ rfl;have h:∀b o,s.heap.get? b=some o->(s.heap.push<|seqObj "list" vs.toArray 0).get? b=some o:=λb o q=>A0 _ q;have c:∀b o,s.heap.get? b=some o->b≠s.heap.objs.size:=λb o q=>C2<|B5 q;change wpAny _ _ _ _ _ _;show Wb<|wpAny_holding (wpAny_call_entry slot_list_sort ⟨_,d,rfl⟩ entry_list_sort (pC (κ:=κ) O d u ?_ ?_ λp G H=>{_,rfl,?_})<|args_list_sort _)
 .intro s' g n h2 F;show z _ s' (by simp[Around.in1_units]) (λb o e=>g b o (c b o e)<|h b o e) n h2 F
 .intro s' g i j C hi y x;show B _ s' (by simp[Around.in1_units]) (λb o e=>g b o (c b o e)<|h b o e) i j C hi y x
 .show Wp {_,rfl,t p _ G H (λb o e=>?_) ?_}
  .unfold sortedHeap;rw[get?_update_ne _ _ _ _<|c b o e];show A0 _<|A0 _ ?_;rw[get?_update_ne _ _ _ _<|c b o e];show h b o e
  .unfold sortedHeap;obtain⟨m,D⟩:∃m,((s.heap.push<|seqObj "list" vs.toArray 0).update s.heap.objs.size (Obj.mapSeq λ_=>(#[]:Array zy))).get? s.heap.objs.size=some (seqObj "list" #[] m):={_,get?_update_seq d λ_=>#[]};show{_,get?_update_seq (A0 _<|A0 _ D) _}
theorem Ap{l:zv}{vs:List _}{Q:List _->zn->Prop}(c:s.heap.IsList l vs.toArray\/IsTup s.heap l vs.toArray)(d:vs.length<=sizeLine)(a:∀(h1:qq),(∀b o,s.heap.get? b=some o->h1.get? b=some o)->s.heap.objs.size<=h1.objs.size->Q vs {s with heap:=h1}):wpAny (model prog w) A (collect<|.ref l) Q E s :=
 qF c (a _ (λb o q=>by rw[get?_update_ne _ _ _ _<|C2 (B5 q)];show A0 _ q) (by rw[size_update,size_push'];show le_succ _)) d
end
end SRT
namespace L2
open PySem PySem.Spec PyProof.Rows
section
variable{X:Cx}{tg:Expr}
theorem ud:∀{bs:List Bool}{us:List zy},aB (bs.map V.bl) us->us=bs.map Value.bool
 |[],_,.nil=>rfl
 |b::bs,_,.cons r t=>by
  rw[r,ud t];rfl
theorem jl(t:X.calm=true):cq X (.builtin "all") (λxs H Q=>∃a,∃bs:List Bool,xs=[.ref a]/\SqL X.K H a (bs.map V.bl)/\Q (.bl<|bs.all id) H):=by
 intro pins s σ H xs us Q I r h;let(a,bs,rfl,z,q):=h;let(u,rfl,B):=cD r;cases B;let(its,C,pl,E):=I.list z;have e:=ud C;subst e;show call_all_walk<|wpAny_pyIter_list pl.isList ?_;have y:a<s.heap.objs.size:=by let(o,e,_):=pl.isList;show B5 e
 show{s.heap.objs.size,_,_,_,_,_,λi=>bs.getD i false,rfl,Walks.list (by simp[I.ok.hd t]) _ a (C2 y) _,{{_,A5 _ rfl,rfl,rfl},pl.isList.push _},?_,?_}
 .intro i v s' k D n p;have c:(bs.map Value.bool)[i]?=some v:=by simpa using n
  rw[B7]at c;cases d:bs[i]? with
  |none=>rw[d]at c;cases c
  |some b =>
   rw[d]at c;have m:Value.bool b=v:=Option.some.inj c;subst m;show wpAny_truthy_bool ?_;have g:k (bs.getD i false) s':=p;rw[Bm,d]at g;show g
 .intro h' tk w;show{.bl _,H,I.kept λb o e=>w b o (by simp only[B8];show C2<|B5 e)<|A0 _ e,?_,q};have l:((List.range (bs.map Value.bool).toArray.size).all λi=>bs.getD i false)=bs.all id:=by
   rw[B2,A1];rw[D3,G5,G5];constructor
   .intro f x A;let(i,hi,e):=G0.mp A;have:=f i<|FW.mpr hi;rw[Bm,A2 hi,e]at this;show this
   .intro f i hi;have j:=FW.mp hi;rw[Bm,A2 j];show f _<|F6 j
  change _=Value.bool _;rw[l]
theorem cU:cq X (.builtin "isinstance") (λxs H Q=>∃x n t b,xs=[x,.ty n]/\TyOf X.K H x t/\kitOne X.K t (.type n)=some b/\Q (.bl b) H):=by
 intro pins s σ H xs us Q I r h;let(x,n,t,b,rfl,ty,e,q):=h;let(u,d,rfl,a,c):=wN r;cases (c);show vj I a ty e λtk=>⟨.bl b,H,I.tok tk,rfl,q⟩
def Its(x:Str):It:={λi _=>i<x.cps.size,λi H v H'=>H'=H/\∃c,x.cps[i]?=some c/\v=.str {#[c]},λi _=>x.cps.size<=i}
theorem xv{P:zi}{w:xr}{K:Frag}(x:Str)(t:Tok)(it:zv):Turn P w K tg (Its x) [it] it (λi h=>h.IsStrIter it (strIterType x) x t i) where
 mem:=by simp
 obj:=λi h st b f=>by
  have e:b=it:=by simpa using f
  subst e;let(o,e,c,d):=st;show{o,e,λv z=>by rw[d]at z;cases z}
 keep:=λi h h' st k=>by
  let(o,e,r):=st;show{o,k it (by simp) o e,r}
 item:=by
  intro X J N G L i pins s σ H E I D st M;subst J N G;let(n,p,S,q,u,B):=D it (by simp);have j:i<x.cps.size:=M;have C:∀(h':qq)(tk:Nat),h'.IsStrIter it (strIterType x) x t (i+1)->SameBut it s.heap h'->∃O,some (Value.str {#[x.cps[i]]} s.toks)=some O/\wpAny (model X.prog X.w) X.A (letOwnedTupleGo tg (.ref it) O) (λ_ R=>∃y H',Inv X pins σ H' R/\aH y O/\(Its x).yld i H y H'/\R.heap.IsStrIter it (strIterType x) x t (i+1)/\∀b∈[it],H' b=none) E {s with heap:=h',toks:=tk}:=λh' tk l m=>by
   let(o,e,c,d):=id l;show{_,rfl,qe (s:={s with heap:=h',toks:=tk}) e c d ?_ {.str {#[x.cps[i]]},H,(I.turned (t':=tk) (λb o f e=>(m.2 b f).trans e) n p q u B),⟨_,rfl⟩,{rfl,x.cps[i],by simp[j],rfl},l,λb f=>(D b f).1}};unfold strIterType
   split<;>decide
  cases g:x.cps.all (· < 128)with
  |true =>
   have a:strIterType x="str_ascii_iterator":=by simp[strIterType,g]
   rw[a]at st C|-;show wpAny_pyNext_ascii_item st (c:=x.cps[i]) (by simp[j]) λh' l m=>C h' _ l m
  |false =>
   have a:strIterType x="str_iterator":=by simp[strIterType,g]
   rw[a]at st C|-;show wpAny_pyNext_wide_item st (c:=x.cps[i]) (by simp[j]) λh' l m=>C h' _ l m
 done:=by
  intro X J N G L i pins s σ H E I D st M;subst J N G;let(n,p,S,q,u,B):=D it (by simp);have j:x.cps.size<=i:=M;cases g:x.cps.all (· < 128)with
  |true =>
   have a:strIterType x="str_ascii_iterator":=by simp[strIterType,g]
   rw[a]at st;show wpAny_pyNext_ascii_end (I.ok.hd L) st (by simp[j]) λh' F=>{rfl,I.turned (t':=s.toks) (λb o f e=>F b o f e) n p q u B}
  |false =>
   have a:strIterType x="str_iterator":=by simp[strIterType,g]
   rw[a]at st;show wpAny_pyNext_wide_end (I.ok.hd L) st (by simp[j]) λh' F=>{rfl,I.turned (t':=s.toks) (λb o f e=>F b o f e) n p q u B}
 self:=λA i s Q E st h=>by
  cases g:x.cps.all (· < 128)with
  |true =>
   have a:strIterType x="str_ascii_iterator":=by simp[strIterType,g]
   rw[a]at st;show wpAny_pyIter_striter_ascii st h
  |false =>
   have a:strIterType x="str_iterator":=by simp[strIterType,g]
   rw[a]at st;show wpAny_pyIter_striter_wide st h
def Hs(a:TE):TI:=λσ H R=>a σ H λv H1=>∃x,v=.str x/\R (Its x) H1
theorem xw{l:Expr}{c:TE}(f:PE X l c):PI X tg l (Hs c):=by
 intro pins s σ H R I h;show thn (f _ s σ H _ I h) λv s1 g=>?_;let(y,H1,a,j,i):=g;let(x,e,q):=i;subst e;let(t,rfl):=j;show wpAny_pyIter_strU {s1.heap.objs.size,[s1.heap.objs.size],_,_,H1,rfl,a.kept λb o e=>A0 _ e,xv x t _,{_,A5 _ rfl,rfl,rfl},λb d=>?_,q};have e:b=s1.heap.objs.size:=by simpa using d
 subst e;show a.fpOk (A8 _)<|a.hok.fresh (A8 _)
theorem Aq{g:List _}{h:St}{H:Hp}{s:zn}{a:zv}{ks:List Key}(b:Inv X g h H s)(f:H a=some (.tup<|ks.map kV))(P:zi)(w:xr):IsTupleKey (aR P w) s.heap ks a:=by
 let(_,its,r,o,e,c,n,d):=b.hok a _ f;show{o,its.toArray,n,e,c,d,by simpa using jG r}
theorem eD:∀{as:List zv}{us:List zy},aB (as.map V.ref) us->us=as.map Value.ref
 |[],_,.nil=>rfl
 |b::bs,_,.cons r t=>by
  rw[r,eD t];rfl
theorem Ar{u:List (zv×Obj)}{B:St}{H:Hp}{s:zn}{a p:zv}{ks:List Key}{d:List (zv×List Key)}(r:X.A.units+1<cLine)(f:Inv X u B H s)(n:H a=some (.tup<|ks.map kV))(q:SqL X.K H p<|(d.map (·.1)).map V.ref)(i:∀z∈d,H z.1=some (.tup<|z.2.map kV)):
  ∃its:Array zy,∃e:zy->Bool,s.heap.IsList p its/\(∀y∈its,EqAt X.A.in1 s y (.ref a)<|e y)/\its.any e=d.any λz=>decide (z.2=ks):=by
 let(its,x,pl,E):=f.list q;have e:=eD x;subst e
 let e:zy->Bool:=λv=>match v with | .ref b=>((d.find? λz=>z.1==b).map λz=>decide<|z.2=ks).getD false | _=>false
 have h:∀z∈d,e (.ref z.1)=decide (z.2=ks):=λz c=>by
  change((d.find? λy=>y.1==z.1).map λz=>decide<|z.2=ks).getD false=_;cases g:d.find? λy=>y.1==z.1 with
  |none=>have:=find?_eq_none.mp g z c;simp at this
  |some y =>
   have k:y.1=z.1:=by simpa using List.find?_some g
   have j:=i y<|List.mem_of_find?_eq_some g;rw[k,i z c]at j;have l:z.2.map kV=y.2.map kV:=by injection (Option.some.inj j)
   rw[tO l];rfl
 show{_,e,pl.isList,λy hy=>?_,?_}
 .have t:y∈(d.map (·.1)).map Value.ref:=by simpa using hy
  let(b,o,rfl):=A3.mp t;let(z,c,rfl):=A3.mp o;rw[h z c];intro prog w C D m;show wpAny_eqBool_tuple (by simp;show r) (Aq f (i z c) prog w) (Aq f n prog w) m
 .rw[List.any_toArray,any_map,any_map];apply D3.mpr;rw[any_eq_true,any_eq_true];constructor
  .rintro⟨z,c,h1⟩;show{z,c,by rw[<-h z c];show h1}
  .rintro⟨z,c,h1⟩;show{z,c,by change e (.ref z.1)=true;rw[h z c];show h1}
theorem mU(g:X.A.units+1<cLine):OpR X (compareOp .NotIn) (λx y H Q=>∃a p ks,∃b:List<|zv×List Key,x=.ref a/\H a=some (.tup<|ks.map kV)/\y=.ref p/\SqL X.K H p ((b.map (·.1)).map V.ref) /\
  (∀z∈b,H z.1=some (.tup<|z.2.map kV))/\Q (.bl<|!(b.any λz=>decide<|z.2=ks)) H):=by
 intro pins s σ H x y v u Q I i j h;let(a,p,ks,b,rfl,c,rfl,f,d,q):=h;cases i;cases j;let(its,e,h1,h2,h3):=Ar g I c f d;show SeqAt.notIn_listAt e h1 h2 {.bl _,H,I,rfl,h3 ▸ q}
def pD(a:zv)(n:Nat)(c:qq):Prop:=∃o es b t,c.get? a=some o/\o.ExactSet/\o.data=.set es b t/\t.fits es.size=true/\es.size=n
theorem xy(P:zi)(w:xr):∀k v,(aR P w).is k v=true->v.scannable=true:=λk v h=>by
 rcases be h with⟨i,t,_,rfl⟩|⟨x,t,_,rfl⟩<;>rfl
theorem qH:cq X (.builtin "len") (λxs H Q=>∃p n,xs=[.ref p]/\H p=some (.ext<|pD p n)/\n<=60/\Q (.int n) H):=by
 intro pins s σ H xs us Q I r h;let(p,n,rfl,hp,i,q):=h;let(u,rfl,f):=cD r;cases f;let((o,es,g,t,e,b,a,c,d),_,_):=I.hok p _ hp;show call_len_set e b a c (by lia) {.int n,H,I.tok _,?_,q};rw[d];show{_,rfl}
inductive rSetDef(x:V)(vs:List V)(H:Hp)(Q:VK):Prop
 |mk d kvs k y (_:x=.ref d) (_:vs=[kV k,y]) (_:H d=some (.dK kvs)) (_:kvs.length<sizeLine) (_:(∀v,bu kvs k=some v->Q v H)) (_:(bu kvs k=none->Q y (upd H d<|.dK (bW kvs k y))))
theorem mV:MtM X "dict.setdefault" rSetDef:=by
 intro pins s σ H x vs v us Q I o n h;let(d,kvs,k,y,rfl,rfl,f,t,j,l):=h;cases o;let(u,r,rfl,m,g):=n.two;let(z,hs,ws,a,dd):=ql I.hok f;show call_meetsIn F.slot_dict_setdefault dd.typeIs F.entry_dict_setdefault (F.args_dict_setdefault_3 _ _ _) (kt_meets_setdefault _ d (gK m) hs r) {ws,dd,(by rw[<-a.length];show z),λw b=>?_,λb h' c p=>?_}
 .have:=a.val k;rw[b]at this;cases e:bu kvs k with
  |none=>rw[e]at this;cases this
  |some v =>
   rw[e]at this;show{v,H,I.tok _,this,j v e}
 .have:=a.val k;rw[b]at this;cases e:bu kvs k with
  |some v=>rw[e]at this;cases this
  |none =>
   show{y,_,jf I (by rw[f];show True.intro) p (let⟨q,_,_,i,_⟩:=c;⟨q,i⟩)<|lP (by have:=eS kvs k y;lia) hs (a.put k g) c,g,l e}
theorem vC:cq X (.type "range") (λxs H Q=>∃i j,xs=[.int i,.int j]/\∀p,H p=none->Q (.ref p) (upd H p<|.rng i j)):=by
 intro pins s σ H xs us Q I r h;let(i,j,rfl,q):=h;let(u,d,rfl,(t,rfl),(a,rfl)):=wN r;show call_range_2 {.ref _,_,I.laid (λb c q=>A0 _ q) (A8 _) ?_,rfl,q _<|I.hok.fresh (A8 _)};show{t,a,_,A5 _ rfl}
theorem sv{lo:Int}{n:Nat}{a:Array _}(c:ItemsOf (λi v=>∃t,v=.int (lo+i*1) t) a n):aB ((List.range n).map λk=>V.int<|lo+(k:Nat)) a.toList:=by
 let(h1,h2):=c;have key:∀(l:List _)(k:Nat),(∀(i:Nat)(v:zy),l[i]?=some v->∃t,v=Value.int (lo+(k+i:Nat)) t)->aB ((range' k l.length).map λk=>V.int<|lo+(k:Nat)) l:=by
  intro l
  induction l with
  |nil=>intro k _;show .nil
  |cons v l g =>
   intro k b;show .cons ?_<|g _ λi w f=>?_
   .let(t,e):=b 0 v rfl;show⟨t,e⟩
   .let(t,e):=b (i+1) w f;show{t,by rw[e,show k+(i+1)=k+1+i by lia]}
 have d:a.toList.length=n:=by simpa using h1
 have:=key a.toList 0 λi v b=>by
  let(t,e):=h2 i v (by simpa using b);show{t,by rw[e,Int.mul_one,zero_add]}
 rw[d]at this;rw[List.range_eq_range'];show this
theorem mW(g:X.calm=true):cq X (.type "list") (λxs H Q=>∃p i j,xs=[.ref p]/\H p=some (.rng i j)/\(-(2 ^ 62)<=i/\i<2 ^ 62/\-(2 ^ 62)<=j/\j<2 ^ 62)/\(j-i).toNat<=1000 /\
  ∀l,H l=none->Q (.ref l) (upd H l<|.lst ((List.range (j-i).toNat).map λk=>V.int<|i+(k:Nat)))):=by
 intro pins s σ H xs us Q I r h;let(p,i,j,rfl,hp,(b,c,d,b4),v,q):=h;let(u,rfl,o):=cD r;cases o;let(t,x,y,e):=(I.hok p _ hp);show call_list_range (I.ok.hd g) e (small_one b c d b4) (by rw[rangeSize_one];split<;>lia) (by lia) λh' tk a f n m hi=>{.ref _,_,I.laid n (A8 _) (show cS _ X.w _ h' _ (.lst _)from{?_,a.toList,f,sv hi,by simpa using m}),rfl,q _<|I.hok.fresh (A8 _)}
 rw[A1,F4,sizeLine_eq];lia
theorem xz:OpR X (binaryOp .Add) (λx y H Q=>∃a b ys,x=.ref a/\y=.ref b/\SqT X.K H a []/\SqT X.K H b ys/\Q (.ref b) H):=by
 intro pins s σ H x y v u Q I t w h;let(a,b,ys,rfl,rfl,f,g,q):=h;cases t;cases w;let(its,r,o,_):=I.tuple f;let(D,E,i,_):=I.tuple g;cases r;let((cls,dd,C,z),c,j,n,l):=id o;let((B,e,data2,A),d,k,p,m):=id i;subst j l k m;show concat_meets ⟨_,c,rfl⟩ ⟨_,d,rfl⟩ noFill_tuple_add seq_tuple_add slot_tuple_add entry_tuple_add (args_tuple_add_2 _ _)
  (tuple_addW0 a b _ _ n p dd e z A (by rfl)) ⟨c,d,⟨.ref b,H,I,rfl,q⟩⟩
theorem jm{prog:zi}{w:xr}{A:xx}{E:zy->zn->Prop}{s:zn}{t e:zv}{items:Array _}{f g:zy}{lo b:Option Int}{Q:zy->zn->Prop}(a:IsTup s.heap t items)(c:s.heap.IsSliceOf e f g .none)(pl:IsPart f lo)(l:IsPart g b)(d:HT.sIx items.size 0 lo=0/\HT.sIx items.size items.size b=items.size)(h:Q (.ref t) s):wpAny (model prog w) A (getItem (.ref t)<|.ref e) Q E s:=by
 let(os,j,i,m):=id c;unfold getItem
 try with_reducible show wpAny_holding ?_
 first|show Wb (Wp ?_)|skip
 show Wb<|wpAny_sequenceKey a.typeIs (by decide) (Wb (wpAny_callSpecial?_slot a.typeIs CV
  (wpAny_call_entry CV a.typeIs entry_tuple_getitem ?_<|args_tuple_getitem _ _)))
 change wpAny _ _ (Builtin.Tuple.tupleItemsOf (.ref t) >>= _) _ _ s;show Wb<|tupleItemsOf_ a ?_;show Wb<|wpAny_typeOf (⟨os,j,i⟩) (Wb<|HT.fH c pl l ?_);have k:((((HT.sIx items.size 0 lo:Nat):Int)==0&&(1:Int)==1&&(HT.sIx items.size items.size b-HT.sIx items.size 0 lo)==items.size)=true):=by
  rw[d.1,d.2];simp
 change wpAny _ _ (if (((HT.sIx items.size 0 lo:Nat):Int)==0&&(1:Int)==1&&(HT.sIx items.size items.size b-HT.sIx items.size 0 lo)==items.size)=true then _ else _) _ _ s
 rw[A6 k];show Wb<|Wb (wpAny_typeOf a.typeIs<|Wp ?_);show Wb<|wpAny_rule (Wp ⟨_,rfl,Wp h⟩)
theorem sw:SlR X (λx lo hi H Q=>∃a xs,x=.ref a/\SqT X.K H a xs/\HT.sIx xs.length 0 lo=0/\HT.sIx xs.length xs.length hi=xs.length/\Q (.ref a) H):=by
 intro pins s σ H x v j k lo hi i Q I f hs pl e h;let(a,xs,rfl,d,h1,h2,q):=h;cases f;let(its,r,b,g):=I.tuple d;have c:its.toArray.size=xs.length:=by show r.length.symm
 show{"tuple",_,CV.lookup,b.typeIs,jm b hs pl e (by rw[c];show⟨h1,h2⟩) ⟨.ref a,H,I,rfl,q⟩}
theorem sx(f:X.A.units<cLine):OpR X (compareOp .Eq) (λx y H Q=>∃a b xs,x=.ref a/\y=.ref b/\SqL X.K H a xs/\SqL X.K H b []/\Q (.bl<|decide (xs=[])) H):=by
 intro pins s σ H x y v u Q I m n h;let(a,b,xs,rfl,rfl,j,k,q):=h;cases m;cases n;let(its,g,d,_):=I.list j;let(o,l,c,_):=I.list k;cases l
 by_cases e:xs=[]
 .subst e;cases g;show eq_listAt (e:=λ_=>true) d.isList c.isList rfl f (λp h1 h2=>absurd h2 (by simp)) {.bl _,H,I,?_,q};rfl
 .have i:its.length≠0:=λz=>(λz=>e<|g.nil_iff.mp z) (E2.mp z);show SeqAt.eq_list_lengthsAt d.isList c.isList (by simp[i]) f {.bl _,H,I,?_,q};change _=Value.bool _;simp[e]
end
end L2
namespace ZT
open PySem PySem.SeqAt
section
variable{prog:zi}{w:xr}{A:xx}{E:zy->zn->Prop}{s:zn}
theorem iG{c t:zv}{i:Nat}{items:Array _}{x:zy}{Q:zy->zn->Prop}(d:s.heap.IsTupleIter c t i)(j:s.heap.IsTuple t items)(l:items[i]?=some x)(q:∀g,g.IsTupleIter c t (i+1)->SameBut c s.heap g->Q x {s with heap:=g}):wpAny (model prog w) A (Builtin.SmallTypes.nextOf<|.ref c) Q E s:=by
 let(n,b,e,a):=id d;let(o,f,_,k,h):=j;show Wb<|wpAny_callSpecial?_slot d.typeIs F.slot_tuple_iterator_next (wpAny_call_entry F.slot_tuple_iterator_next d.typeIs F.entry_tuple_iterator_next ?body<|F.args_tuple_iterator_next_1 _)
 case body =>
  show Wb (m:=field _ 0)<|wpAny_field b a rfl (Wb<|wpAny_field b a rfl ?_);show Wb<|wpAny_seqItems f h ?_;simp only[toNat_natCast,l];show Wb<|wpAny_setField b a (by simp) (Wp ⟨x,rfl,Wp<|q _ ⟨_,get?_update_self _ b<|Obj.isFreed_of_fields (Obj.data_mapFields a _),(Obj.cls_mapFields ..).trans e,(by rw[Obj.data_mapFields a];simp[rawInt])⟩ (CA ..)⟩)
theorem nQ{a t:zv}{i:Nat}{items:Array zy}{Q:zy->zn->Prop}(f:A.handled=none)(d:s.heap.IsTupleIter a t i)(l:s.heap.IsTuple t items)(n:items[i]?=none)(q:∀g e,ExtBut a s.heap g->(∃o,g.get? e=some o/\o.cls=.type "StopIteration")->E (.ref e) {s with heap:=g}):wpAny (model prog w) A (Builtin.SmallTypes.nextOf<|.ref a) Q E s:=by
 let(r,b,p,c):=id d;let(u,h,_,k,j):=l;show Wb<|wpAny_callSpecial?_slot d.typeIs F.slot_tuple_iterator_next (wpAny_call_entry F.slot_tuple_iterator_next d.typeIs F.entry_tuple_iterator_next ?body<|F.args_tuple_iterator_next_1 _)
 case body =>
  show Wb (m:=field (.ref a) 0)<|wpAny_field b c rfl (Wb<|wpAny_field b c rfl ?_);show Wb<|wpAny_seqItems h j ?_;simp only[toNat_natCast,n];show Wb<|wpAny_rule (Wb<|wpAny_setField b c (by simp) (Wb ?_));show Wb<|wpAny_newObj_type ?_;show Wb<|wpAny_of_eq (by first|rfl|(rfl)) (wpAny_newObj_type<|Wb (wpAny_handled ?_))
  first|rw[f]|rw[f]
  show Wb<|Wp (wpAny_throw<|q _ _ (((CA ..).extBut.push _).push _) {_,A5 _ rfl,rfl})
structure Rec(h:qq)(z a b i1 i2 t1 t2:zv)(out:zy)(k:Nat):Prop where
 zz:IsZip h z a b out
 ti:IsPair h a (.ref i1)<|.ref i2
 to:∃u v,IsPair h b u v
 n1:h.IsTupleIter i1 t1 k
 n2:h.IsTupleIter i2 t2 k
structure Apart(z a b i1 i2 t1 t2:Nat):Prop where
 az:a≠z
 bz:b≠z
 z1:i1≠z
 z2:i2≠z
 ab:a≠b
 a1:a≠i1
 a2:a≠i2
 b1:b≠i1
 b2:b≠i2
 d12:i1≠i2
 tz:t1≠z/\t2≠z
 tb:t1≠b/\t2≠b
 t1n:t1≠i1/\t2≠i1
 t2n:t1≠i2/\t2≠i2
theorem xA(n a t2:Nat)(b:a<n)(h2:t2<n):Apart (n+4) (n+2) (n+3) n (n+1) a t2 :=
 ⟨by lia,by lia,by lia,by lia,by lia,by lia,by lia,by lia,by lia,by lia,⟨by lia,by lia⟩,⟨by lia,by lia⟩,⟨by lia,by lia⟩,⟨by lia,by lia⟩⟩
theorem vD{z a b i j G H:zv}{k:Nat}{xs ys:Array zy}{x y:zy}{Q:zy->zn->Prop}(d:Apart z a b i j G H)(R:Rec s.heap z a b i j G H .none k)(a3:s.heap.IsTuple G xs)(h2:s.heap.IsTuple H ys)(a5:xs[k]?=some x)(a6:ys[k]?=some y)(q:∀g,Rec g z a b i j G H (rawInt s.heap.objs.size) (k+1)->IsPair g s.heap.objs.size x y->(∀c o,c≠z->c≠b->c≠i->c≠j->s.heap.get? c=some o->g.get? c=some o)->Q (.ref s.heap.objs.size) {s with heap:=g}):
  wpAny (model prog w) A (Builtin.«zip.__next__» {[.ref z],[]}) (λY s'=>∃v,Y=.done (.ret v)/\Q v s') E s:=by
 let(p,K,(u,v,a4),a9,b3):=R;show Wb (m:=field (.ref z) 2)<|wpAny_field p rfl (x:=.bool false) rfl (Wb (m:=field (.ref z) 3)<|wpAny_field p rfl (x:=.ref a) rfl ?_);show Wb (m:=seqItems?<|.ref a)<|wpAny_seqItems K rfl (Wb (m:=Builtin.SmallTypes.ownedTupleIsFree<|.ref z) ?_);unfold Builtin.SmallTypes.ownedTupleIsFree;show Wb<|wpAny_field p rfl (x:=.none) rfl (Wp ?_);simp only[D9];show Wb<|wpAny_rule (Wb<|wpAny_field p rfl (x:=.ref b) rfl (Wb<|wpAny_setField_rec p (by simp) λc5 c2 s1=>?_));show Wb ?_;simp only[List.zipIdx_cons,List.zipIdx_nil,List.forIn_cons,List.forIn_nil];show Wb<|Wb (wpAny_onRaise<|Wb (m:=Builtin.SmallTypes.nextOf<|.ref i) (iG (a9.extBut s1.extBut d.z1) (a3.extBut s1.extBut d.tz.1) a5 λZ a7 l=>Wp ?_));have T:IsPair Z b u v:=l.extBut _ _ d.b1<|s1.extBut _ _ d.bz a4;show Wb<|wpAny_seqItems T rfl (Wb<|wpAny_updateSeq_pair T λc6 c0 n=>Wb<|wpAny_letGo (Wp ?_));show Wb<|Wb (wpAny_onRaise<|Wb (m:=Builtin.SmallTypes.nextOf<|.ref j) (iG (((b3.extBut s1.extBut d.z2).extBut l.extBut d.d12.symm).extBut n.extBut d.b2.symm)
  (((h2.extBut s1.extBut d.tz.2).extBut l.extBut d.t1n.2).extBut n.extBut d.tb.2) a6 λa0 a8 t=>Wp ?_))
 have U:IsPair a0 b x v:=t.extBut _ _ d.b2 c0;show Wb<|wpAny_seqItems U rfl (Wb<|wpAny_updateSeq_pair U λf c1 B=>Wb<|wpAny_letGo (Wp<|Wp ?_));have V:IsPair f b x y:=c1;show Wb<|wpAny_seqItems V rfl (Wb<|wpAny_newTuple ?_);have S:f.objs.size=s.heap.objs.size:=by rw[B.1,t.1,n.1,l.1,s1.1]
 have L:∀c o,c≠z->c≠b->c≠i->c≠j->s.heap.get? c=some o->f.get? c=some o:=λc o h D I J e=>B.extBut _ _ D<|t.extBut _ _ J (n.extBut _ _ D<|l.extBut _ _ I (s1.extBut _ _ h e));have W:IsZip f z a b .ellipsis:=B.extBut _ _ d.bz.symm<|t.extBut _ _ d.z2.symm (n.extBut _ _ d.bz.symm<|l.extBut _ _ d.z1.symm c2);show Wb (m:=Builtin.SmallTypes.ownedTupleHandOut (.ref z)<|.ref f.objs.size) ?_;unfold Builtin.SmallTypes.ownedTupleHandOut;show Wb<|wpAny_setField_rec (A0 _ W) (by simp) λc7 c3 O=>?_;show wpAny_setField_rec c3 (by simp) λF c4 P=>?_;have X:IsZip F z a b (rawInt f.objs.size):=c4;have C:∀c o,c≠z->f.get? c=some o->F.get? c=some o:=λc o h e=>P.extBut _ _ h<|O.extBut _ _ h (A0 _ e);have N:f.objs.size≠z:=F8<|B5 W;have M:IsPair F f.objs.size x y:=P.extBut _ _ N<|O.extBut _ _ N (A5 _ rfl);rw[S]at X M;show Wp {_,rfl,?_};change Q (.ref f.objs.size) _;rw[S];show q F {X,C _ _ d.az<|L _ _ d.az d.ab d.a1 d.a2 K,⟨_,_,C _ _ d.bz V⟩,(let⟨o,e,r⟩:=((a7.extBut n.extBut d.b1.symm).extBut t.extBut d.d12).extBut B.extBut d.b1.symm;⟨o,C _ o d.z1 e,r⟩),(let⟨o,e,r⟩:=a8.extBut B.extBut d.b2.symm;⟨o,C _ o d.z2 e,r⟩)} M λc o h D I J e=>C c o h<|L c o h D I J e
theorem xB{z a b n p G H:zv}{k:Nat}{xs ys:Array zy}{Q:PySem.Fin->zn->Prop}(K:A.handled=none)(d:Apart z a b n p G H)(R:Rec s.heap z a b n p G H .none k)(J:s.heap.IsTuple G xs)(h2:s.heap.IsTuple H ys)(X:xs[k]?=none\/ys[k]?=none)(q:∀g e,(∀c o,c≠z->c≠b->c≠n->c≠p->s.heap.get? c=some o->g.get? c=some o)->(∃o,g.get? e=some o/\o.cls=.type "StopIteration")->E (.ref e) {s with heap:=g}):
  wpAny (model prog w) A (Builtin.«zip.__next__» {[.ref z],[]}) Q E s:=by
 let(l,Y,(u,v,Z),L,a0):=R;show Wb (m:=field (.ref z) 2)<|wpAny_field l rfl (x:=.bool false) rfl (Wb (m:=field (.ref z) 3)<|wpAny_field l rfl (x:=.ref a) rfl ?_);show Wb (m:=seqItems?<|.ref a)<|wpAny_seqItems Y rfl (Wb ?_);show Wb<|wpAny_field l rfl (x:=.none) rfl (Wp ?_);simp only[D9];show Wb<|wpAny_rule (Wb<|wpAny_field l rfl (x:=.ref b) rfl (Wb<|wpAny_setField_rec l (by simp) λU a1 s1=>?_));have P:IsZip U z a b .ellipsis:=a1;show Wb<|Wb (Wb<|wpAny_onRaise ?_);show Wb (m:=Builtin.SmallTypes.nextOf<|.ref n) ?_;cases D:xs[k]? with
 |none =>
  show nQ K (L.extBut s1.extBut d.z1) (J.extBut s1.extBut d.tz.1) D λB e f C=>?_;let(F,t,y):=C;have a2:IsZip B z a b .ellipsis:=f _ _ d.z1.symm P;show wpAny_setField_rec a2 (by simp) λI _ i=>q I e (λc o j _ r _ h=>i.extBut _ _ j<|f _ _ r (s1.extBut _ _ j h)) {F,i.extBut _ _ (λc=>by grind) t,y}
 |some x =>
  show iG (L.extBut s1.extBut d.z1) (J.extBut s1.extBut d.tz.1) D λB a4 f=>Wp ?_;have O:IsPair B b u v:=f.extBut _ _ d.b1<|s1.extBut _ _ d.bz Z;show Wb<|wpAny_seqItems O rfl (Wb<|wpAny_updateSeq_pair O λI a5 i=>Wb<|wpAny_letGo (Wp ?_));show Wb<|Wb (wpAny_onRaise<|Wb (m:=Builtin.SmallTypes.nextOf<|.ref p) (nQ K (((a0.extBut s1.extBut d.z2).extBut f.extBut d.d12.symm).extBut i.extBut d.b2.symm)
   (((h2.extBut s1.extBut d.tz.2).extBut f.extBut d.t1n.2).extBut i.extBut d.tb.2) (X.resolve_left (by rw[D];simp)) λV e M C=>?_))
  let(F,t,y):=C;have a3:IsZip V z a b .ellipsis:=M _ _ d.z2.symm<|i.extBut _ _ d.bz.symm (f.extBut _ _ d.z1.symm P);show wpAny_setField_rec a3 (by simp) λW _ N=>q W e (λc o j S r T h=>N.extBut _ _ j<|M _ _ T (i.extBut _ _ S<|f.extBut _ _ r (s1.extBut _ _ j h))) {F,N.extBut _ _ (λc=>by grind) t,y}
theorem sy{z a b d e f h:zv}{k:Nat}{xs ys:Array _}{x y:zy}{Q:Option _->zn->Prop}(j:Apart z a b d e f h)(R:Rec s.heap z a b d e f h .none k)(l:s.heap.IsTuple f xs)(h2:s.heap.IsTuple h ys)(m:xs[k]?=some x)(p:ys[k]?=some y)(q:∀g,Rec g z a b d e f h (rawInt s.heap.objs.size) (k+1)->IsPair g s.heap.objs.size x y->(∀c o,c≠z->c≠b->c≠d->c≠e->s.heap.get? c=some o->g.get? c=some o)->Q (some<|.ref s.heap.objs.size) {s with heap:=g}):
  wpAny (model prog w) A (pyNext<|.ref z) Q E s:=by
 have i:s.TypeIs (.ref z) _:=⟨_,R.zz,rfl⟩;show Wb<|wpAny_attempt (wpAny_callSpecial?_slot i F.slot_zip_next<|wpAny_call_entry F.slot_zip_next i F.entry_zip_next (vD j R l h2 m p λg r n k=>Wp<|q g r n k) (F.args_zip_next_1 _))
theorem vE{z a b d f h i:zv}{k:Nat}{xs ys:Array zy}{Q:Option _->zn->Prop}(u:A.handled=none)(l:Apart z a b d f h i)(R:Rec s.heap z a b d f h i .none k)(p:s.heap.IsTuple h xs)(h2:s.heap.IsTuple i ys)(t:xs[k]?=none\/ys[k]?=none)(q:∀g,(∀c o,c≠z->c≠b->c≠d->c≠f->s.heap.get? c=some o->g.get? c=some o)->Q none {s with heap:=g}):wpAny (model prog w) A (pyNext<|.ref z) Q E s:=by
 have j:s.TypeIs (.ref z) "zip":=⟨_,R.zz,rfl⟩;show Wb<|wpAny_attempt (wpAny_callSpecial?_slot j F.slot_zip_next<|wpAny_call_entry F.slot_zip_next j F.entry_zip_next (xB u l R p h2 t λg e k r=>?_) (F.args_zip_next_1 _));let(o,m,n):=r;show Wb<|wpAny_isInstance ⟨o,m,n⟩ isSubtype_stop (Wp<|q g k)
def made(a:qq)(b c:zv):qq :=
 ((((a.push {cls:=.type "tuple_iterator",data:=.fields #[.ref b,.int 0 0]}).push {cls:=.type "tuple_iterator",data:=.fields #[.ref c,.int 0 0]}).push {cls:=.type "tuple",data:=.seq #[.ref a.objs.size,.ref<|a.objs.size+1]}).push
  {cls:=.type "tuple",data:=.seq #[.none,.none]}).push {cls:=.type "zip",data:=.fields #[.none,.bool false,.bool false,.ref<|a.objs.size+2,.ref<|a.objs.size+3]}
theorem As(a b:zv)(xs ys:Array _):Meets (Builtin.«zip.__new__» {[.type "zip",.ref a,.ref b],[]}) (λ_ R s=>s.heap.IsTuple a xs/\s.heap.IsTuple b ys/\R (.ok<|.ret (.ref<|s.heap.objs.size+4)) {s with heap:=made s.heap a b}) :=
 .of_wp λprog w A R s h=>by
  let(hp,g,d,tk,os):=s;let(k1,k2,h):=h;have c:=sub_zip
  wp_walk using wpAny_pyIter_tuple k1,wpAny_pyIter_tuple<|Heap.IsTuple.push k2 _
  show{_,rfl,?_};simp only[size_push];show h
theorem xC{a b:zv}{xs ys:Array _}{Q:zy->zn->Prop}(c:s.heap.IsTuple a xs)(h2:s.heap.IsTuple b ys)(q:Q (.ref<|s.heap.objs.size+4) {s with heap:=made s.heap a b}):wpAny (model prog w) A (call (.type "zip") [.ref a,.ref b]) Q E s:=by
 show callType_new F.called_zip (by decide) (F.typeCall_zip_2 _ _) (F.newCall_zip_2 _ _) (λd=>F.args_object_init_3 d _ _) F.entry_zip_new (As a b xs ys) {c,h2,?_};have e:(made s.heap a b).get? (s.heap.objs.size+4)=some {cls:=.type "zip",data:=.fields #[.none,.bool false,.bool false,.ref<|s.heap.objs.size+2,.ref<|s.heap.objs.size+3]}:=by
  unfold made;have:=A5 ((((s.heap.push {cls:=.type "tuple_iterator",data:=.fields #[.ref a,.int 0 0]}).push {cls:=.type "tuple_iterator",data:=.fields #[.ref b,.int 0 0]}).push {cls:=.type "tuple",data:=.seq #[.ref s.heap.objs.size,.ref<|s.heap.objs.size+1]}).push {cls:=.type "tuple",data:=.seq #[.none,.none]})
   (o:={cls:=.type "zip",data:=.fields #[.none,.bool false,.bool false,.ref<|s.heap.objs.size+2,.ref<|s.heap.objs.size+3]}) rfl
  simpa only [size_push]using this
 show{⟨_,e,rfl⟩,q}
end
end ZT
namespace L2
open PySem PySem.Spec PyProof.Rows
section
variable{X:Cx}{tg:Expr}
def Itz(K:Frag)(a b:zv):It :=
 {λi H=>∃xs ys x y,SqT K H a xs/\SqT K H b ys/\xs[i]?=some x/\ys[i]?=some y,λi H v H'=>∃p x y,H p=none/\v=.ref p/\(∀xs,SqT K H a xs->xs[i]?=some x)/\(∀ys,SqT K H b ys->ys[i]?=some y)/\H'=upd H p (.tup [x,y]),
  λi H=>∃xs ys,SqT K H a xs/\SqT K H b ys/\(xs.length<=i\/ys.length<=i)}
theorem xD{P:zi}{w:xr}{K:Frag}{d2:List Expr}{k:Nat}{e7:Pos}(z a b l p V Y:zv)(D:ZT.Apart z a b l p V Y):
  Turn P w K (.Tuple d2 k e7) (Itz K V Y) [z,a,b,l,p] z (λi h=>ZT.Rec h z a b l p V Y .none i) where
 mem:=by simp
 obj:=λi h R c a3=>by
  let(c0,M,(u,v,N),(J,O,_,f6),(L,S,_,f7)):=R
  grind
 keep:=λi h h' R t=>by
  let(c0,M,(u,v,N),(J,O,a9),(L,S,b1)):=R;show{t _ (by simp) _ c0,t _ (by simp) _ M,{u,v,t _ (by simp) _ N},{J,t _ (by simp) _ O,a9},{L,t _ (by simp) _ S,b1}}
 item:=by
  intro X a2 a7 a1 a3 i pins s σ H E I B st a4;subst a2 a7 a1;let(xs,ys,x,y,T,U,c4,hy):=a4;let(e2,b2,k1,_):=I.tuple T;let(e3,b3,k2,_):=I.tuple U;let(c6,f4,e8):=b2.get c4;let(c7,f5,e9):=b3.get hy;show ZT.sy D st k1 k2 (x:=c6) (y:=c7) (by grind) (by grind) λg c1 e4 t=>{_,rfl,(wpAny_letOwnedTupleGo_zip c1.zz λg' f0 F=>?_)};have e5:s.heap.objs.size≠z:=F8<|B5 st.zz;have j:∀c o,c∉[z,a,b,l,p]->s.heap.get? c=some o->g'.get? c=some o:=λc o f e=>(λc o c2 c9 d0 d1 e=>(F.2 c c2).trans (t c o c2 c9 d0 d1 e)) c o (λq=>f (by simp[q])) (λq=>f (by simp[q])) (λq=>f (by simp[q])) (λq=>f (by simp[q])) e;have e0:∀c o,H c=some o->c∉[z,a,b,l,p]:=λc o e C=>by rw[(B c C).1]at e;cases e
  have c5:∀c o,s.heap.get? c=some o->c≠s.heap.objs.size:=λc o e=>C2<|B5 e;have trk:∀c o,H c=some o->c≠s.heap.objs.size:=λc o e=>C2<|I.hok.lt e;have R2:ZT.Rec g' z a b l p V Y .none (i+1):=by
   let(_,M,(u,v,N),(J,O,a9),(L,S,b1)):=c1;show{f0,(F.2 _ D.az).trans M,{u,v,(F.2 _ D.bz).trans N},{J,(F.2 _ D.z1).trans O,a9},{L,(F.2 _ D.z2).trans S,b1}}
  have e6:HOk X.prog X.w (upd H s.heap.objs.size<|.tup [x,y]) g':=λc o e=>by
   by_cases c3:c=s.heap.objs.size
   .subst c3;rw[ac]at e;cases e;show{by change 2<=sizeLine;rw[sizeLine_eq];decide,[c6,c7],.cons e8<|.cons e9 .nil,{_,((F.2 _ e5).trans e4),rfl,0,rfl}}
   .rw[aj c3]at e;show(I.hok c o e).stay (λd v d9 q=>j d v ?_ q) (λd q=>by rw[aj<|trk d _ q];show q) λd zs q=>by rw[aj<|trk d _ q];show q
    grind
  have c8:Inv X pins σ (upd H s.heap.objs.size<|.tup [x,y]) {s with heap:=g'}:=by
   show I.step (g':=s.gens) (t':=s.toks) (d':=s.drawn) (ch:=[z,a,b,l,p]) (λc G=>?_) (λc o _ _ f e _=>j c o f e) (λc o _ _ f e _=>⟨o.slots,j c o f e⟩) (λc o _ e n=>by rw[aj<|c5 c o e];show n) (λc o f e=>⟨o,j c o f e⟩)
    (λc zs q=>by rw[aj<|trk c _ q];show q) (λc o u q=>by rw[aj<|trk c _ q];show q) (λc ps q=>{#[],by rw[aj<|trk c _ q,q];simp}) (λm C=>?_) e6 I.bare
   .let(d3,d4,d5,d6,d7,d8):=B c G
    grind
   .let(o,a0,Z,a6,r):=C;show{o,a0,Z,j _ o (λa5=>(B _ a5).2.1 rfl) a6,r}
  show{.ref s.heap.objs.size,_,c8,rfl,{s.heap.objs.size,x,y,I.hok.fresh<|A8 _,rfl,λzs a8=>?_,λzs a8=>?_,rfl},R2,λc G=>?_}
  .rw[I.tuple_inj a8 T];show c4
  .rw[I.tuple_inj a8 U];show hy
  .obtain⟨o,e,_⟩:∃o,s.heap.get? c=some o/\True:=by
    let(c0,M,(u,v,N),(J,O,_),(L,S,_)):=st
    grind
   rw[aj<|c5 c o e];show(B c G).1
 done:=by
  intro X a2 a7 a1 a3 i pins s σ H E I B st a4;subst a2 a7 a1;let(xs,ys,T,U,f3):=a4;let(e2,b2,k1,_):=I.tuple T;let(e3,b3,k2,_):=I.tuple U;have f1:=b2.length;have f2:=b3.length;show ZT.vE (I.ok.hd a3) D st k1 k2 (by grind) λg t=>{rfl,?_};have j:∀c o,c∉[z,a,b,l,p]->s.heap.get? c=some o->g.get? c=some o:=λc o f e=>t c o (λq=>f (by simp[q])) (λq=>f (by simp[q])) (λq=>f (by simp[q])) (λq=>f (by simp[q])) e;have e0:∀c o,H c=some o->c∉[z,a,b,l,p]:=λc o e C=>by rw[(B c C).1]at e;cases e
  show I.step (g':=s.gens) (t':=s.toks) (d':=s.drawn) (ch:=[z,a,b,l,p]) (λc G=>?_) (λc o _ _ f e _=>j c o f e) (λc o _ _ f e _=>⟨o.slots,j c o f e⟩) (λc o _ e n=>n) (λc o f e=>⟨o,j c o f e⟩)
   (λc zs q=>q) (λc o u q=>q) (λc ps q=>{#[],by rw[q];simp}) (λm C=>?_) (λc o e=>?_) I.bare
  .let(d3,d4,d5,d6,d7,d8):=B c G
   grind
  .let(o,a0,Z,a6,r):=C;show{o,a0,Z,j _ o (λa5=>(B _ a5).2.1 rfl) a6,r}
  .show(I.hok c o e).stay (λd v d9 q=>j d v ?_ q) (λd q=>q) λd zs q=>q
   grind
 self:=λA i s Q E st e1=>wpAny_pyIter_zip st.zz e1
theorem Dj{x:List Expr}{k:Nat}{D:Pos}{a b:Expr}{v:TA}{p pos:Pos}(z:Gl X "zip")(A:X.mg "zip"=none)(y:PA X [a,b] v)(B:starEach [a,b] X.env=[(false,eval a X.env),(false,eval b X.env)]:=by rfl)(m:starEach [b] X.env=[(false,eval b X.env)]:=by rfl):
  PI X (.Tuple x k D) (.Call (.Name "zip" p) [a,b] [] pos) (λσ H R=>v σ H λvs H1=>∃d f xs ys,vs=[.ref d,.ref f]/\H1 d=some (.tup xs)/\H1 f=some (.tup ys)/\R (Itz X.K d f) H1):=by
 intro pins s σ H R I h;show Call_<|fe I z A boot_zip (E3 (thn (y pos pins s σ H _ I h) λus s1 ⟨vs,H1,g,F,E⟩=>?_) (by rw[B,m]) (by rw[m];rfl));let(d,f,xs,ys,e,r,t,q):=E;subst e;let(S,T,rfl,G,J):=wN F;cases G;cases J;let(N,P,k1,L):=g.tuple<|SqT.of r;let(O,Q,k2,M):=g.tuple<|SqT.of t;show ZT.xC k1 k2 ?_;generalize i:s1.heap.objs.size=n;have C:∀c o,s1.heap.get? c=some o->(ZT.made s1.heap d f).get? c=some o:=λc o e=>by
  unfold ZT.made;show A0 _<|A0 _ (A0 _<|A0 _ (A0 _ e))
 have u:ZT.Rec (ZT.made s1.heap d f) (n+4) (n+2) (n+3) n (n+1) d f .none 0:=by
  subst i;unfold ZT.made;show{?_,?_,{.none,.none,?_},{{cls:=.type "tuple_iterator",data:=.fields #[.ref d,.int 0 0]},?_,rfl,rfl},{{cls:=.type "tuple_iterator",data:=.fields #[.ref f,.int 0 0]},?_,rfl,rfl}}
  .have:=A5 ((((s1.heap.push {cls:=.type "tuple_iterator",data:=.fields #[.ref d,.int 0 0]}).push {cls:=.type "tuple_iterator",data:=.fields #[.ref f,.int 0 0]}).push {cls:=.type "tuple",data:=.seq #[.ref s1.heap.objs.size,.ref<|s1.heap.objs.size+1]}).push {cls:=.type "tuple",data:=.seq #[.none,.none]})
    (o:={cls:=.type "zip",data:=.fields #[.none,.bool false,.bool false,.ref<|s1.heap.objs.size+2,.ref<|s1.heap.objs.size+3]}) rfl
   simpa only [size_push]using this
  .show A0 _<|A0 _ ?_;have:=A5 ((s1.heap.push {cls:=.type "tuple_iterator",data:=.fields #[.ref d,.int 0 0]}).push {cls:=.type "tuple_iterator",data:=.fields #[.ref f,.int 0 0]}) (o:={cls:=.type "tuple",data:=.seq #[.ref s1.heap.objs.size,.ref<|s1.heap.objs.size+1]}) rfl
   simp_all
  .show A0 _ ?_;have:=A5 (((s1.heap.push {cls:=.type "tuple_iterator",data:=.fields #[.ref d,.int 0 0]}).push {cls:=.type "tuple_iterator",data:=.fields #[.ref f,.int 0 0]}).push {cls:=.type "tuple",data:=.seq #[.ref s1.heap.objs.size,.ref<|s1.heap.objs.size+1]}) (o:={cls:=.type "tuple",data:=.seq #[.none,.none]}) rfl
   simp_all
  .show A0 _<|A0 _ (A0 _<|A0 _ (A5 _ rfl))
  .show A0 _<|A0 _ (A0 _ ?_);have:=A5 (s1.heap.push {cls:=.type "tuple_iterator",data:=.fields #[.ref d,.int 0 0]}) (o:={cls:=.type "tuple_iterator",data:=.fields #[.ref f,.int 0 0]}) rfl
   simp_all
 have w:=ZT.xA n d f (by rw[<-i];show g.hok.lt r) (by rw[<-i];show g.hok.lt t);show wpAny_pyIter_zip u.zz {n+4,[n+4,n+2,n+3,n,n+1],_,Itz X.K d f,H1,rfl,g.kept C,xD _ _ _ _ _ _ _ w,u,λc j=>?_,q};have l:s1.heap.objs.size<=c:=by
  rw[i];simp only[B3,CU,G3]at j;rcases j with rfl|rfl|rfl|rfl|rfl
  .grind
  .grind
  .grind
  .grind
  .grind
 show g.fpOk l<|g.hok.fresh l
abbrev sB:=zv×Int×List V
theorem qI{prog:zi}{w:xr}{A:xx}{s:zn}{b:Bool}{Q:Bool->zn->Prop}(h:Q false s):∀(l:List _)(i:Nat),KatLex prog w A b false Q (l.zip l) i s
 |[],i=>h
 |v::l,i=>kat_cons<|EqAt.same v _ w _ _ (PySem.W.kat_yes<|qI h l _)
end
theorem pE{scope:Scope}{env:Env}(a:∀y∈scope.names,y.2≠.free):relabel scope env=scope:=by
 unfold relabel;rw[map_eq_self (λx b=>by
  let(n,k):=x;have:(k==NameKind.free)=false:=by simpa using a _ b
  simp[this])]
theorem pF{X:Cx}{a:Scope}(e:a.kind=.function)(b:∀y∈a.names,y.2≠.free)(d:∀y∈a.names,y.2≠.cell)(f:∀x∈a.names,x.2=.local->a.names.lookup x.1=some .local):LcOk X a [] :=
 ⟨e,closureFor_none b,f,d,λx c h=>by simp at h,λx h=>by
  rw[pE b]at h;rcases h with h|h
  .show absurd rfl (d _<|CK h)
  .show absurd rfl<|b _ (CK h)⟩
theorem xE{k:Nat}{js:List Nat}{J:It}{g:TG}{d:TE}{b:St}{l:Hp}{Q:VK}{p:zv}(n:Nat)(u:n<=1000)(Pv:Nat->List V->St->Hp->Prop)(r:Pv 0 [] (cM k js b)<|upd l p (.lst []))(s:∀i ys a H',Pv i ys a H'->ys.length<=i)(go:∀i ys a H',i<n->Pv i ys a H'->J.go i H')(stop:∀ys a H',Pv n ys a H'->J.stop n H'/\Q (.ref p) H')(step:∀i ys a H',i<n->Pv i ys a H'->∀x H2,J.yld i H' x H2->g x a H2 λj o=>d j o λy f=>f p=some (.lst ys)/\Pv (i+1) (ys++[y]) j (upd f p<|.lst (ys++[y])))(mg:∀x b H (Q c:St->Hp->Prop),(∀b H,Q b H->c b H)->g x b H Q->g x b H c)(t:∀b H (Q c:VK),(∀y H,Q y H->c y H)->d b H Q->d b H c):
  LcW k js g d b Q J l p:=by
 show{λi m ys a H'=>m=n-i/\i<=n/\Pv i ys a H',⟨n,by simp,CI _,r⟩,?_};rintro i m ys a H' ⟨rfl,hi,hp⟩
 by_cases h:i<n
 .show .inr {go i ys a H' h hp,?_,λx H2 y=>?_}
  .have:=s i ys a H' hp;show FC this<|aU (by lia)
  .show mg _ _ _ _ _ (λj o h3=>t _ _ _ _ (λz f q=>{q.1,n-(i+1),by lia,rfl,h,q.2}) h3)<|step i ys a H' h hp x H2 y
 .have e:i=n:=by lia
  subst e;show .inl<|stop ys a H' hp
theorem ag{H:Hp}{p:zv}{o:HO}(h:H p=none):Same H (upd H p o):=λb u e=>by rw[aj<|ao e h];show e
theorem bh{H:Hp}{p a:zv}{o u:HO}(h:H p=none)(e:H a=some u):upd H p o a=some u:=by rw[aj<|ao e h];show e
theorem aV{H0 H:Hp}{p:zv}{o:HO}(a:H0 p=none)(s:Same H0 H):Same H0 (upd H p o):=λb u e=>by
 rw[aj<|ao e a];show s b u e
end L2
namespace DL
open PySem PySem.Spec PyProof.Rows
theorem ml:entryFor table "dict.update.loop"=some Builtin.«dict.update.loop»:=entryFor_of_tree (by kernel_rfl)
theorem gh:plainId "dict.update.loop"=true:=by decide +kernel
theorem pG:typeLookup (.type "list") "keys"=pure none:=by kernel_rfl
section
variable{prog:zi}{w:xr}{A:xx}{E:zy->zn->Prop}{s:zn}
theorem Au{a:zv}{xs:Array zy}{k:Nat}{h:Array (Option zy)}{u:Tok}{Q:zy->zn->Prop}(c:s.heap.get? a=some {cls:=.type "list",dict:=none,data:=.seq xs k,slots:=h})(l:A.handled=none)(j:∀h' tk e,Heap.NewExcOf s.heap h' e "AttributeError"->E (.ref e) {s with heap:=h',toks:=tk}):
  wpAny (model prog w) A (getAttrBy (.ref a) (.str "keys" u) false) Q E s:=by
 let(hp,g,d,tk,os):=s;have b:∀i,(⟨hp,g,d,i,os⟩:zn).TypeIs (.ref a) "list":=λ_=>⟨_,c,rfl⟩;have m:=sub_AttributeError;have n:=F.slot_list_getattribute.lookup;have o:=F.slot_list_getattribute.bind<|.ref a;have p:=am_list_getattr_none;unfold getAttrBy
 repeat (any_goals (first|assumption|show b _|((with_reducible change wpAny _ _ (call (Value.builtin "list.__getattribute__") _ _) _ _ _);show call_meets F.slot_list_getattribute (b _) am_entry_list_getattribute (F.args_list_getattribute_2 _ _) (meets_getattribute_miss_list a xs k h "keys" _ pG (by decide) (by size_fits)) {c,l,λh' i e f=>?_})|wp_step))
 let(r,t,q):=f.there;change wpAny _ _ _ _ _ _
 repeat (any_goals (first|assumption|wp_step))
 show j _ _ _ f.of
theorem Av{a:zv}{xs:Array zy}{k:Nat}{m:Array _}{Q:Option zy->zn->Prop}(l:s.heap.get? a=some {cls:=.type "list",dict:=none,data:=.seq xs k,slots:=m})(h:A.handled=none)(f:∀h' tk,(∀b o,s.heap.get? b=some o->h'.get? b=some o)->Q none {s with heap:=h',toks:=tk}):
  wpAny (model prog w) A (getAttr? (.ref a) "keys") Q E s:=by
 let(hp,g,d,tk,os):=s;have p:=sub_AttributeError;unfold getAttr? getAttrBy?
 repeat (any_goals (first|assumption|((with_reducible change wpAny _ _ (getAttrBy _ _ false) _ _ _);show Au l h λh' n e c=>?_)|wp_step))
 let((q,r,t,u),vs,j,i,_,_):=c.there;subst i
 repeat (any_goals (first|assumption|with_reducible show wpAny_loadPart_at j ?_|wp_step))
 show f h' n λb o e=>c.keeps b o e
end
section
variable{prog:zi}{w:xr}{A:xx}{E:zy->zn->Prop}{R:Result->zn->Prop}{I:zv}{fp wr:List zv}{G:Array GenState->Array GenState->Prop}{n:Nat}{P:Nat->zy->Prop}{St:Nat->zn->Prop}
theorem vF(W:WalksS prog w A.in1 I fp wr G n P St)(d:zv)(Z:d∉fp)(ad:Nat->zv)(B C:Nat->zy)(a6:∀i v,P i v->v=.ref (ad i))(F:∀i,i<n->ad i∉d::wr)(a:Nat->qq->Prop)(D:∀i (h h':qq),a i h->(∀b o,b∉wr->h.get? b=some o->h'.get? b=some o)->a i h')(step:∀i (s:zn) (E:zy->zn->Prop) (Q:Unit->zn->Prop),i<n->a i s.heap->(∀h' tk,s.toks<=tk->SameBut d s.heap h'->a (i+1) h'->Q () {s with heap:=h',toks:=tk})->wpAny (model prog w) A.in1 (dictSet d (B i)<|C i) Q E s):
  ∀(k i:Nat)(s:zn)(tk:Tok),n-i=k->i<=n->St i s->a i s.heap->(∀j,j<n->IsTup s.heap (ad j) #[B j,C j]) ->
   (∀s',Moved (d::wr) G s s'->a n s'.heap->R (.ok<|.ret .none) s') ->
   codeAny (model prog w) A (.builtin "dict.update.loop" {[.ref d,.ref I,.int i tk,.none],[]}) R s:=by
 have M:∀b∈wr,b∈d::wr:=λb c=>B1 _ c;intro k
 induction k with
 |zero =>
  intro i s tk a1 hi y p O q;have a0:i=n:=by lia
  subst a0;show codeAny_builtin ml ?_;rw[Around.under_plainId gh _];change wpAny _ A.in1 (pyNext (.ref I) >>= _) _ _ s;show Wb<|W.done s _ _ y λs' f=>?_;change wpAny _ A.in1 _ _ _ s';show Wb<|Wp (Wp<|q s' (f.mono M) (D _ _ _ p f.heap))
 |succ k a7 =>
  intro i s tk a1 hi y p O q;have m:i<n:=by lia
  show codeAny_builtin ml ?_;rw[Around.under_plainId gh _];change wpAny _ A.in1 (pyNext (.ref I) >>= _) _ _ s;show Wb<|W.item i s _ _ m y λv s' Y a4 f=>?_;have a5:=a6 i v Y;subst a5;have S:∀j,j<n->IsTup s'.heap (ad j) #[B j,C j]:=λj l=>by
   let(o,x,r):=O j l;show{o,f.heap _ o ((λi hi h=>F i hi<|B1 _ h) j l) x,r}
  let(T,K,u,nt,H):=S i m;show Wb<|wpAny_holding (Wb<|wpAny_tryCatch ?_);unfold Builtin.Dict.pairItems;show Wb<|wpAny_typeOf (⟨T,K,u⟩) ?_;rw[A6 (by decide)];generalize X:dictSet=DS;let(hp,g,a9,t,os):=s';let(b1,b3,b2,c0):=T;simp only at u H;subst u H
  repeat (any_goals (first|assumption|with_reducible show wpAny_loadPart_at K ?_|wp_step))
  subst X;show step i _ _ _ m (D _ _ _ p f.heap) λh' c1 N a3 U=>?_;have L:SameBut d hp h':=a3;have J:∀b o,b∉d::wr->hp.get? b=some o->h'.get? b=some o:=λb o c e=>by
   rw[L.2 b λz:b=d=>c (by grind)];show e
  show Wp {plainId_quiet gh _,(a7 (i+1) _ _ (by lia) m (W.frame _ _ _ _ a4 N λb c o e=>?_) U (λj l=>?_) λa8 a2 V=>?_)}
  .rw[L.2 b λh:b=d=>Z (by grind)];show e
  .let(o,x,r):=S j l;show{o,J _ o (F j l) x,r}
  .show q a8 (Moved.trans W.gtrans ((f.mono M).then_heap N λb o c e=>J b o c e) a2) V
end
section
variable{prog:zi}{w:xr}{A:xx}{E:zy->zn->Prop}{s:zn}
theorem mq{l:zv}{items:Array zy}{n:Nat}{B:Array (Option zy)}{Q:zy->zn->Prop}(u:A.handled=none)(x:s.heap.get? l=some {cls:=.type "list",dict:=none,data:=.seq items n,slots:=B})(ad:Nat->zv)(m p:Nat->zy)(O:∀(i:Nat) (v:zy),items[i]?=some v->v=Value.ref (ad i))(y:∀i,i<items.size->IsTup s.heap (ad i) #[m i,p i])(a:Nat->qq->Prop)(K:∀h',h'.get? s.heap.objs.size=some {cls:=.type "dict",data:=.dict #[]}->(∀b o,s.heap.get? b=some o->h'.get? b=some o)->a 0 h')(W:∀i (c h':qq),a i c->(∀b o,b<=s.heap.objs.size->c.get? b=some o->h'.get? b=some o)->a i h')(step:∀i (s':zn) (E:zy->zn->Prop) (Q:Unit->zn->Prop),i<items.size->a i s'.heap->(∀h' tk,s'.toks<=tk->SameBut s.heap.objs.size s'.heap h'->a (i+1) h'->Q () {s' with heap:=h',toks:=tk}) ->
   wpAny (model prog w) A.in1.in1 (dictSet s.heap.objs.size (m i)<|p i) Q E s')(c:∀h' tk,a items.size h'->(∀b o,s.heap.get? b=some o->h'.get? b=some o)->Q (.ref s.heap.objs.size) {s with heap:=h',toks:=tk}):
  wpAny (model prog w) A (call (.type "dict") [.ref l]) Q E s:=by
 show callType_codes (Q₁:=λz C=>z=.ref s.heap.objs.size/\C={s with heap:=s.heap.push {cls:=.type "dict",data:=.dict #[]}}) F.kt_called_dict (F.kt_typeCall_dict_1 _) F.entry_dict_init (kt_code_dict_new _ ⟨rfl,rfl⟩) ?_;rintro z C ⟨rfl,rfl⟩;have j:(s.heap.push {cls:=.type "dict",data:=.dict #[]}).get? s.heap.objs.size=some {cls:=.type "dict",data:=.dict #[]}:=A5 _ rfl;have t:Shared.TypeIs {s with heap:=s.heap.push {cls:=.type "dict",data:=.dict #[]}} (.ref s.heap.objs.size) "dict":=⟨_,j,rfl⟩
 have h:(s.heap.push {cls:=.type "dict",data:=.dict #[]}).get? l=some {cls:=.type "list",dict:=none,data:=.seq items n,slots:=B}:=A0 _ x;show{t,F.args_dict_init_2 _ _,?_};unfold Builtin.«dict.__init__»;show Wb ?_;unfold Builtin.Dict.selfAndRest;show Wb<|wpAny_notOrdered_dict t ?_;change wpAny _ _ (pure (s.heap.objs.size,[Value.ref l])) _ _ _;show Wp ?_;change wpAny _ _ (Builtin.Dict.updateFrom "dict.__init__" s.heap.objs.size (.ref l) [] .none) _ _ _;unfold Builtin.Dict.updateFrom;show Wb<|wpAny_typeOf (⟨_,h,rfl⟩) ?_;rw[A6 (by decide)];show Wb<|Av h (show A.in1.in1.handled=none by simp[u]) λh1 Z R=>?_;have d:∀b o,(s.heap.push {cls:=.type "dict",data:=.dict #[]}).get? b=some o->h1.get? b=some o:=R;have q:h1.IsList l items:=⟨_,d _ _ h,rfl,n,rfl⟩;show Wb<|wpAny_rule (Wb<|wpAny_pyIter_list q ?_);have N:s.heap.objs.size<h1.objs.size:=B5<|d _ _ j;have k0:∀b o,s.heap.get? b=some o->h1.get? b=some o:=λb o e=>d b o<|A0 _ e;have X:∀i,i<items.size->ad i<s.heap.objs.size:=λi g=>by
  let(o,k,_):=y i g;show B5 k
 show Wp {plainId_quiet gh _,vF (A:=A.in1) ((Walks.list (show A.in1.in1.handled=none by simp[u]) h1.objs.size l (C2<|Nat.lt_trans (B5 x) N) items).toS) s.heap.objs.size ?hdf ad m p O ?had a ?hD' (λi s' E Q g L S=>step i s' E Q g L S)
  (items.size-0) 0 _ 0 (by lia) (CI _) {{_,A5 _ rfl,rfl,rfl},q.push _} ?hD0' ?ht' λs' f M=>?_}
 case hdf =>
  grind
 case had =>
  grind
 case hD' =>
  grind
 case hD0' =>
  show K _ (A0 _<|d _ _ j) λb o e=>A0 _<|k0 b o e
 case ht' =>
  intro T P;let(o,k,r):=y T P;show{o,A0 _<|k0 _ _ k,r}
 let(h',J,D,V,U):=s';have H:J=s.gens:=f.gens;have G:D=s.drawn:=f.drawn;have I:U=s.os:=f.os;subst H;subst G;subst I;show{rfl,c h' V M λb o e=>?_};have Y:b<s.heap.objs.size:=B5 e;show f.heap b o ?_<|A0 _ (k0 b o e)
 grind
end
end DL
namespace L2
open PySem PySem.Spec PyProof.Rows
section
variable{X:Cx}
theorem xF{e:List _}{h:St}{H:Hp}{s:zn}(b:Inv X e h H s){a:zv}{x y:V}(c:H a=some (.tup [x,y])):∃u v,aH x u/\aH y v/\IsTup s.heap a #[u,v]:=by
 let(_,its,r,d):=b.hok a _ c;cases r with
 |cons f r =>
  cases r with
  |cons g r=>cases r;show{_,_,f,g,by simpa using d}
theorem xG{κ:Type}{l:List _}{m:St}{H:Hp}{s:zn}(i:Inv X l m H s){zs:List _}(g:zv×κ×V->V)(j:∀z∈zs,H z.1=some (.tup [g z,z.2.2])):
  ∃f:zv×κ×V->zy×zy,∀z∈zs,aH (g z) (f z).1/\aH z.2.2 (f z).2/\IsTup s.heap z.1 #[(f z).1,(f z).2]:=by
 have d:∀z:zv×κ×V,∃p:zy×zy,z∈zs->aH _ p.1/\aH _ p.2/\IsTup _ z.1 #[p.1,p.2]:=λz=>by
  by_cases e:z∈zs
  .let(u,v,a,b,c):=xF i<|j z e;show{(u,v),λ_=>⟨a,b,c⟩}
  .show{(.none,.none),λh=>absurd h e}
 show{λz=>Classical.choose<|d z,λz k=>Classical.choose_spec (d z) k}
theorem cI{α:Type}{l:List α}{i:Nat}{d:α}(h:i<l.length):l.getD i d∈l/\l[i]?=some (l.getD i d):=by
 rw[Bm,A2 h];show{F6 h,rfl}
theorem vG{κ:Type}{zs:List _}{d:zv×κ×V}{i:Nat}{v:zy}(h:(((zs.map (·.1)).map Value.ref).toArray)[i]?=some v):v=Value.ref (zs.getD i d).1:=by
 have h':((zs.map (·.1)).map Value.ref)[i]?=some v:=by simpa using h
 rw[B7,B7]at h';rw[Bm];cases e:zs[i]? with
 |none=>rw[e]at h';cases h'
 |some z=>rw[e]at h';show(Option.some.inj h').symm
theorem nR{α:Type}{l:List α}{i:Nat}{x:α}(h:l[i]?=some x):l.take (i+1)=l.take i++[x]:=by rw[take_succ,h];rfl
def eU(zs:List<|zv×Key×V):List (Key×V):=zs.foldl (λm z=>bW m z.2.1 z.2.2) []
theorem sC{α:Type}[DecidableEq α](m:List _)(k:α)(v:zy):(stored m k v).length<=m.length+1:=by
 unfold stored
 split
 .rw[A1];lia
 .rw[B0];show A8 _
theorem fg{b:Type}(k:b->Key)(v:b->zy):∀(l:List b)(m:List _),(l.foldl (λm z=>stored m (k z)<|v z) m).length<=m.length+l.length
 |[],m=>A8 _
 |a::l,m=>by
  rw[foldl_cons];have h1:=fg k v l<|stored m (k a) (v a);have h2:=sC m (k a)<|v a;rw[CC]
  lia
theorem nU{f:zv×Key×V->zy×zy}:∀{ys:List _}{m:List _}{n:List _},KV m n->(∀z∈ys,aH z.2.2 (f z).2)->KV (ys.foldl (λm z=>bW m z.2.1 z.2.2) m) (ys.foldl (λm z=>stored m z.2.1 (f z).2) n)
 |[],m,n,r,_=>r
 |z::ys,m,n,r,h=>by
  rw[foldl_cons,foldl_cons];show nU (r.put _<|h z B4) λy hy=>h y<|B1 _ hy
theorem kJ(D:X.calm=true):cq X (.type "dict") (λxs H Q=>∃l,∃zs:List<|zv×Key×V,xs=[.ref l]/\H l=some (.lst<|(zs.map (·.1)).map V.ref)/\(∀z∈zs,H z.1=some (.tup [kV z.2.1,z.2.2]))/\zs.length<=900/\((∀d o,H d=none->Q (.ref d) (upd H d<|.frz o (.dK<|eU zs)))\/∀d,H d=none->Q (.ref d) (upd H d<|.dK (eU zs)))):=by
 intro pins s σ H xs us Q I r h;let(l,zs,rfl,J,k,A,q):=h;let(u,rfl,O):=cD r;cases O;let(_,its,T,P,n):=I.hok l _ J;have e:=eD P;subst e;let(f,c):=xG I (λz=>kV z.2.1) k;have p:(((zs.map (·.1)).map Value.ref).toArray).size=zs.length:=by simp
 show DL.mq (s:=s) (I.ok.hd D) n (λi=>(zs.getD i (0,.inl 0,.non)).1) (λi=>(f<|zs.getD i (0,.inl 0,.non)).1) (λi=>(f<|zs.getD i (0,.inl 0,.non)).2) (λi v N=>vG N) (λi hi=>?_)
  (λi h'=>h'.DictOf (aR X.prog X.w) s.heap.objs.size<|(zs.take i).foldl (λm z=>stored m z.2.1 (f z).2) []) (λh' j _=>?_) (λi g R a k=>?_) (λi s' E Q hi a M=>?_) λh' tk a x=>?_
 .rw[p]at hi;show(c _ (cI hi).1).2.2
 .show{_,#[],0,j,⟨rfl,rfl,rfl⟩,rfl,λ_ G=>by simp at G,Pairs.nil,nodup_nil}
 .let(o,es,C,n,r):=a;show{o,es,C,k _ o (A8 _) n,r}
 .rw[p]at hi;let(K,j):=cI hi;have b:=fg (λz:zv×Key×V=>z.2.1) (λz=>(f z).2) (zs.take i) [];rw[D6,F9]at b;show wpAny_dictSet_pairs (gK (c _ K).1) a λh' F hs=>M h' _ (le_succ _) hs ?_;rw[nR j,List.foldl_append];show F
 .rw[p,take_length]at a;have y:KV (eU zs) (zs.foldl (λm z=>stored m z.2.1 (f z).2) []):=nU .nil λz A=>(c z A).2.1;have b:=fg (λz:zv×Key×V=>z.2.1) (λz=>(f z).2) zs [];rw[F9]at b;have S:(eU zs).length<=900:=CL (le_of_eq<|Paired.length y)<|CL b (by lia);have t:∀H':Hp,cS X.prog X.w H' h' s.heap.objs.size (.dK<|eU zs):=λH'=>lP (F1<|aU (by lia)) (D5.mpr<|CD (C2 I.big)) y a;let(B,_,_,L,_):=a;rcases q with q|q
  .show{.ref s.heap.objs.size,_,I.laid (t':=tk) (o:=.frz B<|.dK (eU zs)) x (A8 _) ⟨L,t _⟩,rfl,q _ B<|I.hok.fresh (A8 _)}
  .show{.ref s.heap.objs.size,_,I.laid (t':=tk) (o:=.dK<|eU zs) x (A8 _)<|t _,rfl,q _<|I.hok.fresh (A8 _)}
theorem nV:∀(zs:List<|zv×Key×V)(m:List _),(m.map (·.1)++zs.map (·.2.1)).Nodup->zs.foldl (λm z=>bW m z.2.1 z.2.2) m=m++zs.map (·.2)
 |[],m,_=>(append_nil m).symm
 |z::zs,m,h=>by
  rw[foldl_cons,show bW m _ _=m++[z.2]from A4 (by grind)];rw[nV zs _ (by simpa using h),append_assoc];rfl
theorem nW{zs:List _}(h:(zs.map (·.2.1)).Nodup):eU zs=zs.map (·.2):=nV zs [] h
theorem sE(c:X.calm=true):cq X (.type "dict") (λxs H Q=>∃l,∃zs:List<|zv×Key×V,xs=[.ref l]/\H l=some (.lst<|(zs.map (·.1)).map V.ref)/\(∀z∈zs,H z.1=some (.tup [kV z.2.1,z.2.2]))/\zs.length<=900/\(zs.map (·.2.1)).Nodup/\∀d o,H d=none->Q (.ref d) (upd H d<|.frz o (.dK<|zs.map (·.2)))) :=
 λpins s σ H xs us Q I r ⟨l,zs,h1,h2,h3,a,b,q⟩=>kJ c _ s σ H xs us Q I r {l,zs,h1,h2,h3,a,.inl (nW b ▸ q)}
theorem cx(c:X.calm=true):cq X (.type "dict") (λxs H Q=>∃l,∃zs:List<|zv×Key×V,xs=[.ref l]/\H l=some (.lst<|(zs.map (·.1)).map V.ref)/\(∀z∈zs,H z.1=some (.tup [kV z.2.1,z.2.2]))/\zs.length<=900/\(zs.map (·.2.1)).Nodup/\∀d,H d=none->Q (.ref d) (upd H d<|.dK (zs.map (·.2)))) :=
 λpins s σ H xs us Q I r ⟨l,zs,h1,h2,h3,a,b,q⟩=>kJ c _ s σ H xs us Q I r {l,zs,h1,h2,h3,a,.inr (nW b ▸ q)}
end
inductive RawD(h:qq)(d:zv)(es:Array DictEntry)(ep:Nat):Prop
 |mk o (_:h.get? d=some o) (_:o.ExactDict) (_:o.data=.dict es ep)
section
variable{prog:zi}{w:xr}{A:xx}{E:zy->zn->Prop}{s:zn}
theorem xH{d:zv}{e:Array _}{c:Nat}{Q:zy->zn->Prop}(i:(d==sysModules)=false)(j:RawD s.heap d e c)(g:Q (.ref s.heap.objs.size) {s with heap:=s.heap.push {cls:=.type "dict_keyiterator",data:=.fields #[.ref d,.int 0 0,.int e.size 0,.int c 0]}}):
  wpAny (model prog w) A (pyIter<|.ref d) Q E s:=by
 let(o,b,h,f):=id j;have a:s.TypeIs (.ref d) "dict":=⟨o,b,h.1⟩;show wpAny_pyIter_slot a PySem.F.slot_dict_iter<|wpAny_call_entry PySem.F.slot_dict_iter a PySem.F.entry_dict_iter (Wb ?_) (PySem.F.args_dict_iter_1 _);show Wb<|wpAny_notOrdered_dict a ?_;change wpAny _ _ _ _ _ s;show Wp ?_;change wpAny _ _ (Builtin.Dict.showsAll d >>= _) _ _ s;unfold Builtin.Dict.showsAll;rw[A4 (by rw[i];show C4)];show Wb<|Wp (Wb<|wpAny_dictEntries b f ?_);show Wb<|wpAny_dictEpoch b f (Wb<|wpAny_newObj_type (Wp {_,rfl,"dict_keyiterator",_,{_,A5 _ rfl,rfl},PySem.F.slot_dict_keyiterator_next.lookup,?_}));simpa [rawInt]using g
theorem qJ{g d:zv}{i ep:Nat}{f:Array DictEntry}{Q:Option zy->zn->Prop}(v:A.handled=none)(c:s.heap.IsKeyIter g d i f.size ep)(x:RawD s.heap d f ep)(t:∀e h',f[i]?=some e->h'.IsKeyIter g d (i+1) f.size ep->SameBut g s.heap h'->Q (some e.key) {s with heap:=h'})(r:f.size<=i->∀h',ExtBut g s.heap h'->Q none {s with heap:=h'}):
  wpAny (model prog w) A (pyNext<|.ref g) Q E s:=by
 let(o,j,u,h):=id c;let(B,q,z,l):=id x;unfold pyNext;show Wb<|wpAny_attempt (wpAny_callSpecial?_slot (name:=ofString "__next__") c.typeIs PySem.F.slot_dict_keyiterator_next
  (wpAny_call_entry PySem.F.slot_dict_keyiterator_next c.typeIs PySem.F.entry_dict_keyiterator_next (Wb<|Wp ?_)<|PySem.F.args_dict_keyiterator_next_1 _))
 show Wb<|Wb ?_
 first|show Wb (wpAny_typeNameOfWhole_keyiter c.typeIs<|Wp ?_)|show Wb<|wpAny_typeNameOf_keyiter c.typeIs (Wp ?_)
 show Wb<|wpAny_fieldsOf j h ?_;have y:Builtin.Dict_items.ownsTuple "dict_keyiterator"=false:=by decide
 simp only[y,C9,CO];change wpAny _ _ _ _ _ s;show Wb<|Wp (Wb<|wpAny_dictEntries q l ?_);rw[A4 (by simp)];show Wb<|Wp (Wb<|wpAny_dictEpoch q l ?_);rw[A4 (by simp)];show Wp ?_
 by_cases k:i<f.size
 .simp only[show ¬((i:Int)<0)from by lia,CO,toNat_natCast,C1 k];show Wb ?_
  first|show Wb (wpAny_typeNameOfWhole_keyiter c.typeIs<|Wp ?_)|show Wb<|wpAny_typeNameOf_keyiter c.typeIs (Wp ?_)
  show Wb<|wpAny_isOneOf_keyiter c.typeIs ?_;change wpAny _ _ (setField (.ref g) 1 (rawInt<|(i:Int)+1) >>= _) _ _ s;show Wb<|wpAny_setField j h (by simp) ?_;have p:(s.heap.update g<|Obj.mapFields (·.setIfInBounds 1 (rawInt<|(i:Int)+1))).IsKeyIter g d (i+1) f.size ep :=
   ⟨_,get?_update_self _ j<|Obj.isFreed_of_fields (Obj.data_mapFields h _),(Obj.cls_mapFields ..).trans u,by rw[Obj.data_mapFields h];simp[rawInt]⟩
  show Wb<|wpAny_holding (Wb<|wpAny_isOneOf_keyiter p.typeIs ?_);change wpAny _ _ (pure f[i].key) _ _ _;show Wp<|Wp ⟨_,rfl,Wp<|t _ _ (C1 k) p (CA ..)⟩
 .have n:f.size<=i:=Nat.le_of_not_lt k;simp only[show ¬((i:Int)<0)from by lia,CO,toNat_natCast,Array.getElem?_eq_none n];show Wb ?_
  first|show Wb (wpAny_typeNameOfWhole_keyiter c.typeIs<|Wp ?_)|show Wb<|wpAny_typeNameOf_keyiter c.typeIs (Wp ?_)
  change wpAny _ _ (setField (.ref g) 0 .none >>= _) _ _ s;show Wb<|wpAny_setField j h (by simp) ?_;change wpAny _ _ (newExc (.type "StopIteration") [] >>= _) _ _ _;show Wb ?_;simp only[newExc,newTuple];show Wb<|wpAny_newObj_type (Wb (m:=firstArgMember _ _)<|wpAny_of_eq (a:=Value.none) (by first|rfl|(simp only[firstArgMember];rfl)) ?_) (by size_fits)
  show wpAny_newObj_type ?_ (by size_fits);simp only[raiseNew];show Wb<|wpAny_handled ?_;rw[show A.in1.handled=none from v];show Wb<|Wp (wpAny_throw ?_);show Wb<|wpAny_isInstance (T:="StopIteration") (b:=true) {_,A5 _ rfl,rfl} isSubtype_stop (Wp<|r n _ (((CA ..).extBut.push _).push _))
end
def Itk(d:zv)(o:Obj)(u:HO)(ks:List V):It:={λi H=>H d=some (.frz o u)/\i<ks.length,λi H x H'=>H'=H/\ks[i]?=some x,λi H=>H d=some (.frz o u)/\ks.length<=i}
theorem vH{P:zi}{w:xr}{K:Frag}{U:Expr}{d it:zv}{o:Obj}{u:HO}{a:Array DictEntry}{F:Nat}{ks:List V}(L:o.ExactDict)(G:o.data=.dict a F)(C:aB ks<|a.toList.map (·.key)):
  Turn P w K U (Itk d o u ks) [it] it (λi h=>h.IsKeyIter it d i a.size F) where
 mem:=by simp
 obj:=λi h st b f=>by
  have e:b=it:=by simpa using f
  subst e;let(o,e,c,d):=st;show{o,e,λv z=>by rw[d]at z;cases z}
 keep:=λi h h' st k=>st.at λo e=>k it (by simp) o e
 item:=by
  intro X t D r x i pins s σ H E I g st A;subst t D r;let(q,hi):=A;have R:ks.length=a.size:=by rw[C.length,A1,B6]
  have B:i<a.size:=by lia
  let(v,J,S):=C.get<|A2 hi;let(j,l,Q,m,n,p):=g it (by simp);have O:v=a[i].key:=by
   rw[B7,F0,C1 B]at J;show(Option.some.inj J).symm
  show qJ (I.ok.hd x) st {o,((I.hok d _ q).1),L,G} (λ_ h' y M T=>?_) λh=>absurd B<|not_lt.mpr h;cases (C1 B).symm.trans y;let(Y,e,c,dd):=id M;show{_,rfl,qe (s:={s with heap:=h'}) e c dd (by decide) {ks[i],H,(I.turned (t':=s.toks) (λb o f e=>(T.2 b f).trans e) j l m n p),O ▸ S,{rfl,A2 hi},M,λb f=>(g b f).1}}
 done:=by
  intro X t D r x i pins s σ H E I g st A;subst t D r;let(q,hi):=A;have R:ks.length=a.size:=by rw[C.length,A1,B6]
  let(j,l,Q,m,n,p):=g it (by simp);show qJ (I.ok.hd x) st {o,((I.hok d _ q).1),L,G} (λ_ _ y=>by have:=(Array.getElem?_eq_some_iff.mp y).1;lia) λ_ h' N=>{rfl,I.turned (t':=s.toks) (λb o f e=>N b o f e) j l m n p}
 self:=λ_ _ _ _ _ st h=>wpAny_pyIter_keyiter st h
section
variable{X:Cx}{tg:Expr}
def iDF(a:TE):TI:=λσ H R=>a σ H λv H1=>∃d o kvs,v=.ref d/\H1 d=some (.frz o<|.dK kvs)/\R (Itk d o (.dK kvs)<|kvs.map λp=>kV p.1) H1
theorem BN{l:List _}{m:St}{H:Hp}{s:zn}{D:Expr}{R:It->Hp->Prop}{d:zv}{o:Obj}{kvs:List _}(a:Inv X l m H s)(n:H d=some (.frz o<|.dK kvs))(q:R (Itk d o (.dK kvs)<|kvs.map λp=>kV p.1) H):wpAny (model X.prog X.w) X.A (pyIter<|.ref d) (PIE X l m D R) X.xe s:=by
 let(h,_,v,vs,C,o',es,E,j,k,g,F,hp,G):=a.hok d _ n;rw[h]at j;cases j;show xH v ⟨o,h,k,g⟩ {s.heap.objs.size,[s.heap.objs.size],_,_,H,rfl,a.kept λb o e=>A0 _ e,vH k g ?_,{_,A5 _ rfl,rfl,rfl},λb u=>?_,q}
 .have key:∀(es:List DictEntry)(vs:List _)(kvs:List _),Pairs (aR X.prog X.w) es vs->KV kvs vs->aB (kvs.map λp=>kV p.1) (es.map (·.key)):=by
   intro es vs kvs hp
   induction hp generalizing kvs with
   |nil=>intro r;cases r;show .nil
   |cons h1 h2 _ y =>
    intro r;cases r with
    |cons z B =>
     show .cons ?_<|y _ B;dsimp only;rw[z.1];rcases be h1 with⟨i,t,c,f⟩|⟨x,t,c,f⟩
     .rw[c,f];show⟨t,rfl⟩
     .rw[c,f];show⟨t,rfl⟩
  show key _ _ _ hp C
 .have e:b=s.heap.objs.size:=by simpa using u
  subst e;show a.fpOk (A8 _)<|a.hok.fresh (A8 _)
theorem BO{l:Expr}{a:TE}(f:PE X l a):PI X tg l (iDF a):=by
 intro pins s σ H R I h;show thn (f _ s σ H _ I h) λv s1 g=>?_;let(x,H1,b,j,i):=g;let(d,o,kvs,e,c,q):=i;subst e;cases j;show BN b c q
end
theorem vI:typeLookup (.type "list_reverseiterator") "__len__"=pure none:=by kernel_rfl
theorem xI:typeLookup (.type "list_reverseiterator") "__length_hint__"=pure (some<|.builtin "list_reverseiterator.__length_hint__"):=by kernel_rfl
theorem Aw:isSubtype (.type "list_reverseiterator") (.type "list_reverseiterator")=pure true:=by kernel_rfl
section
variable{prog:zi}{w:xr}{A:xx}{E:zy->zn->Prop}{s:zn}
theorem qK{I l:zv}{items:Array zy}{Q:List zy->zn->Prop}(H:A.handled=none)(m:s.heap.IsRevIter I l<|(items.size:Int)-1)(p:s.heap.IsList l items)(M:l≠I)(L:items.size<=sizeLine)(z:∀h' tk d,(∀b o,b≠I->s.heap.get? b=some o->h'.get? b=some o)->d=items.toList.reverse->Q d {s with heap:=h',toks:=tk}):wpAny (model prog w) A (collect<|.ref I) Q E s:=by
 have W:=(Walks.listRev (prog:=prog) (w:=w) (show A.in1.handled=none by simp[H]) I l M items).toS;let(T,N,_):=id m;let(U,O,_):=id p;have q:I<s.heap.objs.size:=B5 N;have D:s.heap.objs.size∉[I,l]:=by
  simp only[B3,CU,G3,not_or];show{F8 q,F8<|B5 O}
 have C:s.heap.objs.size≠I:=F8 q;have key:∀(s':zn)(d:Array zy),Moved [I] (λa b=>b=a) s s'->ItemsOf (λi v=>items[items.size-1-i]?=some v) d items.size->Q d.toList s':=by
  intro s' d f g;let(h',y,r,R,P):=s';have u:y=s.gens:=f.gens;have t:r=s.drawn:=f.drawn;have x:P=s.os:=f.os;subst u;subst t;subst x;show z h' R d.toList (λb o G e=>f.heap b o (by simpa using G) e) ?_;apply ext_getElem?;intro i;rw[F0]
  by_cases hi:i<items.size
  .have J:i<d.size:=by rw[g.1];show hi
   have n:d[i]?=some d[i]:=C1 J;rw[List.getElem?_reverse (by simpa using hi),n,B6,F0];show(g.2 i _ n).symm
  .rw[Array.getElem?_eq_none (by rw[g.1];lia),F7 (by simp;lia)]
 have k:∀o,(λ(i:Nat) (h:qq)=>i<=items.size/\h.IsRevIter I l ((items.size:Int)-1-(i:Int))/\h.IsList l items) 0 (s.heap.push o):=λo=>by
  show{CI _,?_,?_}
  .rw[show(items.size:Int)-1-((0:Nat):Int)=(items.size:Int)-1 by lia];show m.at λo' e=>A0 _ e
  .show p.push _
 unfold collect;show Wb<|wpAny_runValue (codeAny_builtin PySem.F.entry_proto_collect ?_);rw[Around.under_plainId PySem.F.plain_proto_collect _];change wpAny _ A.in1 (newList [] >>= λl=>again<|.builtin "list.__iadd__" {[l,.ref I],[]}) _ _ s;show Wb<|wpAny_newObj_type (Wp {plainId_quiet plain_list_iadd _,codeAny_builtin PySem.F.entry_list_iadd ?_});rw[Around.under_plainId plain_list_iadd _];have j:Shared.TypeIs {s with heap:=s.heap.push {cls:=.type "list",data:=.seq ([]:List zy).toArray}} (.ref I) "list_reverseiterator":=((k _).2.1).typeIs
 have h1:Builtin.List.listSameRef (.ref s.heap.objs.size) (.ref I)=false:=by simp[Builtin.List.listSameRef,C]
 change wpAny _ A.in1 (Builtin.List.listExtendWith (.ref s.heap.objs.size) (.ref I)<|.ref s.heap.objs.size) _ _ _;unfold Builtin.List.listExtendWith;show Wb<|wpAny_typeOf j ?_;rw[A4 (by rw[h1];decide)];show Wb<|W.self 0 _ _ _ (k _) (Wb<|wpAny_holding ?_);unfold Builtin.List.listLengthHint;show Wb<|wpAny_specialOf j vI ?_;change wpAny _ A.in1 (specialOf (Value.ref I) (ofString "__length_hint__") >>= _) _ _ _;show Wb<|wpAny_specialOf j xI ?_;generalize K:("list_reverseiterator.__length_hint__":String)=S
 wp_delta
 subst K;show Wb<|wpAny_isInstance (b:=true) j Aw (Wp ?_);rw[A4 (by decide)];show Wp {plainId_quiet PySem.F.plain_extend_loop _,codeAny_extend_loopS W L _ D _ items.size 0 _ _ _ rfl (CI _) (k _) (A5 _ rfl) (ItemsOf.nil _) λs' d c f B g=>?_};change wpAny _ A (load s.heap.objs.size >>= _) _ _ s';show Wb<|wpAny_load B (Wp<|key s' d (Moved.drop_new (o:={cls:=.type "list",data:=.seq ([]:List zy).toArray}) (tk:=s.toks) f<|A8 _) g)
theorem mr{a l:zv}{items:Array zy}{Q:zy->zn->Prop}(j:A.handled=none)(f:s.heap.IsRevIter a l<|(items.size:Int)-1)(m:s.heap.IsList l items)(n:l≠a)(g:items.size<=sizeLine)(h:∀(h':qq) (tk:Nat),(∀b o,b≠a->s.heap.get? b=some o->h'.get? b=some o)->Q (.ref h'.objs.size) {s with heap:=h'.push {cls:=.type "tuple",data:=.seq items.toList.reverse.toArray},toks:=tk}):
  wpAny (model prog w) A (call (.type "tuple") [.ref a]) Q E s:=by
 show callType_codes (Q₁:=λc d=>d.TypeIs c "tuple"/\Q c d) called_tuple (PySem.F.typeCall_tuple_1 _) PySem.F.entry_object_init ?_ λc d e=>?_
 .show codeAny_of_tree ?_;change wpAny _ A.in1.in1 _ _ _ s;show Wb<|wpAny_of_eq (PySem.F.newCall_tuple_1 _) (Wp {plainId_quiet PySem.F.plain_tuple_new _,codeAny_builtin PySem.F.entry_tuple_new ?_});rw[Around.under_plainId PySem.F.plain_tuple_new _];have u:=sub_tuple_self;have r:=init_tuple_lookup;have t:=madeHere_tuple
  wp_walk using wpAny_typeOf f.typeIs,qK (show A.in1.in1.handled=none by simp[j]) f m n g
  intro h' tk q k i;subst i;show Wb<|Wp ?_;change wpAny _ _ _ _ _ _;have p:items.toList.reverse.toArray.size<=sizeLine:=by simpa using g
  show Wb<|wpAny_newObj_type (Wp {{_,A5 _ rfl,rfl},h h' tk k}) p
 .show{e.1,PySem.F.args_object_init_2 c _,object_init_meets called_tuple.init.lookup called_tuple.made (by decide) prog w A.in1 _ d ⟨e.1,rfl,e.2⟩}
end
section
variable{X:Cx}
def Ax(a:TE):TE:=λσ H Q=>nD a wQ σ H λvs H1=>∃l ys,vs=[.ref l]/\H1 l=some (.lst ys)/\∀p,H1 p=none->Q (.ref p) (upd H1 p<|.tup ys.reverse)
theorem vJ{e:Expr}{t:TE}{a G c F:Pos}(x:X.calm=true)(z:Gl X "tuple")(D:X.mg "tuple"=none)(A:Gl X "reversed")(E:X.mg "reversed"=none)(y:PE X e t)(m:starEach [e] X.env=[(false,eval e X.env)]:=by rfl)(p:starEach [.Call (.Name "reversed" a) [e] [] c] X.env=[(false,eval (.Call (.Name "reversed" a) [e] [] c) X.env)]:=by rfl):
  PE X (.Call (.Name "tuple" G) [.Call (.Name "reversed" a) [e] [] c] [] F) (Ax t):=by
 intro pins s σ H Q I h;show wpAny_Call_Name_kw<|fe I z D boot_tuple (E3 ?_ p rfl) (by decide) (by decide);rw[p];show spliced_cons<|wpAny_Call_Name_kw (fe I A E PyProof.Rows.boot_reversed ?_ (by decide) (by decide));show E3 (thn ((aa y ae m) c pins s σ H _ I h) λus r ⟨vs,H1,d,J,a⟩=>?_) m rfl;let(l,ys,rfl,C,q):=a;let(u,rfl,K):=cD J;cases K;let(j,its,n,k,i):=d.hok l _ C;have g:r.heap.IsList l its.toArray:=⟨_,i,rfl,n,rfl⟩;show call_reversed_list g<|spliced_nil ?_;show mr (items:=its.toArray) (I.ok.hd x) {_,A5 _ rfl,rfl,rfl} (g.push _) (C2<|B5 i) (by rw[B2,<-k.length];show j) λh' tk B=>?_;have f:Inv X pins σ H1 {r with heap:=h',toks:=tk}:=d.kept (t':=tk) λb o e=>B b o (C2<|B5 e)<|A0 _ e
 have v:its.toArray.toList.reverse.toArray=its.reverse.toArray:=by simp
 rw[v];show{.ref h'.objs.size,_,(f.laid (t':=tk) (λb o e=>A0 _ e) (A8 _) (show cS X.prog X.w _ _ _ (.tup ys.reverse)from{by rw[List.length_reverse];show j,its.reverse,k.reverse,IsTup.new _ _})),rfl,q _<|f.hok.fresh (A8 _)}
theorem Ay{P:zi}{w:xr}{kvs:List _}{vs:List _}{b:Array _}(n:KV kvs vs)(m:ItemsOf (λi v=>∃k x,vs[i]?=some (k,x)/\(aR P w).is k v=true) b vs.length):aB (kvs.map λp=>kV p.1) b.toList:=by
 let(h1,h2):=m;have c:b.toList.length=vs.length:=by simpa using h1
 have h3:∀(i:Nat)(v:zy),b.toList[i]?=some v->∃k x,vs[i]?=some _/\(aR P w).is k v=true:=λi v f=>h2 i v (by simpa using f);clear h1 h2;generalize b.toList=l at c h3
 induction n generalizing l with
 |nil =>
  cases l with
  |nil=>show .nil
  |cons a r=>simp at c
 |@cons p q kvs vs r _ ih =>
  cases l with
  |nil=>simp at c
  |cons a l =>
   show .cons ?_ (ih l (by simpa using c) λi v f=>by simpa using h3 (i+1) v (by simpa using f))
   let(k,x,g,h):=h3 0 a rfl;have j:q=(k,x):=by simpa using g
   change aH (kV p.1) a;rw[r.1,j];rcases be h with⟨i,t,d,e⟩|⟨y,t,d,e⟩
   .rw[d,e];show⟨t,rfl⟩
   .rw[d,e];show⟨t,rfl⟩
end
end L2
namespace HT
open PySem PyProof.Rows
def eV(x y:Str):Bool:=decide<|x.cps.toList<y.cps.toList
def cJ:List Str->List Str->Bool
 |[],[]=>false
 |[],_::_=>true
 |_::_,[]=>false
 |x::xs,y::ys=>if x=y then cJ xs ys else eV x y
theorem dA(x y:Str)(xs ys:List Str):cJ (x::xs) (y::ys)=if x=y then cJ xs ys else eV x y:=rfl
theorem pH:cJ [] []=false:=rfl
theorem mX(y:Str)(ys:List Str):cJ [] (y::ys)=true:=rfl
theorem mY(x:Str)(xs:List Str):cJ (x::xs) []=false:=rfl
theorem Az{x y:Str}(h:x.cps.toList=y.cps.toList):x=y:=by
 obtain⟨x⟩:=x
 simp_all
theorem nX(x:Str):eV x x=false:=B9<|List.lt_irrefl _
theorem qL{x y z:Str}(a:eV x y=true)(h2:eV y z=true):eV x z=true:=by
 unfold eV at *
 grind
theorem nY{x y:Str}(h:x≠y):eV x y=true\/eV y x=true:=by
 unfold eV;rw[C8,C8];rcases Decidable.em (x.cps.toList<y.cps.toList)with a|a
 .show .inl a
 .show .inr ?_;rcases Decidable.em (y.cps.toList<x.cps.toList)with b|b
  .show b
  .show absurd (Az<|List.le_antisymm (List.not_lt.mp b) (List.not_lt.mp a)) h
theorem ci:∀p:List Str,cJ p p=false
 |[]=>rfl
 |x::p=>by rw[dA,A6 rfl];show ci p
theorem jn:∀{p q r:List Str},cJ p q=true->cJ q r=true->cJ p r=true
 |[],[],_,h,_=>by cases h
 |[],_::_,[],_,h=>by cases h
 |[],_::_,_::_,_,_=>rfl
 |_::_,[],_,h,_=>by cases h
 |_::_,_::_,[],_,h=>by cases h
 |x::p,y::q,z::r,h1,h2=>by
  rw[dA]at h1 h2|-
  by_cases a:x=y
  .subst a;rw[A6 rfl]at h1
   by_cases b:x=z
   .rw[A6 b]at h2|-;show jn h1 h2
   .rw[A4 b]at h2|-;show h2
  .rw[A4 a]at h1
   by_cases b:y=z
   .subst b;rw[A4 a];show h1
   .rw[A4 b]at h2;have h3:=qL h1 h2;have c:x≠z:=λe=>by
     subst e;rw[nX]at h3;cases h3
    rw[A4 c];show h3
theorem qM:∀{p q:List Str},p≠q->cJ p q=true\/cJ q p=true
 |[],[],h=>absurd rfl h
 |[],_::_,_=>.inl rfl
 |_::_,[],_=>.inr rfl
 |x::p,y::q,h=>by
  rw[dA,dA]
  by_cases a:x=y
  .subst a;rw[A6 rfl,A6 rfl];show qM λe=>h (by rw[e])
  .rw[A4 a,A4<|CD a];show nY a
theorem xJ(A:xx)(s:zn)(a:Str)(t:Tok)(c:Str)(u:Tok):∃e,EqAt A s (.str a t) (.str c u) e/\(e=true↔a=c) :=
 {decide _,λprog w E Q h=>wpAny_eqBool_str h,by simp}
theorem xK(A:xx)(s:zn)(a:Str)(t:Tok)(c:Str)(u:Tok)(prog:zi)(w:xr)(E:zy->zn->Prop)(Q:zy->zn->Prop)(h:Q (.bool<|eV a c) s):
  wpAny (model prog w) A (richCompare .Lt (.str a t)<|.str c u) Q E s :=
 (lt_str h)
section
open PySem.SeqAt
open PySem.AutoSeq1 (wpAny_loadPart')
open PySem.MeetsSeq PySem.MeetsSeq2 PySem.MeetsSeq3
theorem mZ(l b:zv)(items j:Array zy)(n P:Nat)(E F:Option zv)(Q S:Array<|Option zy)(ns ms:List Str)(z:StrsAre items.toList ns)(C:StrsAre j.toList ms):
  Meets (Builtin.«tuple.__lt__» {[.ref l,.ref b],[]})
   (λ_ R s=>s.heap.get? l=some {cls:=.type "tuple",dict:=E,data:=.seq items n,slots:=Q}/\s.heap.get? b=some {cls:=.type "tuple",dict:=F,data:=.seq j P,slots:=S} /\
    R (.ok<|.ret (.bool<|cJ ns ms)) s) :=
 .of_wp λprog w A R s h=>by
  let(hp,g,d,tk,os):=s;let(I,G,h):=h;have V:=AutoSeq1.sub_tuple_tuple;have W:items.size=ns.length:=by rw[<-z.length];simp
  have X:j.size=ms.length:=by rw[<-C.length];simp
  wp_walk using wpAny_loadPart' I,wpAny_loadPart' G,wpAny_forIn_list _ (λrest b s'=>b.1=none/\s'=⟨hp,g,d,tk,os⟩/\∃(vs ws:List zy) (m k:List Str),rest=vs.zip ws /\
   StrsAre vs m/\StrsAre ws k/\m.length+j.size=k.length+items.size/\R (.ok<|.ret (.bool<|cJ m k)) ⟨hp,g,d,tk,os⟩) _
  case turn =>
   rintro⟨y,x⟩ rest b s' ⟨r,rfl,vs,ws,m,k,i,v,p,o,f⟩;cases v with
   |nil=>rw[List.zip_nil_left]at i;cases i
   |cons a t K =>
    cases p with
    |nil=>cases i
    |cons c u M =>
     injection i with O J
     injection O with hy N
     subst hy N;rw[dA]at f;simp only[CC]at o;let(e,H,B):=xJ A.in1 ⟨hp,g,d,tk,os⟩ a t c u;show Wb<|H prog w _ _ ?_;cases e with
     |true =>
      rw[A6<|B.mp rfl]at f
      wp_walk
      show{rfl,rfl,_,_,_,_,J,K,M,by lia,f}
     |false =>
      rw[A4 λq=>absurd (B.mpr q) C4]at f
      wp_walk using xK A.in1 ⟨hp,g,d,tk,os⟩ a t c u prog w
      show{_,rfl,by simpa using f}
  case fin =>
   rintro⟨T,U⟩ s' ⟨r,rfl,vs,ws,m,k,i,v,p,o,f⟩;simp only at r;subst r;have D:cJ m k=decide (items.size<j.size):=by
    cases v with
    |nil =>
     cases p with
     |nil =>
      simp only[F9]at o;rw[pH];show(B9 (by lia)).symm
     |cons c u L =>
      simp only[F9,CC]at o;rw[mX];show(C7 (by lia)).symm
    |cons a t D =>
     cases p with
     |nil =>
      simp only[F9,CC]at o;rw[mY];show(B9 (by lia)).symm
     |cons c u L =>
      rw[List.zip_cons_cons]at i;cases i
   rw[D]at f
   wp_walk
   show{_,rfl,by simpa [Builtin.Tuple.tupleCompareSizes]using f}
  case h =>
   show{rfl,rfl,items.toList,j.toList,ns,ms,rfl,z,C,by lia,h}
end
section
variable{prog:zi}{w:xr}{A:xx}{E:zy->zn->Prop}{s:zn}
theorem sF{l b:zv}{items d:Array _}{ns ms:List Str}{Q:zy->zn->Prop}(p:IsTup s.heap l items)(g:IsTup s.heap b d)(m:StrsAre items.toList ns)(o:StrsAre d.toList ms)(q:A.units<cLine)(f:Q (.bool<|cJ ns ms) s):wpAny (model prog w) A (compareOp .Lt (.ref l)<|.ref b) Q E s:=by
 let((cls,dd,y,t),a,h,n,j):=id p;let((v,e,data2,u),c,i,r,k):=id g;subst h j i k;show richCompare_meets_room (op:=.Lt) ⟨_,a,rfl⟩ ⟨_,c,rfl⟩ PySem.F.slot_tuple_lt PySem.F.entry_tuple_lt (PySem.F.args_tuple_lt_2 _ _) (mZ l b _ _ n r dd e t u ns ms m o)
  {a,c,{(λx=>nomatch x),f}} q
end
end HT
namespace L2
open PySem PySem.Spec PyProof.Rows
section
variable{X:Cx}
theorem vK{α:Type}{zs:List α}{val:α->V}{d:α}:∀{us:List _},aB (zs.map val) us->∀(ps:List Nat),(∀i∈ps,i<zs.length)->aB ((ps.map λi=>zs.getD i d).map val) (ps.map λi=>us.getD i Value.none):=by
 intro us f ps
 induction ps with
 |nil=>intro _;show .nil
 |cons i ps c =>
  intro h;show .cons ?_<|c λe a=>h e (by simp[a]);let(u,b,r):=f.get (by rw[B7,(cI (d:=d)<|h i (by simp)).2];rfl);have:us.getD i Value.none=u:=by rw[Bm,b];rfl
  change aH _ (us.getD i _);rw[this];show r
def Col(X:Cx)(s:zn)(l:zv)(xs:List V):Prop:=∀(A:xx)(E:zy->zn->Prop)(Q:List zy->zn->Prop),A.handled=X.A.handled ->
 (∀h1 tk us,(∀b o,s.heap.get? b=some o->h1.get? b=some o)->s.heap.objs.size<=h1.objs.size->aB xs us->Q us {s with heap:=h1,toks:=tk})->wpAny (model X.prog X.w) A (collect<|.ref l) Q E s
theorem Col.seq{s:zn}{l:zv}{xs:List V}{a:List _}(b:aB xs a)(pl:s.heap.IsList l a.toArray\/IsTup s.heap l a.toArray)(c:xs.length<=sizeLine):Col X s l xs :=
 λ_ _ _ _ h=>SRT.Ap pl (b.length ▸ c) λh1 k1 k2=>h h1 _ a k1 k2 b
theorem kK{α:Type}{zs:List α}{val:α->V}{d:α}{f:α->α->Bool}{l:zv}{D:List (zv×Obj)}{F:St}{H:Hp}{s:zn}{Q:VK}{κ:SortKind}{E:zy->zn->Prop}(v:Inv X D F H s)(I:Col X s l<|zs.map val)(O:SRT.Ord (λi j=>f (zs.getD i d)<|zs.getD j d) zs.length)(R:zs.length<64)(L:∀us,aB (zs.map val) us->∀(g:xx) (s':zn),g.units<=X.A.units+2->(∀b o,s.heap.get? b=some o->s'.heap.get? b=some o)->∀Q:SortKind->zn->Prop,2<=zs.length->Q κ s'->wpAny (model X.prog X.w) g (keyKind' us.toArray) Q (λ_ _=>False) s')(M:∀us,aB (zs.map val) us->∀(g:xx) (s':zn),g.units<=X.A.units+2->(∀b o,s.heap.get? b=some o->s'.heap.get? b=some o)->∀(i j:Nat) (C:Bool->zn->Prop),i<zs.length->j<zs.length->C (f (zs.getD i d)<|zs.getD j d) s'->wpAny (model X.prog X.w) g (keyLt' κ (us.getD i Value.none)<|us.getD j Value.none) C (λ_ _=>False) s')(q:∀u:List α,u.Perm zs->u.Pairwise (λa b=>f a b=true)->∀p,H p=none->Q (.ref p) (upd H p<|.lst (u.map val))):wpAny (model X.prog X.w) X.A (call (.builtin "sorted") [.ref l]) (EP X D F Q) E s:=by
 show Calls.call_function_entry kind_sorted plain_sorted entry_sorted (args_sorted1 _) ?_;unfold Builtin.«sorted»;show Wb (m:=checkCount "sorted" 1 1 _)<|Wp (Wb<|I _ _ _ rfl λh1 tk us k1 x k=>?_);have y:us.length=zs.length:=by rw[<-k.length,A1]
 show SRT.qG (s:={s with heap:=h1,toks:=tk}) (κ:=κ) (by rw[y];show O) (by lia) (λg s' t h2 G h3=>L us k g s' (by have:=t;simp only[Around.in1_units]at this;lia) (λb o e=>h2 b o<|k1 b o e) G (by lia)) (λg s' t h2 i j C hi r=>M us k g s' (by have:=t;simp only[Around.in1_units]at this;lia) (λb o e=>h2 b o<|k1 b o e) i j C (by lia) (by lia)) ?_;intro p h' h B P n;let(c,n):=n;rw[y]at h B;have z:(p.toList.map λi=>zs.getD i d).Perm zs:=by
  show(h.perm.map _).trans ?_;have:(List.range zs.length).map (λi=>zs.getD i d)=zs:=by
   apply ext_getElem?;intro i;rw[B7]
   by_cases hi:i<zs.length
   .rw[getElem?_range hi,(cI (d:=d) hi).2];rfl
   .rw[F7 (by rw[F4];lia),F7 (by lia)];rfl
  rw[this]
 have S:p.size=zs.length:=h.size;have N:(p.toList.map λi=>zs.getD i d).Pairwise (λa b=>f a b=true):=by
  rw[D2];intro i j hi r J;have K:j<p.size:=by rw[A1,B6]at r;show r
  have:=B i j J (by lia);simp only[]at this;rw[CB,CB,C1 (by rw[A1,B6]at hi;show hi),C1 K]at this;simpa using this
 show{.ref h1.objs.size,_,v.laid (t':=tk) (o:=.lst<|(p.toList.map λi=>zs.getD i d).map val) (λb o e=>P b o<|k1 b o e) x {?_,_,c,vK k p.toList λi hi=>FW.mp<|h.perm.mem_iff.mp hi,n},rfl,q _ z N _<|v.hok.fresh x};rw[A1,z.length_eq,sizeLine_eq];lia
theorem AA{ns:List Int}{a:List _}(r:aB (ns.map V.int) a):IntsAre a ns:=sk r
theorem gO{ns:List Int}{l:zv}{n:List (zv×Obj)}{o:St}{H:Hp}{s:zn}{Q:VK}{E:zy->zn->Prop}(y:Inv X n o H s)(I:Col X s l<|ns.map V.int)(K:ns.Nodup)(D:ns.length<64)(q:∀ms:List Int,ms.Perm ns->ms.Pairwise (λa b=>a<b)->∀p,H p=none->Q (.ref p) (upd H p<|.lst (ms.map V.int))):wpAny (model X.prog X.w) X.A (call (.builtin "sorted") [.ref l]) (EP X n o Q) E s:=by
 show kK (val:=V.int) (d:=(0:Int)) (f:=λa b=>decide<|a<b) (κ:=oneType') y I {λi _=>by simp,λi c k _ _ _ h1 h2=>?_,λi c hi j J=>?_} D (λits g u s' _ _ N h2 G=>?_) (λits g u s' _ _ i c C hi j F=>?_) λM h1 h2 p hp=>q M h1 (h2.imp λh=>by simpa using h) p hp
 .lia
 .have:ns.getD i 0≠ns.getD c 0:=by
   rw[Bm,Bm,A2 hi,A2 j];show λe=>J<|(getElem_inj K).mp e
  lia
 .rw[ksk_kind (keys:=its.toArray) (kz:=ns) (by simpa using AA g) (by rw[B2,<-g.length,A1];lia)];show Wp G
 .have m:∀i,i<ns.length->∃t,its.getD i Value.none=.int (ns.getD i 0) t:=λi hi=>by
   let(v,L,r):=g.get (i:=i) (x:=.int<|ns.getD i 0) (by rw[B7,(cI (d:=(0:Int)) hi).2];rfl);let(t,rfl):=r;show{t,by rw[Bm,L];rfl}
  let(t,z):=m i hi;let(O,B):=m c j;rw[z,B];show kat_lt_int F
theorem dB:cq X (.builtin "sorted") (λxs H Q=>∃l,∃ns:List Int,xs=[.ref l]/\H l=some (.lst<|ns.map V.int)/\ns.Nodup/\ns.length<64 /\
  ∀ms:List Int,ms.Perm ns->ms.Pairwise (λa b=>a<b)->∀p,H p=none->Q (.ref p) (upd H p<|.lst (ms.map V.int))):=by
 intro pins s σ H xs us Q I r h;let(l,ns,rfl,d,e,c,q):=h;let(u,rfl,g):=cD r;cases g;let(h,its,n,i,f):=I.hok l _ d;show gO I (.seq i (.inl ⟨_,f,rfl,n,rfl⟩) h) e c q
structure Cp where
 a:zv
 t:zv
 p:List Str
 n:Int
def vL(H:Hp)(z:Cp):Prop:=H z.a=some (.tup [.ref z.t,.int z.n])/\H z.t=some (.tup<|z.p.map V.str)
theorem ue:∀{ps:List Str}{us:List _},aB (ps.map V.str) us->StrsAre us ps
 |[],_,.nil=>.nil
 |p::ps,_,.cons ⟨t,e⟩ r=>by subst e;show .cons p t<|ue r
theorem cV{α f:Type}{g:α->f}{ys ms:List f}(i:ys.Perm ms):∀{zs:List α},ms=zs.map g->∃us:List α,us.map g=ys/\us.Perm zs:=by
 induction i with
 |nil =>
  intro zs e;cases zs with
  |nil=>show{[],rfl,.refl _}
  |cons a r=>cases e
 |cons x _ k =>
  intro zs e;cases zs with
  |nil=>cases e
  |cons a r =>
   injection e with d c
   let(us,h1,h2):=k c;show{a::us,by rw[CM,h1,d],h2.cons a}
 |swap x y l =>
  intro zs e
  match zs,e with
  |a::b::r,e =>
   injection e with d c
   injection c with c h
   show{b::a::r,by rw[CM,CM,<-d,<-c,<-h],.swap a b r}
 |trans _ _ m n =>
  intro zs e;let(us,h1,h2):=n e;let(vs,h3,j):=m h1.symm;show{vs,h3,j.trans h2}
theorem mv{α O:Type}{zs:List α}{ad:α->zv}{g:α->O}{lt:O->O->Bool}{Pz:α->List zy->Prop}{l:zv}{a1:List (zv×Obj)}{a3:St}{H:Hp}{s:zn}{Q:VK}{E:zy->zn->Prop}(G:Inv X a1 a3 H s)(d:α)(T:zy)(c2:(T==T)=true)(B:SqL X.K H l ((zs.map ad).map V.ref)\/SqT X.K H l ((zs.map ad).map V.ref))(U:∀a,lt a a=false)(c9:∀a b c,lt a b=true->lt b c=true->lt a c=true)(c8:∀a b,a≠b->lt a b=true\/lt b a=true)(c4:(zs.map g).Nodup)(b3:zs.length<64)(M:∀z∈zs,∃v r,Pz z (v::r)/\IsTup s.heap (ad z) (v::r).toArray/\∀s':zn,(∀b o,s.heap.get? b=some o->s'.heap.get? b=some o)->Looks (model X.prog X.w) s'.heap (typeOf v) T)(less:∀(x:xx) (s':zn),x.units<=X.A.units+2->(∀b o,s.heap.get? b=some o->s'.heap.get? b=some o)->∀z∈zs,∀N∈zs,g z≠g N->∀vs a2,Pz z vs->Pz N a2->∀(b2:Bool) (C:Bool->zn->Prop),C (lt (g z)<|g N) s'->KatLex X.prog X.w x (T != .type "tuple") b2 C (vs.zip a2) 0 s')(q:∀u:List α,u.Perm zs->u.Pairwise (λa b=>lt (g a) (g b)=true)->∀p,H p=none->Q (.ref p) (upd H p<|.lst ((u.map ad).map V.ref))):wpAny (model X.prog X.w) X.A (call (.builtin "sorted") [.ref l]) (EP X a1 a3 Q) E s:=by
 have c3:Col X s l ((zs.map ad).map V.ref):=by
  rcases B with B | B
  .let(its,m,pl,D):=G.list B;show .seq m (.inl pl.isList) D
  .let(its,m,pl,D):=G.tuple B;show .seq m (.inr pl) D
 have a0:∀i f,i<zs.length->f<zs.length->i≠f->g (zs.getD i d)≠g (zs.getD f d):=λi f hi h t e=>t<|(getElem_inj c4 (h₀:=by simpa using hi) (h₁:=by simpa using h)).mp (by
  rw[getElem_map,getElem_map,(A9.mp (cI (d:=d) hi).2).2,(A9.mp (cI (d:=d) h).2).2];show e)
 have F:∀ys:List α,(ys.map ad).map V.ref=ys.map λz=>V.ref (ad z):=λys=>A7;show kK (zs:=zs) (val:=λz=>V.ref<|ad z) (d:=d) (κ:=tuples'<|T != .type "tuple") G (F zs ▸ c3) {λi _=>U _,λi f k _ _ _=>c9 _ _ _,λi f hi h t=>c8 _ _<|a0 i f hi h t} b3 (λus m x s' _ j d0 h2 c1=>?_) (λus m x s' c0 j i f C hi h L=>?_) λu h1 h2 p hp=>F u ▸ q u h1 h2 p hp
 .cases eD (F zs ▸ m);have key:∀ys:List α,(∀z∈ys,z∈zs)->∃fs:List zy,KatTups s'.heap ((ys.map ad).map Value.ref) fs/\fs.length=ys.length/\∀v∈fs,Looks (model X.prog X.w) s'.heap (typeOf v) T:=by
   intro ys
   induction ys with
   |nil=>intro _;show{[],KatTups.nil,rfl,λv c5=>by cases c5}
   |cons z ys c6 =>
    intro S;let(fs,h1,R,h3):=c6 λy hy=>S y<|B1 _ hy;let(v,r,_,(o,a8,a9,n,b1),c7):=M z<|S z B4;show{v::fs,KatTups.cons (j _ _ a8) a9 b1 rfl h1,congrArg (· + 1) R,forall_mem_cons.mpr ⟨c7 s' j,h3⟩}
  let(fs,h1,R,h3):=key zs λz D=>D;show PySem.W.kat_kind h1 (by lia) h3 c2 c1
 .cases eD (F zs ▸ m);have P:∀i,i<zs.length->((zs.map ad).map Value.ref).getD i Value.none=.ref (ad<|zs.getD i d):=λi hi=>by
   rw[Bm,B7,B7,(cI (d:=d) hi).2];rfl
  rw[P i hi,P f h];have Y:=(cI (d:=d) hi).1;let(v,r,a4,(d5,I,d1,d3,J),_):=M _ Y
  by_cases t:i=f
  .subst t;rw[U]at L;show kat_lt (j _ _ I) J (j _ _ I) J ?_;rw[show decide ((v::r).toArray.size<(v::r).toArray.size)=false by simp];show qI L _ _
  .have Z:=(cI (d:=d) h).1;let(d8,d7,a5,(d6,a6,d2,d4,a7),_):=M _ Z;show kat_lt (j _ _ I) J (j _ _ a6) a7<|less x s' c0 j _ Y _ Z (a0 i f hi h t) _ _ a4 a5 _ C L
theorem cY:cq X (.builtin "sorted") (λxs H Q=>∃l,∃zs:List sB,xs=[.ref l]/\(SqL X.K H l ((zs.map (·.1)).map V.ref)\/SqT X.K H l ((zs.map (·.1)).map V.ref))/\(∀z∈zs,H z.1=some (.tup (.int z.2.1::z.2.2)))/\(zs.map (·.2.1)).Nodup/\zs.length<64 /\
  ∀d:List sB,d.Perm zs->d.Pairwise (λa b=>a.2.1<b.2.1)->∀p,H p=none->Q (.ref p) (upd H p<|.lst ((d.map (·.1)).map V.ref))):=by
 intro pins s σ H xs us Q I r h;let(l,zs,rfl,m,j,k,g,q):=h;let(u,rfl,y):=cD r;cases y;show mv (lt:=λa b=>decide<|a<b) (Pz:=λz vs=>∃t r,vs=.int z.2.1 t::r) I (0,0,[]) (.type "int") rfl m (λa=>by simp) (λa b c=>by lia) (λa b h=>by lia) k g (λz o=>?_) (λA s' _ _ z _ J _ v vs G ⟨t,r,e⟩ ⟨F,D,f⟩ B C i=>?_) λd h1 h2=>q d h1<|h2.imp λh=>of_decide_eq_true h
 .let(_,its,x,n):=I.hok z.1 _<|j z o;cases x with
  |cons w E =>
   let(t,rfl):=w;show{_,_,⟨t,_,rfl⟩,n,λ_ _=>.now}
 .subst e f;show kat_cons<|wpAny_eqBool_int ?_;rw[D5.mpr v];show kat_no<|kat_lt_int i
theorem jM:cq X (.builtin "sorted") (λxs H Q=>∃l,∃zs:List _,xs=[.ref l]/\SqL X.K H l ((zs.map (·.1)).map V.ref)/\(∀z∈zs,H z.1=some (.tup (.int z.2.1::z.2.2)))/\(zs.map (·.2.1)).Nodup/\zs.length<64 /\
  ∀c:List sB,c.Perm zs->c.Pairwise (λa b=>a.2.1<b.2.1)->∀p,H p=none->Q (.ref p) (upd H p<|.lst ((c.map (·.1)).map V.ref))) :=
 λpins s σ H xs us Q I r ⟨l,zs,e,d,h⟩=>cY _ s σ H xs us Q I r ⟨l,zs,e,.inl d,h⟩
structure Cv where
 a:zv
 t:zv
 p:List Str
 v:V
def Ht(H:Hp)(z:Cv):Prop:=H z.a=some (.tup [.ref z.t,z.v])/\H z.t=some (.tup<|z.p.map V.str)
theorem kY(a2:X.A.units+8<cLine):cq X (.builtin "sorted") (λxs H Q=>∃l,∃zs:List Cv,xs=[.ref l]/\H l=some (.lst<|zs.map λz=>V.ref z.a)/\(∀z∈zs,Ht H z)/\(zs.map (·.p)).Nodup/\zs.length<64 /\
  ∀d:List Cv,d.Perm zs->d.Pairwise (λa b=>HT.cJ a.p b.p=true)->∀p,H p=none->Q (.ref p) (upd H p<|.lst (d.map λz=>V.ref z.a))):=by
 intro pins s σ H xs us Q I r h;let(l,zs,rfl,K,f,L,G,q):=h;let(u,rfl,U):=cD r;cases U;have n:∀ys:List Cv,(ys.map (·.a)).map V.ref=ys.map λz=>V.ref z.a:=λys=>A7;show mv (Pz:=λz vs=>∃v,vs=[.ref z.t,v]) I {0,0,[],.non} (.type "tuple") rfl (.inl<|SqL.of (by rw[n];show K)) HT.ci (λ_ _ _=>HT.jn) (λ_ _=>HT.qM) L G (λz m=>?_) (λB s' a1 g z c j x R vs a5 ⟨v,e⟩ ⟨a4,D⟩ a0 C J=>?_) λd h1 h2 p hp=>n d ▸ q d h1 h2 p hp
 .let(u,v,i,a3,N):=xF I (f z m).1;cases i;let(_,ws,i,o,E,F,_):=I.hok z.t _ (f z m).2;show{_,_,⟨v,rfl⟩,N,λs' g=>F ▸ (Looks.ld<|g _ _ E).andThen .now}
 .subst e D;have k:B.units<cLine:=by lia
  have key:∀z∈zs,IsTupleKey (aR X.prog X.w) s'.heap (z.p.map Sum.inr) z.t:=λz c=>by
   let(o,O,P,M,r):=Aq (ks:=z.p.map Sum.inr) I (by rw[A7];show(f z c).2) X.prog X.w;show{o,O,P,g _ _ M,r}
  have y:∀z∈zs,∃ws:List zy,StrsAre ws z.p/\IsTup s'.heap z.t ws.toArray:=λz c=>by
   let(_,ws,i,o,e,r):=I.hok z.t _ (f z c).2;show{ws,ue i,o,g _ o e,r}
  show kat_cons<|wpAny_eqBool_tuple k (key z c) (key j x) ?_;rw[B9 λe:(z.p.map Sum.inr:List Key)=j.p.map Sum.inr=>R<|(List.map_inj_right λa b e=>by injection e).mp e];let(wi,Y,S):=y z c;let(a6,Z,T):=y j x;show kat_no<|PySem.W.kat_one _ _ (HT.sF S T (by simpa using Y) (by simpa using Z) k J)
def Cp.v(z:Cp):Cv:=⟨z.a,z.t,z.p,.int z.n⟩
theorem kZ(o:X.A.units+8<cLine):cq X (.builtin "sorted") (λxs H Q=>∃l,∃zs:List Cp,xs=[.ref l]/\H l=some (.lst<|zs.map λz=>V.ref z.a)/\(∀z∈zs,vL H z)/\(zs.map (·.p)).Nodup/\zs.length<64 /\
  ∀d:List Cp,d.Perm zs->d.Pairwise (λa b=>HT.cJ a.p b.p=true)->∀p,H p=none->Q (.ref p) (upd H p<|.lst (d.map λz=>V.ref z.a))):=by
 intro pins s σ H xs us Q I r ⟨l,zs,e,m,k,n,i,q⟩;have f:∀{ys:List Cp},(ys.map Cp.v).map (λz=>V.ref z.a)=ys.map _:=λ{ys}=>A7;show kY o _ s σ H xs us Q I r {l,zs.map _,e,by rw[f];show m,λz t=>?_,by rw[A7];show n,by rw[A1];show i,λd pm u p hp=>?_}
 .let(c,j,rfl):=A3.mp t;show k c j
 .let(ys,g,h):=cV pm rfl;subst g;rw[f];show q ys h (C0.mp u) p hp
end
def qN(H:Hp):Nat->V->V->Prop
 |0,x,y=>x=y/\dP x=true
 |n+1,x,y=>(x=y/\dP x=true)\/∃a b xs ys,x=.ref a/\y=.ref b/\H a=some (.tup xs)/\H b=some (.tup ys)/\xs.length=ys.length/\∀(i:Nat) x' y',xs[i]?=some x'->ys[i]?=some y'->qN H n x' y'
theorem qO{x:V}(f:dP x=true):eqV x x=true:=by
 cases x<;>first|rfl|(simp[eqV];done) | (show absurd (f) C4)
theorem mw{H:Hp}{n:Nat}{x y:V}(h:x=y/\dP x=true):qN H n x y:=by
 cases n with
 |zero=>show h
 |succ n=>show .inl h
section
variable{X:Cx}{pins:List (zv×Obj)}{σ:St}{H:Hp}{s:zn}
theorem io{a:List _}{j:Nat}{u:zy}(c:j<a.toArray.size)(b:a[j]?=some u):a.toArray[j]=u:=by
 have:a[j]?=some a.toArray[j]:=by simp
 show Option.some.inj<|this.symm.trans b
theorem xL(i:Inv X pins σ H s):∀(n:Nat){A:xx}{x y:V}{u v:zy},aH x u->aH y v->qN H n x y->A.units+n<cLine->EqAt A s u v true:=by
 intro n
 induction n with
 |zero =>
  intro A x y u v c d h t;let(e,f):=h;subst e;have:=lM (A:=A) (s:=s) c d f f;rw[qO f]at this;show this
 |succ n E =>
  intro A x y u v c d h t;rcases h with⟨e,f⟩|⟨a,b,xs,ys,rfl,rfl,q,r,K,D⟩
  .subst e;have:=lM (A:=A) (s:=s) c d f f;rw[qO f]at this;show this
  .cases c;cases d
   by_cases l:a=b
   .subst l;show EqAt.same _
   .let(_,us,m,I):=i.hok a _ q;let(_,ws,o,J):=i.hok b _ r;have F:=m.length;have G:=o.length;have:=SeqAt.RcAt.tuples (A:=A) (s:=s) (e:=λ_=>true) I J (by lia) (λg h1 h2=>by
     have j:g<xs.length:=by rw[F];simpa using h1
     have k:g<ys.length:=by rw[G];simpa using h2
     let(L,w,z):=m.get<|A2 j;let(M,B,C):=o.get<|A2 k;rw[io h1 w,io h2 B];show E z C (D g _ _ (A2 j)<|A2 k) (by simp[Around.in1_units];lia))
    have p:((List.range<|min us.toArray.size ws.toArray.size).all (λ_=>true)&&us.toArray.size==ws.toArray.size)=true:=by
     have:us.toArray.size=ws.toArray.size:=by simp only[B2];lia
     simp[this]
    rw[p]at this;show EqAt.of_refs l this
def fM(H:Hp)(xs ys:List V):Prop:=xs.length=ys.length/\∀(i:Nat) x y,xs[i]?=some x->ys[i]?=some y->qN H 3 x y
theorem qP{n:List _}{o:St}{H:Hp}{s:zn}(f:Inv X n o H s){xs ys:List V}{a ws:List _}(d:aB xs a)(e:aB ys ws)(g:fM H xs ys){A:xx}(h:A.units+3<cLine):
  ∀j (h1:j<a.toArray.size) (h2:j<ws.toArray.size),EqAt A s a.toArray[j] ws.toArray[j] true:=λj h1 h2=>by
 have b:j<xs.length:=by rw[d.length];simpa using h1
 have c:j<ys.length:=by rw[e.length];simpa using h2
 let(p,i,k):=d.get<|A2 b;let(q,l,m):=e.get<|A2 c;rw[io h1 i,io h2 l];show xL f 3 k m (g.2 j _ _ (A2 b)<|A2 c) h
theorem nZ{u:List (zv×Obj)}{v:St}{H:Hp}{s:zn}{a b:zv}{xs ys:List V}(x:X.A.units+4<cLine)(c:Inv X u v H s)(i:fM H xs ys)(t:(H a=some (.lst xs)/\H b=some (.lst ys))\/(H a=some (.tup xs)/\H b=some (.tup ys))):
  RcNeAt X.A s (.ref a) (.ref b) false/\∀{E Q},Q (.bool true) s->wpAny (model X.prog X.w) X.A (compareOp .Eq (.ref a)<|.ref b) Q E s:=by
 have j:=i.1;have z:∀n,((List.range n).all λ_=>true)=true:=λn=>by simp
 rcases t with⟨g,h⟩|⟨g,h⟩
 .let(_,us,k,d,m):=c.hok a _ g;let(_,ws,l,f,o):=c.hok b _ h;have e:us.toArray.size=ws.toArray.size:=by simp only[B2,<-d.length,<-f.length,j]
  have al:=qP c d f i (A:=X.A.in1) (by simp[Around.in1_units];lia);show{by have:=RcNeAt.lists (e:=λ_=>true) ⟨_,m,rfl,k,rfl⟩ ⟨_,o,rfl,l,rfl⟩ e (by lia) al;rw[z]at this;show this,λq=>eq_listAt (e:=λ_=>true) ⟨_,m,rfl,k,rfl⟩ ⟨_,o,rfl,l,rfl⟩ e (by lia) al (by rw[z];show q)}
 .let(_,us,d,p):=c.hok a _ g;let(_,ws,f,r):=c.hok b _ h;have e:us.toArray.size=ws.toArray.size:=by simp only[B2,<-d.length,<-f.length,j]
  have al:=qP c d f i (A:=X.A.in1) (by simp[Around.in1_units];lia);show{by have:=RcNeAt.tuples (e:=λ_=>true) p r (by lia) al;rw[z,e,beq_self_eq_true]at this;show this,λq=>SeqAt.eq_tupleAt (e:=λ_=>true) p r (by lia) al (by rw[z,e,beq_self_eq_true];show q)}
theorem iH(e:X.A.units+4<cLine):OpR X (compareOp .NotEq) (λx y H Q=>rNe x y H Q\/(∃a b xs ys,x=.ref a/\y=.ref b/\fM H xs ys/\((H a=some (.lst xs)/\H b=some (.lst ys))\/(H a=some (.tup xs)/\H b=some (.tup ys)))/\Q (.bl false) H)):=by
 intro pins s σ H x y v u Q I c d h;rcases h with h|⟨a,b,xs,ys,rfl,rfl,f,h,q⟩
 .show eG _ s σ H x y v u Q I c d h
 .cases c;cases d;show(nZ e I f h).1 _ _ _ _ ⟨.bl _,H,I,rfl,q⟩
end
def Ext(p:zv)(H a:Hp):Prop:=∀b o,b≠p->H b=some o->a b=some o
theorem Ext.of{p:zv}{H H':Hp}(s:Same H H'):Ext p H H':=λb o _ e=>s b o e
theorem Ext.upd{p:zv}{H:Hp}{o:HO}:Ext p H (upd H p o):=λb u a e=>by rw[aj a];show e
theorem Ext.trans{p:zv}{H d H2:Hp}(a:Ext p H d)(b:Ext p d H2):Ext p H H2:=λc o f e=>b c o f<|a c o f e
def FM(b:TE):Prop:=∀σ H (Q a:VK),(∀y H,Q y H->a y H)->b σ H Q->b σ H a
theorem Paired.snoc{α c:Type}{R:α->c->Prop}:∀{as:List α}{bs:List c}{a:α}{b:c},Paired R as bs->R a b->Paired R (as++[a]) (bs++[b])
 |_,_,_,_,.nil,h=>.cons h .nil
 |_,_,_,_,.cons r t,h=>.cons r<|Paired.snoc t h
theorem Paired.at'{α b:Type}{R:α->b->Prop}{y:b}:∀{as:List α}{bs:List b}{j:Nat},Paired R as bs->bs[j]?=some y->∃a,as[j]?=some a/\R a y
 |_,_,0,.cons r _,e=>{_,rfl,Option.some.inj e ▸ r}
 |_,_,j+1,.cons _ t,e=>let⟨a,h,r⟩:=Paired.at' t e;⟨a,h,r⟩
theorem jN{α:Type}(l:List α):l.filter (λ_=>true)=l:=List.filter_eq_self.mpr λ_ _=>rfl
theorem uf{α:Type}{k:Nat}{js:List Nat}{J:It}{g:TG}{I:TT}{K:TE}{L:St}{j:Hp}{Q:VK}{p:zv}{fr:List (Option V)}(zs:List α)(T:zs.length<=1000)(E:j p=none)(go:∀i H',i<zs.length->Same j H'->J.go i H')(stop:∀H',Same j H'->J.stop zs.length H')(S:∃f:St,f.length=k/\cM k js L=f++fr)(o:α->Bool)(R:α->V->Hp->Prop)(D:∀z y H H',R z y H->Ext p H H'->R z y H')(O:∀i z (f:St) H' x H2 (F:St->VK) (G:St->Hp->Prop),zs[i]?=some z->f.length=k->Same j H'->(∃ys,H' p=some (.lst ys))->J.yld i H' x H2->(∀c y d,(∃n:St,n.length=k/\c=n++fr)->Same H' d->o z=true->R z y d->F c y d)->(∀c d,(∃n:St,n.length=k/\c=n++fr)->Same H' d->o z=false->G c d)->g x (f++fr) H2 λc N=>I c N λb d=>if b=true then K c d (F c)else G c d)(P:∀ys H',Same j H'->H' p=some (.lst ys)->Paired (λz y=>R z y H') (zs.filter o) ys->Q (.ref p) H'):pk k js g I K L Q J j p:=by
 have C:∀{as:List α}{ys:List V}{H H':Hp},Ext p H H'->Paired (λz y=>R z y H) as ys->Paired (λz y=>R z y H') as ys:=λex r=>Paired.mapP r λa b h=>D a b _ _ h ex;show{λi m ys M H'=>m=zs.length-i/\i<=zs.length/\(∃f:St,f.length=k/\M=f++fr)/\Same j H'/\H' p=some (.lst ys)/\Paired (λz y=>R z y H') ((zs.take i).filter o) ys,⟨zs.length,by simp,CI _,S,ag E,ac,.nil⟩,?_};rintro i m ys M H' ⟨rfl,hi,⟨f,U,rfl⟩,s1,q,l⟩
 by_cases s:i<zs.length
 .show .inr {go i H' s s1,FC (Paired.length l ▸ CL (D0 _ _) (by rw[D6];lia))<|aU T,λx H2 hy=>?_};have u:zs[i]?=some zs[i]:=A2 s;have t:zs.take (i+1)=zs.take i++[zs[i]]:=nR u;generalize zs[i]=z at u t;show O i z f H' x H2 _ _ u U s1 ⟨ys,q⟩ hy (λc y X w B v W=>{B _ _ q,zs.length-(i+1),by lia,rfl,s,w,aV E<|s1.trans B,ac,?_}) (λc d w A v=>{zs.length-(i+1),by lia,rfl,s,w,s1.trans A,A _ _ q,?_})
  .rw[t,filter_append,List.filter_cons_of_pos v];show Paired.snoc (C ((Ext.of B).trans Ext.upd) l)<|D _ _ _ _ W Ext.upd
  .rw[t,filter_append,List.filter_cons_of_neg (by simp[v]),List.filter_nil,append_nil];show C (Ext.of A) l
 .have e:i=zs.length:=by lia
  subst e;rw[take_length]at l;show .inl ⟨stop H' s1,P ys H' s1 q l⟩
theorem sG{k:Nat}{js:List Nat}{g:TG}{b:TE}{c:St}{Q:VK}{J:It}{a:Hp}{p:zv}(d:pk k js g (λ_ H K=>K true H) b c Q J a p):LcW k js g b c Q J a p:=d
theorem one_of{a:St}(b:a.length=1):∃o,a=[o]:=match a,b with | [o],_=>⟨o,rfl⟩
theorem xM{js:List Nat}{J:It}{g:TE}{q:St}{b:Hp}{Q:VK}{p:zv}{fr:List _}(n:Nat)(A:n<=1000)(B:b p=none)(v:cM 1 js q=none::fr)(R:Nat->V->Hp->Prop)(u:∀i y H H',R i y H->Ext p H H'->R i y H')(go:∀i H',i<n->Same b H'->J.go i H')(stop:∀H',Same b H'->J.stop n H')(D:FM g)(step:∀i H' x H2,i<n->Same b H'->(∃ys,H' p=some (.lst ys))->J.yld i H' x H2->H2=H'/\g (some x::fr) H' λy d=>Same H' d/\R i y d)(s:∀ys H',Same b H'->H' p=some (.lst ys)->ys.length=n->(∀(j:Nat) y,ys[j]?=some y->R j y H')->Q (.ref p) H'):LcW 1 js (cg 0) g q Q J b p:=by
 have c:(List.range n).length=n:=F4;show sG<|uf _ (by rw[c];show A) B (λi H' h=>go i H' (c ▸ h)) (λH' h=>by rw[c];show stop H' h) {[none],rfl,v} (λ_=>true) R u (λi z G H' x H2 E F m t s1 e hy h1 _=>?_) λys H' s1 e f=>?_
 .let(o,rfl):=one_of t;have hi:=c ▸ (A9.mp m).1;obtain rfl:i=z:=Option.some.inj<|(getElem?_range hi).symm.trans m;let(rfl,C):=step i H' x H2 hi s1 e hy;show D _ _ _ _ (λy d k=>h1 _ y d {[some x],rfl,rfl} k.1 rfl k.2) C
 .rw[jN]at f;show s ys H' s1 e ((Paired.length f).symm.trans c) λj y w=>?_;let(a,l,r):=Paired.at' f w;obtain rfl:j=a:=Option.some.inj<|(getElem?_range (c ▸ (A9.mp l).1)).symm.trans l;show r
theorem fi{H:Hp}{p q:zv}(a:∃ys,H p=some (.lst ys))(b:H q=none):q≠p:=λe=>by
 let(ys,h):=a;rw[<-e,b]at h;cases h
section
variable{X:Cx}{N:List Str}{scope:Scope}{cl:List (Str×zv)}{k:Nat}{js:List Nat}
theorem om{f c iter:Expr}{oc:Option Expr}{pos u t:Pos}{y:Str}{ii:Nat}{C:TI}{g:TG}{w:TT}{B:TE}{n:St->VK->It->Hp->zv->Prop}(O:∀{σ Q} J H1 p,n σ Q J H1 p->pk k js g w B σ Q J H1 p)(R:X.N.Nodup)(a0:X.N[ii]?=some y)(a8:Loc X.env.scope y)(U:X.calm=true)(F:LcOk X scope cl)(P:N.length=k+js.length)(a1:∀(i j:Nat) x,js[i]?=some j->N[k+i]?=some x->X.N[j]?=some x/\Vis X.env.scope x/\X.env.scope.names.lookup x≠some .local/\((relabel scope X.env).names.lookup x=some .cell\/(relabel scope X.env).names.lookup x=some .free))(Z:PI X c iter C)(Y:∀s H fp,PG (ca X N scope cl s H fp) c g)(a7:∀s H fp,ocT (ca X N scope cl s H fp) oc w)(V:∀s H fp,PE (ca X N scope cl s H fp) f B)(a4:∀x,foldedSetIterable iter X.env x=pure x)(a6:swapsWith (.ListComp f [⟨c,iter,oc.toList,0⟩] scope pos) (some<|.Name y t) u.line X.env=pure true)(W:X.fn y=true\/X.env.scope.names.lookup y=some .local):PS X (.Assign [.Name y t] (.ListComp f [⟨c,iter,oc.toList,0⟩] scope pos) u) (rP (λσ H Q=>C σ H λJ H1=>∀p,H1 p=none->n σ Q J H1 p)<|cg ii):=by
 intro pins s σ H b2 I h;rw[exec_Assign_Name_used _ _ _ _ a6];show Wb<|wpAny_standAt (Wb ?_);change wpAny _ X.A _ _ _ s;show Wb<|wpAny_mono (tP U F P a1 Z Y a7 V a4 O I h λ{c1 c2 b3 D c4 fp p} l K d a9=>?_) (λ_ s' a3=>Wp<|Wp a3) λ_ _ e=>e;let(m,a2,_):=d.loc;let(G,q,c0,L,r,M):=l.fpOk (A8 _) d.free;change wpAny _ _ _ _ _ _;show wpAny_assign_Name<|ny (xh l K d<|SameBut.refl _ _) R a0 a8 (v:=.ref p) rfl (λc3 E ⟨a,b1,S⟩=>{m,a2.sameBut b1 ?_,λh' a5=>{_,D,E.turned (λb o T e=>(a5.2 b T).trans e) G q L r M,a9}}) W;rcases S with e|e
 .rw[e];show q
 .show λz=>r _ _ e z.symm
theorem vM{b a iter c:Expr}{pos e d:Pos}{y:Str}{ii:Nat}{m:TI}{g:TG}{f:TT}{l:TE}(p:X.N.Nodup)(w:X.N[ii]?=some y)(D:Loc X.env.scope y)(q:X.calm=true)(n:LcOk X scope cl)(o:N.length=k+js.length)(z:∀(i j:Nat) x,js[i]?=some j->N[k+i]?=some x->X.N[j]?=some x/\Vis X.env.scope x/\X.env.scope.names.lookup x≠some .local/\((relabel scope X.env).names.lookup x=some .cell\/(relabel scope X.env).names.lookup x=some .free))(v:PI X a iter m)(u:∀s H fp,PG (ca X N scope cl s H fp) a g)(C:∀s H fp,PT (ca X N scope cl s H fp) c f)(r:∀s H fp,PE (ca X N scope cl s H fp) b l)(A:∀x,foldedSetIterable iter X.env x=pure x:=by intro _;rfl)(B:swapsWith (.ListComp b [{a,iter,[c],0}] scope pos) (some<|.Name y d) e.line X.env=pure true:=by rfl)(t:X.fn y=true\/X.env.scope.names.lookup y=some .local:=by first|show .inl rfl|show .inr rfl|assumption):PS X (.Assign [.Name y d] (.ListComp b [{a,iter,[c],0}] scope pos) e) (rP (Ag k js m g f l)<|cg ii):=om (oc:=some c) (λ_ _ _ h=>h) p w D q n o z v u C r A B t
theorem xN{b a iter:Expr}{pos d c:Pos}{y:Str}{ii:Nat}{f:TI}{g:TG}{e:TE}(n:X.N.Nodup)(u:X.N[ii]?=some y)(A:Loc X.env.scope y)(o:X.calm=true)(l:LcOk X scope cl)(m:N.length=k+js.length)(v:∀(i j:Nat) x,js[i]?=some j->N[k+i]?=some x->X.N[j]?=some x/\Vis X.env.scope x/\X.env.scope.names.lookup x≠some .local/\((relabel scope X.env).names.lookup x=some .cell\/(relabel scope X.env).names.lookup x=some .free))(t:PI X a iter f)(r:∀s H fp,PG (ca X N scope cl s H fp) a g)(p:∀s H fp,PE (ca X N scope cl s H fp) b e)(w:∀x,foldedSetIterable iter X.env x=pure x:=by intro _;rfl)(z:swapsWith (.ListComp b [{a,iter,[],0}] scope pos) (some<|.Name y c) d.line X.env=pure true:=by rfl)(q:X.fn y=true\/X.env.scope.names.lookup y=some .local:=by first|show .inl rfl|show .inr rfl|assumption):PS X (.Assign [.Name y c] (.ListComp b [{a,iter,[],0}] scope pos) d) (rP (tLc k js f g e)<|cg ii):=om (oc:=none) tQ n u A o l m v t r (λ_ _ _ _ _ _ h=>h) p w z q
end
section
variable{X:Cx}{tg:Expr}
def iDK(a:TE):TI:=λσ H R=>a σ H λv H1=>∃d kvs,v=.ref d/\H1 d=some (.dK kvs)/\∀o,R (Itk d o (.dK kvs)<|kvs.map λp=>kV p.1)<|upd H1 d (.frz o<|.dK kvs)
theorem FN{l:Expr}{f:TE}(m:PE X l f):PI X tg l (iDK f):=by
 intro pins s σ H R I h;show thn (m _ s σ H _ I h) λv s1 p=>?_;let(x,H1,b,y,w):=p;let(d,kvs,e,c,q):=w;subst e;cases y;let(u,r,vs,z,o,es,i,a,t,j,k,hp,n):=b.hok d _ c;have g:Inv X _ σ (upd H1 d<|.frz o (.dK kvs)) s1:=b.write (by rw[c];trivial) (.inl rfl) (λ_ _ _ q=>q) ⟨o,a⟩ ⟨a,u,r,vs,z,o,es,i,a,t,j,k,hp,n⟩;show BN g ac<|q o
theorem xO(e:X.A.units+4<cLine):OpR X (compareOp .Eq) (λx y H Q=>rEq x y H Q\/(∃a b xs ys,x=.ref a/\y=.ref b/\fM H xs ys/\((H a=some (.lst xs)/\H b=some (.lst ys))\/(H a=some (.tup xs)/\H b=some (.tup ys)))/\Q (.bl true) H)):=by
 intro pins s σ H x y v u Q I c d h;rcases h with h|⟨a,b,xs,ys,rfl,rfl,f,h,q⟩
 .show cT _ s σ H x y v u Q I c d h
 .cases c;cases d;show(nZ e I f h).2 ⟨.bl _,H,I,rfl,q⟩
end
theorem Same.seqT{K:Frag}{H c:Hp}{a:zv}{xs:List V}(e:Same H c)(b:SqT K H a xs):SqT K c a xs:=by
 rcases b with (b|⟨o,b⟩)|b
 .show .inl<|.inl (e _ _ b)
 .show .inl<|.inr ⟨o,e _ _ b⟩
 .show .inr b
structure Src(J:It)(H1:Hp)(xs:List V):Prop where
 go:∀i H',i<xs.length->Same H1 H'->J.go i H'
 stop:∀H',Same H1 H'->J.stop xs.length H'
 yl:∀i H' x H2,i<xs.length->Same H1 H'->J.yld i H' x H2->H2=H'/\xs[i]?=some x
theorem bx{K:Frag}{a:zv}{xs:List V}{c:Hp}(b:SqT K c a xs):Src (Itt K a) c xs :=
 {λi H' hi s=>{xs,xs[i],s.seqT b,A2 hi},λH' s=>⟨xs,s.seqT b,A8 _⟩,λi H' x H2 _ s ⟨e,y⟩=>{e,y xs (by show s.seqT b)}}
theorem cr{K:Frag}{a:zv}{xs:List V}{c:Hp}(b:SqL K c a xs):Src (Itl K a) c xs :=
 {λi H' hi s=>{xs,xs[i],s.seq b,A2 hi},λH' s=>⟨xs,s.seq b,A8 _⟩,λi H' x H2 _ s ⟨e,y⟩=>{e,y xs (by show s.seq b)}}
theorem qQ{d:zv}{o:Obj}{u:HO}{ks:List V}{a:Hp}(b:a d=some (.frz o u)):Src (Itk d o u ks) a ks :=
 {λi H' hi s=>⟨s _ _ b,hi⟩,λH' s=>⟨s _ _ b,A8 _⟩,λi H' x H2 _ s ⟨e,y⟩=>⟨e,y⟩}
theorem ug{α:Type}{k:Nat}{js:List Nat}{J:It}{g:TG}{o:TT}{q:TE}{r:St}{e:Hp}{Q:VK}{p:zv}{fr:List _}(zs:List α)(val:α->V)(D:zs.length<=1000)(E:e p=none)(S:Src J e<|zs.map val)(B:∃d:St,d.length=k/\cM k js r=d++fr)(h:α->Bool)(R:α->V->Hp->Prop)(A:∀z y H H',R z y H->Ext p H H'->R z y H')(u:∀z (d:St) H' (j:St->VK) (l:St->Hp->Prop),d.length=k->z∈zs->Same e H'->(∃ys,H' p=some (.lst ys))->(∀a y c,(∃f:St,f.length=k/\a=f++fr)->Same H' c->h z=true->R z y c->j a y c)->(∀a c,(∃f:St,f.length=k/\a=f++fr)->Same H' c->h z=false->l a c)->g (val z) (d++fr) H' λa t=>o a t λb c=>if b=true then q a c (j a)else l a c)(v:∀ys H',Same e H'->H' p=some (.lst ys)->Paired (λz y=>R z y H') (zs.filter h) ys->Q (.ref p) H'):pk k js g o q r Q J e p:=by
 have lv:(zs.map val).length=zs.length:=A1 _;show uf zs D E (λi H' hi s=>S.go i H' (lv ▸ hi) s) (λH' s=>lv ▸ S.stop H' s) B h R A (λi z d H' x H2 j l m w s1 C hy h1 h2=>?_) v;let(rfl,n):=S.yl i H' x H2 (lv ▸ (A9.mp m).1) s1 hy;rw[B7,m]at n;obtain rfl:val z=x:=Option.some.inj n;show u z d H2 j l w (C3 m) s1 C h1 h2
theorem qR{α:Type}{k:Nat}{js:List Nat}{J:It}{g:TG}{l:TE}{m:St}{f:Hp}{Q:VK}{p:zv}{fr:List _}(zs:List α)(val:α->V)(v:zs.length<=1000)(w:f p=none)(S:Src J f<|zs.map val)(u:∃d:St,d.length=k/\cM k js m=d++fr)(R:α->V->Hp->Prop)(t:∀z y H H',R z y H->Ext p H H'->R z y H')(q:∀z (d:St) H' (i:St->VK),d.length=k->z∈zs->Same f H'->(∃ys,H' p=some (.lst ys))->(∀e y h,(∃n:St,n.length=k/\e=n++fr)->Same H' h->R z y h->i e y h)->g (val z) (d++fr) H' λe o=>l e o<|i e)(r:∀ys H',Same f H'->H' p=some (.lst ys)->Paired (λz y=>R z y H') zs ys->Q (.ref p) H'):LcW k js g l m Q J f p :=
 sG (ug zs val v w S u _ R t (λz d H' i B s A s1 j h1 _=>q z d H' i s A s1 j λe y h a b c=>h1 e y h a b rfl c) λys H' s1 j x=>r ys H' s1 j (jN zs ▸ x))
theorem cZ{α:Type}{js:List Nat}{J:It}{i:TT}{j:TE}{l:St}{b:Hp}{Q:VK}{p:zv}{fr:List _}(zs:List α)(val:α->V)(u:zs.length<=1000)(v:b p=none)(S:Src J b<|zs.map val)(t:cM 1 js l=none::fr)(g:α->Bool)(R:α->V->Hp->Prop)(s:∀z y H H',R z y H->Ext p H H'->R z y H')(cond:∀z H' (k:Bool->Hp->Prop),z∈zs->Same b H'->(∃ys,H' p=some (.lst ys))->(∀a,Same H' a->k (g z) a)->i (some (val z)::fr) H' k)(n:∀z H' (k:VK),z∈zs->g z=true->Same b H'->(∃ys,H' p=some (.lst ys))->(∀y a,Same H' a->R z y a->k y a)->j (some (val z)::fr) H' k)(q:∀ys H',Same b H'->H' p=some (.lst ys)->Paired (λz y=>R z y H') (zs.filter g) ys->Q (.ref p) H'):pk 1 js (cg 0) i j l Q J b p:=by
 show ug zs val u v S {[none],rfl,t} g R s (λz C H' A B r f s1 e h1 h2=>?_) q;let(o,rfl):=one_of r;show cond z H' _ f s1 e λa c=>?_;cases d:g z with
 |true=>show n z a _ f d (s1.trans c) (e.imp λ_ h=>c _ _ h) λy m x w=>h1 _ y m {[some _],rfl,rfl} (c.trans x) d w
 |false=>show h2 _ a {[some _],rfl,rfl} c d
theorem bq{α:Type}{js:List Nat}{J:It}{d:TE}{e:St}{a:Hp}{Q:VK}{p:zv}{fr:List _}(zs:List α)(val:α->V)(l:zs.length<=1000)(m:a p=none)(S:Src J a<|zs.map val)(j:cM 1 js e=none::fr)(R:α->V->Hp->Prop)(i:∀z y H H',R z y H->Ext p H H'->R z y H')(f:∀z H' (k:VK),z∈zs->Same a H'->(∃ys,H' p=some (.lst ys))->(∀y b,Same H' b->R z y b->k y b)->d (some (val z)::fr) H' k)(g:∀ys H',Same a H'->H' p=some (.lst ys)->Paired (λz y=>R z y H') zs ys->Q (.ref p) H'):LcW 1 js (cg 0) d e Q J a p :=
 sG (cZ zs val l m S j _ R i (λz H' k _ _ _ h=>h H'<|Same.refl _) (λz H' k o _ s1 c h=>f z H' k o s1 c h) λys H' s1 c n=>g ys H' s1 c (jN zs ▸ n))
theorem dD{α d:Type}{R:α->V->Prop}{val:d->V}{S:α->d->Prop}{zs:List α}{ys:List V}(k:Paired R zs ys)(f:∀z y,z∈zs->R z y->∃b,y=val b/\S z b):
  ∃bs:List<|α×d,bs.map (·.1)=zs/\ys=bs.map (λx=>val x.2)/\∀x∈bs,S x.1 x.2:=by
 induction k with
 |nil=>show{[],rfl,rfl,by simp}
 |@cons a y as bs r _ ih =>
  let(g,h,i,j):=ih λz y l=>f z y (by simp[l]);let(b,e,s):=f _ _ (by simp) r;show{(a,b)::g,by rw[CM,h],by rw[CM,<-i,e],λx c=>?_};rcases B3.mp c with rfl|c
  .show s
  .show j x c
theorem aG{α:Type}{R:α->V->Prop}{f:α->V}{zs:List α}{ys:List V}(b:Paired R zs ys)(a:∀z y,z∈zs->R z y->y=f z):ys=zs.map f:=by
 induction b with
 |nil=>rfl
 |cons r _ d=>rw[CM,<-d λz y c=>a z y (by simp[c]),a _ _ (by simp) r]
theorem uh(p:Int)(ms:List Int):inV (.int p) (ms.map V.int)=decide (p∈ms):=by
 unfold inV;rw[any_map,D3,any_eq_true,C8];constructor
 .rintro⟨x,a,e⟩;have:x=p:=by simpa [eqV]using e
  rw[<-this];show a
 .intro h;show{p,h,by simp[eqV]}
theorem oo(ms:List Int):(ms.map V.int).all dP=true:=by
 rw[all_map,G5];intro x _;rfl
end L2
namespace TW
structure Nd(S:Type) where
 num:Int
 par:Int
 nm:S
 st:Option Int
section
variable{S:Type}
inductive Reach(ns:List<|Nd S)(f:Int):Nd S->Prop where
 |base {n:Nd S}:n∈ns->n.par=f->Reach ns f n
 |step {m n:Nd S}:Reach ns f m->m.st=none->n∈ns->n.par=m.num->Reach ns f n
theorem Reach.mem{ns:List _}{f:Int}{n:Nd S}(h:Reach ns f n):n∈ns:=by
 cases h<;>assumption
theorem Reach.mono{ns ms:List _}{f:Int}{n:Nd S}(c:Reach ns f n)(b:∀x∈ns,x∈ms):Reach ms f n:=by
 induction c with
 |base a hp=>show .base (b _ a) hp
 |step _ d a hp e=>show .step e d (b _ a) hp
def inside(ns:List<|Nd S)(k:Int):List (Nd S):=ns.filter λn=>decide<|n.par=k
def fO(a:List Int)(n:Nd S):Bool:=decide<|n.par∈a
structure Walk(ns:List<|Nd S)(f:Int)(dn:List Int)(fd:List<|Nd S)(pd:List Int):Prop where
 perm:fd.Perm<|ns.filter (fO dn)
 reach:∀n∈fd,Reach ns f n
 cover:∀k,(k∈pd\/k∈dn)↔(k=f\/∃m∈fd,m.st=none/\m.num=k)
theorem Walk.start(ns:List<|Nd S)(f:Int):Walk ns f [] [] [f]:=by
 show{?_,by simp,λk=>by simp};have e:ns.filter (fO [])=[]:=by
  rw[List.filter_eq_nil_iff];intro a _;simp[fO]
 rw[e]
theorem gP{α:Type}(p q:α->Bool)(b:∀x,p x=true->q x=true->False):∀l:List α,
  (l.filter p++l.filter q).Perm (l.filter λx=>p x||q x)
 |[]=>by simp
 |x::l=>by
  have c:=gP p q b l;cases hp:p x with
  |true =>
   simp_all
  |false =>
   cases a:q x with
   |true =>
    rw[List.filter_cons_of_neg (by simp[hp]),List.filter_cons_of_pos a,List.filter_cons_of_pos (by simp[a])];show List.perm_middle.trans<|List.Perm.cons x c
   |false =>
    grind
def here(ns:List<|Nd S)(a:List Int)(x:Int):List (Nd S):=if x∈a then []else inside ns x
def aX(l:List<|Nd S):List Int:=(l.filter λn=>n.st.isNone).map (·.num)
theorem kM{l:List (Nd S)}{k:Int}:k∈aX l↔∃m∈l,m.st=none/\m.num=k:=by
 unfold aX;rw[A3];constructor
 .rintro⟨m,a,e⟩;rw[CF]at a;show{m,a.1,by simp_all,e}
 grind
theorem Walk.turn{ns:List (Nd S)}{f x:Int}{a:List Int}{d:List (Nd S)}{i:List Int}(w:Walk ns f a d<|i++[x]):
  Walk ns f (x::a) (d++here ns a x) (i++aX (here ns a x)):=by
 by_cases p:x∈a
 .have b:here ns a x=[]:=by unfold here;grind
  rw[b];show{?_,by simpa using w.reach,λk=>?_}
  .have e:ns.filter (fO (x::a))=ns.filter (fO a):=by
    apply filter_congr;intro n _;simp only[fO,B3,decide_eq_decide];constructor
    .grind
    .show .inr
   rw[e,append_nil];show w.perm
  .have c:=w.cover k;simp only[aX,List.filter_nil,map_nil,append_nil,C6,B3,CU,G3]
   grind
 .have b:here ns a x=inside ns x:=by unfold here;grind
  rw[b];show{?_,λn o=>?_,λk=>?_}
  .have e:ns.filter (fO (x::a))=ns.filter λn=>fO a n||decide (n.par=x):=by
    apply filter_congr;intro n _;rw[D3];simp only[fO,B3,C8,or_eq_true];constructor
    .grind
    .grind
   rw[e];show(List.Perm.append_right _ w.perm).trans (gP _ _ (λy h1 h2=>?_) ns);simp only[fO,C8]at h1 h2
   grind
  .rcases C6.mp o with h|h
   .show w.reach n h
   .unfold inside at h;rw[CF]at h;let(g,hp):=h;simp only[C8]at hp;rcases ((w.cover x).mp (.inl (by simp)))with e|⟨m,l,j,e⟩
    .show .base g<|hp.trans e
    .show .step (w.reach m l) j g<|hp.trans e.symm
  .have c:=w.cover k;simp only[C6,B3,CU,G3]at c|-;rw[kM]
   grind
theorem Walk.len{ns:List _}{f:Int}{b:List Int}{a:List (Nd S)}{c:List Int}(w:Walk ns f b a c):a.length<=ns.length:=by
 rw[w.perm.length_eq];grind
theorem eX(l:List<|Nd S):(aX l).length<=l.length:=by
 unfold aX;grind
theorem Walk.mem{ns:List _}{f:Int}{dn:List Int}{fd:List _}(w:Walk ns f dn fd [])(n:Nd S):n∈fd↔Reach ns f n:=by
 constructor
 .show w.reach n
 .have c:∀k,(k=f\/∃m∈fd,m.st=none/\m.num=k)->k∈dn:=λk h=>by
   rcases (w.cover k).mpr h with z|z
   .simp at z
   .show z
  have back:∀x,x∈ns->x.par∈dn->x∈fd:=λx b hp=>w.perm.mem_iff.mpr<|CF.mpr {b,by simp[fO,hp]};intro h
  induction h with
  |base a hp=>grind
  |step _ d a hp e=>grind
theorem Walk.all{ns:List (Nd S)}{f:Int}{a:List Int}{c:List _}(w:Walk ns f a c []):c.length=ns.length↔∀n∈ns,Reach ns f n:=by
 rw[w.perm.length_eq];constructor
 .intro h n b;have e:ns.filter (fO a)=ns:=by
   rw[List.filter_eq_self];show List.length_filter_eq_length_iff.mp h
  have:n∈ns.filter (fO a):=by rw[e];show b
  show(w.mem n).mp (w.perm.mem_iff.mpr this)
 .intro h;rw[List.length_filter_eq_length_iff];intro n b;have:=w.perm.mem_iff.mp<|(w.mem n).mpr (h n b);show(CF.mp this).2
def bV(ns:List<|Nd S):Prop:=ns.Pairwise λa b=>a.num<b.num
def bY(ns:List<|Nd S):Prop:=(ns.map λn=>(n.par,n.nm)).Nodup
structure Tree(ns:List<|Nd S):Prop where
 rise:bV ns
 own:bY ns
 down:∀n∈ns,Reach ns 0 n
def adj:List (Nd S)->Bool
 |a::b::r=>decide (a.num<b.num)&&adj (b::r)
 |_=>true
theorem ui:∀ns:List<|Nd S,adj ns=true↔bV ns
 |[]=>by simp[adj,bV]
 |[a]=>by simp[adj,bV]
 |a::b::r=>by
  unfold adj;rw[D7,(ui (b::r)),C8];unfold bV;rw[E1 (a:=a)];constructor
  .rintro⟨h,p⟩;show{λx c=>?_,p};rcases B3.mp c with rfl|c
   .show h
   .have:=(E1.mp p).1 x c
    lia
  grind
theorem uj:∀ns:List<|Nd S,adj ns=((ns.zip<|ns.drop 1).all λp=>decide<|p.1.num<p.2.num)
 |[]=>rfl
 |[a]=>rfl
 |a::b::r=>by
  have c:=uj (b::r);unfold adj
  simp_all
inductive Built:List (Nd S)->Prop where
 |nil:Built []
 |snoc {l:List (Nd S)} {n:Nd S}:Built l->(n.par=0\/∃m∈l,m.st=none/\m.num=n.par)->Built (l++[n])
theorem Built.down{l:List (Nd S)}(b:Built l):∀n∈l,Reach l 0 n:=by
 induction b with
 |nil=>simp
 |@snoc l n b h ih =>
  intro x a;have c:∀y∈l,y∈l++[n]:=λy hy=>CT _ hy;rcases C6.mp a with a|a
  .show(ih x a).mono c
  .have e:x=n:=by simpa using a
   subst e;rcases h with h|⟨m,g,f,d⟩
   .show .base (by simp) h
   .show .step ((ih m g).mono c) f (by simp) d.symm
theorem AB{l t:List (Nd S)}(b:Built l)(p:t.Perm l)(f:t.Pairwise λa b=>a.num<=b.num)(d:(l.map (·.num)).Nodup)(e:bY l):Tree t:=by
 show{?_,?_,λn c=>?_}
 .have c:=((p.map _).nodup_iff).mpr d;unfold Nodup at c;rw[C0]at c;show f.imp₂ (λa b h1 h2=>by lia) c
 .show((p.map _).nodup_iff).mpr e
 .show(b.down n<|p.mem_iff.mp c).mono λx g=>p.mem_iff.mpr g
theorem qS{t:List _}(c:bV t){a b:Nd S}(d:a∈t)(f:b∈t)(e:a.num=b.num):a=b:=by
 unfold bV at c
 induction t with
 |nil=>simp at d
 |cons x r g =>
  rw[E1]at c
  grind
end
section
variable{S:Type}
inductive PathTo(ns:List<|Nd S):Int->List S->Prop where
 |top:PathTo ns 0 []
 |node {n:Nd S} {p:List S}:n∈ns->PathTo ns n.par p->PathTo ns n.num (p++[n.nm])
structure Tree1(ns:List<|Nd S):Prop extends Tree ns where
 pos:∀n∈ns,1<=n.num
theorem Tree1.inj{ns:List _}(T:Tree1 ns){a b:Nd S}(c:a∈ns)(d:b∈ns)(e:a.num=b.num):a=b:=qS T.rise c d e
theorem PathTo.zero{ns:List _}(T:Tree1 ns){k:Int}{p:List S}(h:PathTo ns k p)(e:k=0):p=[]:=by
 cases h with
 |top=>rfl
 |@node n p hm _=>have:=T.pos n hm;lia
theorem PathTo.inv{ns:List _}(T:Tree1 ns){k:Int}{p:List S}(b:PathTo ns k p){n:Nd S}(a:n∈ns)(e:k=n.num):∃q,p=q++[n.nm]/\PathTo ns n.par q:=by
 cases b with
 |top=>have:=T.pos n a;lia
 |@node m q hm hq =>
  have:=T.inj hm a e
  grind
theorem PathTo.uniq{ns:List _}(T:Tree1 ns){k:Int}{p:List S}(b:PathTo ns k p):∀{q:List S},PathTo ns k q->p=q:=by
 induction b with
 |top=>intro q a;show(a.zero T rfl).symm
 |@node n p hm _ ih =>
  intro q a;let(d,e,c):=a.inv T hm rfl
  grind
theorem PathTo.ex{ns:List _}(T:Tree1 ns){n:Nd S}(b:n∈ns):∃p,PathTo ns n.num p:=by
 have key:∀x,Reach ns 0 x->∃p,PathTo ns x.num p:=by
  intro x r
  induction r with
  |base a hp=>show{_,.node a (by rw[hp];show .top)}
  |step _ _ a hp c =>
   let(p,h):=c;show{_,.node a (by rw[hp];show h)}
 show key n<|T.down n b
theorem PathTo.key{ns:List _}(T:Tree1 ns):∀{p:List S}{k j:Int},PathTo ns k p->PathTo ns j p->k=j:=by
 have C:∀(m:Nat){p:List S}{k j:Int},p.length=m->PathTo ns k p->PathTo ns j p->k=j:=by
  intro m
  induction m with
  |zero =>
   intro p k j a h1 h2;have e:=E2.mp a;subst e;have z:∀{k:Int}{q:List S},PathTo ns k q->q=[]->k=0:=by
    intro k q h e;cases h with
    |top=>rfl
    |node _ _=>simp at e
   rw[z h1 rfl,z h2 rfl]
  |succ m A =>
   intro p k j a h1 h2;have z:∀{k:Int}{q:List S},PathTo ns k q->q=p->∃n q',n∈ns/\n.num=k/\p=q'++[n.nm]/\PathTo ns n.par q':=by
    intro k q h e;cases h with
    |top=>rw[<-e]at a;simp at a
    |@node n q' hm b=>show⟨n,q',hm,rfl,e.symm,b⟩
   let(n,q,w,g,c,y):=z h1 rfl;let(n',q',x,l,o,b):=z h2 rfl;let(r,s):=List.append_inj' (c.symm.trans o) rfl;subst r;have t:n.nm=n'.nm:=by simpa using s
   have:n=n':=by
    let(i,hi,d):=G0.mp w;let(B,v,f):=G0.mp x;have:(ns.map λn=>(n.par,n.nm))[i]'(by simpa using hi)=(ns.map λn=>(n.par,n.nm))[B]'(by simpa using v):=by
     rw[getElem_map,getElem_map,d,f,t,(A (by rw[c]at a;simpa using a) y b)]
    have u:=(getElem_inj T.own).mp this;subst u;rw[<-d,<-f]
   rw[<-g,<-l,this]
 intro p k j h1 h2;show C _ rfl h1 h2
theorem PathTo.chain{ns:List _}(T:Tree1 ns){k:Int}{p:List S}(h:PathTo ns k p):∃l:List Int,l.length=p.length/\l.Nodup/\∀x∈l,x∈ns.map (·.num)/\∃q,PathTo ns x q/\q.length<=p.length:=by
 induction h with
 |top=>show{[],rfl,nodup_nil,by simp}
 |@node n p hm hp ih =>
  let(l,e,o,f):=ih;show{n.num::l,by simp[e],E7.mpr {λi=>?_,o},λx m=>?_}
  .let(_,q,j,d):=f _ i;have:=j.uniq T<|.node hm hp;rw[this]at d;simp at d
   lia
  .rcases B3.mp m with g|h'
   .rw[g];show{A3.mpr ⟨n,hm,rfl⟩,_,.node hm hp,A8 _}
   .let(a,q,b,c):=f x h';show{a,q,b,by simp;lia}
theorem PathTo.len{ns:List _}(T:Tree1 ns){k:Int}{p:List S}(a:PathTo ns k p):p.length<=ns.length:=by
 let(l,e,d,b):=a.chain T;rw[<-e];have:=Nodup.length_le_of_subset d λx c=>(b x c).1;rw[A1]at this;show this
inductive Und(ns:List<|Nd S)(g:Int):Int->Prop where
 |here:Und ns g g
 |up {n:Nd S}:n∈ns->Und ns g n.par->Und ns g n.num
theorem Und.zero{ns:List (Nd S)}(T:Tree1 ns){g k:Int}(h:Und ns g k)(e:k=0):g=0:=by
 cases h with
 |here=>show e
 |@up n hm _=>have:=T.pos n hm;lia
theorem Und.inv{ns:List _}(T:Tree1 ns){g k:Int}(a:Und ns g k){n:Nd S}(b:n∈ns)(e:k=n.num)(c:k≠g):Und ns g n.par:=by
 cases a with
 |here=>grind
 |@up m hm hu =>
  have:=T.inj hm b e
  grind
theorem jO{ns:List _}(T:Tree1 ns){n:Nd S}(a:n∈ns):n.par=0\/∃m∈ns,m.st=none/\m.num=n.par:=by
 have:=T.down n a;cases this with
 |base _ hp=>show .inl hp
 |@step m _ hr hf _ hp=>show .inr ⟨m,hr.mem,hf,hp.symm⟩
theorem oq{ns:List _}(T:Tree1 ns){g:Int}{n:Nd S}(a:Reach ns g n):Und ns g n.num/\∃p q,PathTo ns n.num (p++q)/\q≠[]/\PathTo ns g p:=by
 induction a with
 |@base n hm hp =>
  let(p,a):=PathTo.ex T hm;let(q,e,b):=a.inv T hm rfl;show{.up hm (by rw[hp];show .here),q,[n.nm],by grind,by simp,by grind}
 |@step m n hr hf hm hp ih =>
  let(c,p,q,h1,h2,h3):=ih;show{.up hm (by grind),p,q++[n.nm],?_,by simp,h3};rw[<-append_assoc];show .node hm (by grind)
theorem eJ{ns:List _}(T:Tree1 ns){g:Int}{n:Nd S}(h:Reach ns g n):n.num≠g:=by
 let(_,p,q,h1,h2,h3):=oq T h;intro e;rw[e]at h1;have:=h1.uniq T h3
 simp_all
theorem vN{ns:List _}(T:Tree1 ns){g:Int}(q:1<=g):∀{k:Int}{p:List S},PathTo ns k p->∀{n:Nd S},n∈ns->k=n.num->Und ns g k->k≠g->Reach ns g n:=by
 intro k p h
 induction h with
 |top=>intro n a e;have:=T.pos n a;lia
 |@node m p hm hp ih =>
  intro n a e o j;have:=T.inj hm a e;subst this;have d:=o.inv T hm rfl j
  by_cases c:m.par=g
  .show .base hm c
  .rcases jO T hm with f|⟨r,l,i,b⟩
   .have:=d.zero T f
    lia
   .show .step (ih l b.symm d c) i hm b.symm
theorem eE{ns:List _}(T:Tree1 ns){g:Int}(b:1<=g){n:Nd S}(a:n∈ns):Reach ns g n↔n.num≠g/\Und ns g n.num:=by
 constructor
 .intro h;show{eJ T h,(oq T h).1}
 .rintro⟨h1,h2⟩;let(p,hp):=PathTo.ex T a;show vN T b hp a rfl h2 h1
end
section
variable{S:Type}
theorem ou{t:List (Nd S)}:bV t↔(t.map (·.num)).Pairwise (λa b:Int=>a<b):=by
 unfold bV
 grind
def Fold(t:List<|Nd S)(p:Int):Prop:=p=0\/∃m∈t,m.st=none/\m.num=p
theorem made{t u:List _}{n:Nd S}(T:Tree1 t)(f:u.Perm (n::t))(g:bV u)(h:1<=n.num)(d:Fold t n.par)(i:∀m∈t,¬(m.par=n.par/\m.nm=n.nm)):Tree1 u:=by
 have b:∀x,x∈u↔x=n\/x∈t:=λx=>by grind
 have c:=λx a=>(b x).mpr (.inr a);show{{g,?_,λx a=>?_},λx a=>?_}
 .unfold bY;rw[(f.map _).nodup_iff,CM,E7];show{λa=>?_,T.own}
  grind
 .rcases (b x).mp a with e|a
  .subst e;rcases d with e|⟨m,h2,h3,e⟩
   .show .base a e
   .show .step ((T.down m h2).mono c) h3 a e.symm
  .show(T.down x a).mono c
 .rcases (b x).mp a with e|a
  .grind
  .show T.pos x a
def put(z:Nd S)(m:Nd S):Nd S:=if m.num=z.num then z else m
theorem uk(z m:Nd S):(put z m).num=m.num:=by
 unfold put
 grind
theorem bj{z m:Nd S}(h:m.num≠z.num):put z m=m:=by unfold put;rw[A4 h]
theorem cK{z m:Nd S}(h:m.num=z.num):put z m=z:=by unfold put;rw[A6 h]
theorem xP(z:Nd S)(t:List _):(t.map<|put z).map (·.num)=t.map (·.num):=by
 rw[A7];apply D4;intro m _;show uk z m
theorem qT{z:Nd S}{t:List _}(h:bV t):bV (t.map<|put z):=by
 rw[ou,xP,<-ou];show h
theorem um{z:Nd S}{t:List _}(T:Tree1 t):∀n∈t.map (put z),1<=n.num:=λn b=>by
 let(m,a,rfl):=A3.mp b;rw[uk];show T.pos m a
theorem wrote{t:List _}{y z:Nd S}(T:Tree1 t)(d:y∈t)(c:z.num=y.num)(f:z.par=y.par)(g:z.nm=y.nm)(j:y.st≠none):Tree1 (t.map<|put z):=by
 have k:∀m∈t,(put z m).par=m.par/\(put z m).nm=m.nm:=λm b=>by
  by_cases h:m.num=z.num
  .have:=T.inj b d<|h.trans c;subst this;rw[cK h];show⟨f,g⟩
  .rw[bj h];show⟨rfl,rfl⟩
 show{{qT T.rise,?_,λn i=>?_},um T}
 .have:(t.map<|put z).map (λn=>(n.par,n.nm))=t.map (λn=>(n.par,n.nm)):=by
   rw[A7];apply D4;intro m b;change((put z m).par,(put z m).nm)=_
   grind
  unfold bY;rw[this];show T.own
 .let(m,b,rfl):=A3.mp i;have key:∀x,Reach t 0 x->Reach (t.map<|put z) 0 (put z x):=by
   intro x r
   induction r with
   |@base x hx hp=>show .base (A3.mpr ⟨x,hx,rfl⟩) (by grind)
   |@step a x ra hf hx hp ih =>
    rw[bj λe=>j (by rw[<-T.inj ra.mem d (e.trans c)];show hf)]at ih;show .step ih hf (A3.mpr ⟨x,hx,rfl⟩) (by grind)
  show key m<|T.down m b
theorem oz{t:List _}{k:Int}{n:Nd S}(r:Reach t 0 n)(a:¬Und t k n.num){u:List _}(b:∀x∈t,¬Und t k x.num->x∈u):Reach u 0 n:=by
 induction r with
 |@base n hm hp=>show .base (b n hm a) hp
 |@step m n rm hf hn hp ih=>show .step (ih λc=>a<|.up hn (by grind)) hf (b n hn a) hp
theorem dropped{t:List _}{k:Int}(T:Tree1 t){p:Nd S->Bool}(b:∀n∈t,p n=true↔¬Und t k n.num):Tree1 (t.filter p):=by
 show{{T.rise.sublist D1,T.own.sublist<|D1.map _,λn a=>?_},λn a=>T.pos n (CF.mp a).1};let(h1,h2):=CF.mp a;show oz (T.down n h1) ((b n h1).mp h2) λx c d=>CF.mpr {c,(b x c).mpr d}
theorem moved{t:List (Nd S)}{y z:Nd S}(T:Tree1 t)(g:y∈t)(j:z.num=y.num)(D:z.st=y.st)(v:Fold t z.par)(G:z.par≠0->¬Und t y.num z.par)(H:∀m∈t,m.num≠y.num->¬(m.par=z.par/\m.nm=z.nm)):Tree1 (t.map<|put z):=by
 have o:z∈t.map (put z):=A3.mpr ⟨y,g,cK j.symm⟩;have i:∀m∈t,m.num≠y.num->m∈t.map (put z):=λm d h=>A3.mpr {m,d,bj (by grind)};have s:∀n∈t,¬Und t y.num n.num->Reach (t.map<|put z) 0 n:=λn c h=>oz (T.down n c) h λx A f=>i x A λe=>f (by rw[e];show .here);have p:Reach (t.map<|put z) 0 z:=by
  rcases v with e|⟨m,h2,h3,e⟩
  .show .base o e
  .have E:z.par≠0:=λC=>by have:=T.pos m h2;lia
   show .step (s m h2 (by grind)) h3 o e.symm
 show{{qT T.rise,?_,λn c=>?_},um T}
 .have h:=T.own;have w:=T.rise;unfold bY bV Nodup at *;rw[C0]at h;rw[A7,C0];show(h.and w).imp_of_mem λ{a b} l F u=>?_;let(h1,h2):=u;change((put z a).par,(put z a).nm)≠((put z b).par,(put z b).nm)
  by_cases ea:a.num=y.num
  .have q:b.num≠y.num:=by lia
   rw[cK (by grind),bj (by grind)]
   grind
  .by_cases q:b.num=y.num
   .rw[cK (m:=b) (by grind),bj (by grind)]
    grind
   .rw[bj (by grind),bj (by grind)];show h1
 .let(m,d,rfl):=A3.mp c
  by_cases k:m.num=y.num
  .rw[cK (by grind)];show p
  .rw[bj (by grind)]
   by_cases f:Und t y.num m.num
   .have r:Reach t y.num m:=(eE T (T.pos y g) d).mpr ⟨k,f⟩;clear f k d c
    induction r with
    |@base n c hp =>
     have B:z.st=none:=by
      rcases jO T c with e|⟨a,l,h3,e⟩
      .have:=T.pos y g;lia
      .have:a=y:=T.inj l g (e.trans hp)
       grind
     show .step p B (i n c<|eJ T (.base c hp)) (by rw[hp,j])
    |@step a n ra hfa c hp ih=>show .step ih hfa (i n c<|eJ T (.step ra hfa c hp)) hp
   grind
end
section
variable{S:Type}
inductive Deed(S:Type) where
 |make (n p:Int) (nm:S) (st:Option Int)
 |write (n st:Int)
 |move (n p:Int) (nm:S)
 |drop (n:Int)
inductive Wd where
 |known|noNode|notFile|notFolder|inside|taken
def gQ(t:List<|Nd S)(k:Int):Prop:=∃m∈t,m.num=k
inductive Told(t:List<|Nd S):Deed S->Sum Wd (List<|Nd S)->Prop where
 |mKnown {n p:Int} {nm:S} {st:Option Int}:gQ t n->Told t (.make n p nm st) (.inl .known)
 |mNo {n p:Int} {nm:S} {st:Option Int}:¬gQ t n->p≠0->¬gQ t p->Told t (.make n p nm st) (.inl .noNode)
 |mFile {n p:Int} {nm:S} {st:Option Int} {m:Nd S}:¬gQ t n->p≠0->m∈t->m.num=p->m.st≠none->Told t (.make n p nm st) (.inl .notFolder)
 |mTaken {n p:Int} {nm:S} {st:Option Int} {m:Nd S}:¬gQ t n->Fold t p->m∈t->m.par=p->m.nm=nm->Told t (.make n p nm st) (.inl .taken)
 |made {n p:Int} {nm:S} {st:Option Int} {u:List (Nd S)}:¬gQ t n->Fold t p->(∀m∈t,¬(m.par=p/\m.nm=nm))->u.Perm (⟨n,p,nm,st⟩::t)->bV u->Told t (.make n p nm st) (.inr u)
 |wNo {n st:Int}:¬gQ t n->Told t (.write n st) (.inl .noNode)
 |wFold {n st:Int} {y:Nd S}:y∈t->y.num=n->y.st=none->Told t (.write n st) (.inl .notFile)
 |wrote {n st:Int} {y:Nd S}:y∈t->y.num=n->y.st≠none->Told t (.write n st) (.inr<|t.map (put ⟨n,y.par,y.nm,some st⟩))
 |vNo {n p:Int} {nm:S}:¬gQ t n->Told t (.move n p nm) (.inl .noNode)
 |vNoP {n p:Int} {nm:S}:gQ t n->p≠0->¬gQ t p->Told t (.move n p nm) (.inl .noNode)
 |vFile {n p:Int} {nm:S} {m:Nd S}:gQ t n->p≠0->m∈t->m.num=p->m.st≠none->Told t (.move n p nm) (.inl .notFolder)
 |vIn {n p:Int} {nm:S}:gQ t n->Fold t p->p≠0->Und t n p->Told t (.move n p nm) (.inl .inside)
 |vTaken {n p:Int} {nm:S} {m:Nd S}:gQ t n->Fold t p->(p≠0->¬Und t n p)->m∈t->m.num≠n->m.par=p->m.nm=nm->Told t (.move n p nm) (.inl .taken)
 |moved {n p:Int} {nm:S} {y:Nd S}:y∈t->y.num=n->Fold t p->(p≠0->¬Und t n p)->(∀m∈t,m.num≠n->¬(m.par=p/\m.nm=nm))->Told t (.move n p nm) (.inr<|t.map (put ⟨n,p,nm,y.st⟩))
 |dNo {n:Int}:¬gQ t n->Told t (.drop n) (.inl .noNode)
 |dropped {n:Int} {f:Nd S->Bool}:gQ t n->(∀m∈t,f m=true↔¬Und t n m.num)->Told t (.drop n) (.inr<|t.filter f)
def Deed.pos:Deed S->Prop
 |.make n _ _ _=>1<=n
 |_=>True
theorem Told.tree{t u:List _}(T:Tree1 t){d:Deed S}(h:Told t d<|.inr u)(j:d.pos):Tree1 u:=by
 generalize a:(Sum.inr u)=r at h;cases h with
 |made c b e f g =>
  injection a with a
  subst a;show TW.made T f g j b λm i=>e m i
 |wrote c b e =>
  injection a with a
  subst a b;show TW.wrote T c rfl rfl rfl e
 |moved c b e f g =>
  injection a with a
  subst a b;show TW.moved T c rfl rfl e f g
 |dropped c b =>
  injection a with a
  subst a;show TW.dropped T b
 |_=>cases a
theorem Told.len{t u:List _}{d:Deed S}(g:Told t d<|.inr u):u.length<=t.length+1:=by
 generalize a:(Sum.inr u)=r at g;cases g with
 |made b c e f h =>
  injection a with a
  subst a;rw[f.length_eq];simp
 |wrote b c e =>
  injection a with a
  subst a;simp
 |moved b c e f h =>
  injection a with a
  subst a;simp
 |dropped b c =>
  injection a with a
  subst a;show Nat.le_succ_of_le<|D0 _ _
 |_=>cases a
end
end TW
namespace L2
open PySem PySem.Spec PyProof.Rows
section
variable{P:zi}{w:xr}{K:Frag}{mg:Str->Option zy}{base:qq}
theorem LcOk.mk'{X:Cx}{a:Scope}{cl:List _}(fs:List Str)(j:a.kind=.function)(f:closureFor a X.env=pure cl)(l:∀x∈a.names,x.2=.local->a.names.lookup x.1=some .local)(m:∀x∈a.names,x.2≠.cell)(g:∀y∈cl,X.env.cells.lookup y.1=some y.2)(n:cl.map (·.1)=fs)(d:a.names.all (λy=>!(y.2==.free)||fs.contains y.1)=true):LcOk X a cl:=by
 show{j,f,l,m,λx c h=>g _<|CK h,λx h=>?_};have b:∃k,(x,k)∈(relabel a X.env).names/\(k=.cell\/k=.free):=by
  rcases h with h|h
  .show{_,CK h,.inl rfl}
  .show{_,CK h,.inr rfl}
 let(k,b,p):=b;let((y,k0),hy,e):=A3.mp b;have i:x=y/\k0=.free:=by
  cases k0 with
  |free =>
   grind
  |cell=>grind
  |_ =>
   grind
 let(rfl,rfl):=i;have:=G5.mp d _ hy;have o:fs.contains x=true:=by simpa using this
 cases e:cl.lookup x with
 |some c=>grind
 |none =>
  grind
end
end L2
namespace TK
open PySem L2
abbrev Nd:=TW.Nd Str
def stV:Option Int->V
 |none=>.non
 |some i=>.int i
def vals(n:Nd):List V:=[.int n.num,.int n.par,.str n.nm,stV n.st]
abbrev ZN:=List<|zv×Nd
def aI(zs:ZN):List V:=(zs.map (·.1)).map V.ref
def nds(zs:ZN):List Nd:=zs.map (·.2)
def At(H:Hp)(zs:ZN):Prop:=∀z∈zs,H z.1=some (.tup<|vals z.2)
theorem At.same{H a:Hp}{zs:ZN}(b:At H zs)(s:Same H a):At a zs:=λz c=>s _ _<|b z c
theorem ba(zs:ZN):(aI zs).length=zs.length:=by simp[aI]
theorem au(zs:ZN):(nds zs).length=zs.length:=by simp[nds]
theorem db{zs:ZN}{i:Nat}{x:V}(h:(aI zs)[i]?=some x):∃z,zs[i]?=some z/\x=.ref z.1:=by
 unfold aI at h
 grind
theorem jo{zs:ZN}{i:Nat}{z:zv×Nd}(h:zs[i]?=some z):(aI zs)[i]?=some (.ref z.1):=by
 unfold aI
 grind
theorem at0(n:Nd):atI (vals n) 0=some (.int n.num):=rfl
theorem at1(n:Nd):atI (vals n) 1=some (.int n.par):=rfl
theorem at2(n:Nd):atI (vals n) 2=some (.str n.nm):=rfl
theorem at3(n:Nd):atI (vals n) 3=some (stV n.st):=rfl
theorem sH{c:St}(d:c.length=2):∃a b,c=[a,b]:=by
 match c,d with
 |[a,b],_=>grind
theorem one_of{b:St}(c:b.length=1):∃a,b=[a]:=by
 match b,c with
 |[a],_=>grind
theorem aF{n:Nat}(h:n<=1000):n<=sizeLine:=F1<|aU h
theorem le2:2<=sizeLine:=aF (by decide)
theorem jP{A:xx}{k:Nat}(a:Room k A):A.units+4<cLine:=FC (Nat.add_le_add_left (by decide) _) a.units
def plK(n:Nd):List Key:=[.inl n.par,.inr n.nm]
theorem vO(zs:List Nd):(zs.map plK).Nodup↔TW.bY zs:=by
 unfold TW.bY Nodup;rw[C0,C0];have e:∀a b:Nd,(plK a≠plK b)=((a.par,a.nm)≠(b.par,b.nm)):=λa b=>by
  simp[plK]
 simp only[e]
def ins(zs:ZN)(k:Int):ZN:=zs.filter λz=>decide<|z.2.par=k
theorem uo(zs:ZN)(k:Int):nds (ins zs k)=TW.inside (nds zs) k:=by
 unfold nds ins TW.inside;rw[filter_map];rfl
theorem gR(zs:ZN)(z:zv×Nd)(k:Int):ins (zs++[z]) k=if z.2.par=k then ins zs k++[z]else ins zs k:=by
 unfold ins
 grind
theorem AC{zs:ZN}{k:Int}{z:zv×Nd}(h:z∈ins zs k):z∈zs:=(CF.mp h).1
theorem jQ(zs:ZN)(z:zv×Nd):aI (zs++[z])=aI zs++[.ref z.1]:=by simp[aI]
theorem xQ{zs:ZN}(h:aI zs=[]):zs=[]:=by
 cases zs with
 |nil=>rfl
 |cons a r=>simp[aI]at h
structure Mem(H0 H:Hp)(d:zv)(L:Int->zv)(kvs:List<|Key×V)(xs:ZN)(dn:List Int):Prop where
 dict:H d=some (.dK kvs)
 d0:H0 d=none
 len:kvs.length<=xs.length
 val:∀k:Int,bu kvs (Sum.inl k:Key)=if k∈dn\/ins xs k=[]then none else some (.ref<|L k)
 at':∀k,k∉dn->ins xs k≠[]->H (L k)=some (.lst<|aI (ins xs k))/\H0 (L k)=none
 inj:∀k k',k∉dn->k'∉dn->ins xs k≠[]->ins xs k'≠[]->L k=L k'->k=k'
 same:Same H0 H
theorem Mem.grow{H0 H a:Hp}{d:zv}{b:Int->zv}{kvs:List _}{xs:ZN}{dn:List Int}(m:Mem H0 H d b kvs xs dn)(s:Same H a):Mem H0 a d b kvs xs dn :=
 {s _ _ m.dict,m.d0,m.len,m.val,λk h1 h2=>{s _ _ (m.at' k h1 h2).1,(m.at' k h1 h2).2},m.inj,m.same.trans s}
theorem Mem.other{H0 H:Hp}{d p:zv}{c:Int->zv}{kvs:List _}{xs:ZN}{dn:List Int}{g:List Int}{o:HO}(m:Mem H0 H d c kvs xs dn)(j:H p=some (.lst<|g.map V.int))(h:H0 p=none):Mem H0 (upd H p o) d c kvs xs dn:=by
 show{?_,m.d0,m.len,m.val,λk h1 h2=>{?_,(m.at' k h1 h2).2},m.inj,aV h m.same}
 .rw[aj]
  .show m.dict
  .intro e;have:=m.dict;grind
 .have b:=(m.at' k h1 h2).1;rw[aj]
  .show b
  .intro e;rw[e,j]at b;injection b with b
   injection b with b
   cases f:ins xs k with
   |nil=>show h2 f
   |cons a r =>
    rw[f]at b;cases g with
    |nil=>simp[aI]at b
    |cons i l=>simp[aI]at b
theorem Mem.start{H0:Hp}{d:zv}(a:H0 d=none):Mem H0 (upd H0 d<|.dK []) d (λ_=>d) [] [] [] :=
 {ac,a,by simp,λk=>by rfl,λk _ a=>absurd rfl a,λk b _ _ a=>absurd rfl a,ag a}
theorem Mem.hit{H0 H:Hp}{d:zv}{a:Int->zv}{kvs:List (Key×V)}{xs:ZN}{z:zv×Nd}(m:Mem H0 H d a kvs xs [])(f:ins xs z.2.par≠[]):
  Mem H0 (upd H (a z.2.par)<|.lst (aI (ins xs z.2.par)++[.ref z.1])) d a kvs (xs++[z]) []:=by
 have i:=(m.at' z.2.par (by simp) f);have j:d≠a z.2.par:=λe=>by
  have:=m.dict
  grind
 have c:∀k,ins (xs++[z]) k=[]↔ins xs k=[]:=λk=>by
  rw[gR]
  by_cases h:z.2.par=k
  .simp_all
  grind
 show{by rw[aj j];show m.dict,m.d0,by have:=m.len;simp;lia,λk=>?_,λk h1 h2=>?_,λk g _ _ h2 h3 e=>m.inj k g (by simp) (by simp) (λh=>h2<|(c k).mpr h) (λh=>h3<|(c g).mpr h) e,aV i.2 m.same}
 .rw[m.val k]
  grind
 .have b:ins xs k≠[]:=λh=>h2<|(c k).mpr h;show{?_,(m.at' k h1 b).2}
  by_cases h:z.2.par=k
  .subst h;rw[ac,gR,A6 rfl,jQ]
  .rw[aj,gR,A4 h]
   .show(m.at' k h1 b).1
   .intro e;show h<|m.inj _ _ (by simp) (by simp) f b e.symm
theorem Mem.fresh{H0 H:Hp}{d q:zv}{b:Int->zv}{kvs:List (Key×V)}{xs:ZN}{z:zv×Nd}(m:Mem H0 H d b kvs xs [])(n:ins xs z.2.par=[])(f:H q=none):
  Mem H0 (upd (upd (upd H q<|.lst []) d<|.dK (bW kvs (Sum.inl z.2.par:Key)<|.ref q)) q<|.lst ([]++[.ref z.1])) d (λk=>if k=z.2.par then q else b k) (bW kvs (Sum.inl z.2.par:Key)<|.ref q) (xs++[z]) []:=by
 have l:d≠q:=λe=>by
  have:=m.dict
  grind
 have g:∀k,ins xs k≠[]->b k≠q:=λk h e=>by
  have:=(m.at' k (by simp) h).1
  grind
 have ld:∀k,ins xs k≠[]->b k≠d:=λk h e=>by
  have:=(m.at' k (by simp) h).1;rw[e,m.dict]at this;cases this
 have i:H0 q=none:=m.same.free f;have a:∀k,k≠z.2.par->ins (xs++[z]) k=ins xs k:=λk h=>by rw[gR,A4 λe=>h e.symm]
 have j:ins (xs++[z]) z.2.par=[z]:=by rw[gR,A6 rfl,n];rfl
 show{by rw[aj l,ac],m.d0,?_,λk=>?_,λk h1 h2=>?_,λk c _ _ h2 h3 e=>?_,?_}
 .have h1:=m.len;have h2:=eS kvs (Sum.inl z.2.par:Key) (.ref q)
  grind
 .rw[eI]
  by_cases h:k=z.2.par
  .grind
  .rw[A4 λe=>h<|Sum.inl.inj e,m.val k,a k h,A4 h]
 .by_cases h:k=z.2.par
  .subst h;simp only[D9];show{by rw[ac,j];rfl,i}
  .rw[a k h]at h2;simp only[A4 h];show{?_,(m.at' k h1 h2).2};rw[aj<|g k h2,aj<|ld k h2,aj<|g k h2,a k h];show(m.at' k h1 h2).1
 .by_cases h:k=z.2.par
  .grind
  .rw[a k h]at h2
   by_cases h':c=z.2.par
   .grind
   .rw[a c h']at h3;simp only[A4 h,A4 h']at e;show m.inj k c (by simp) (by simp) h2 h3 e
 .show aV i<|aV m.d0 (m.same.trans<|ag f)
theorem vP{κ:Type}[DecidableEq κ](kvs:List _)(k j:κ):bu (dQ kvs k) j=if j=k then none else bu kvs j:=by
 induction kvs with
 |nil=>simp[dQ,bu]
 |cons p r a =>
  by_cases e:p.1=k
  .rw[vx e,a]
   by_cases h:j=k
   .grind
   .rw[A4 h,A4 h,bg λz=>h<|z.symm.trans e]
  .rw[vz e]
   by_cases h:p.1=j
   .rw[bF h,A4 λz=>e<|h.trans z,bF h]
   .rw[bg h,a,bg h]
theorem Mem.drop{H0 H:Hp}{d:zv}{b:Int->zv}{kvs:List _}{xs:ZN}{dn:List Int}(m:Mem H0 H d b kvs xs dn)(x:Int):Mem H0 (upd H d<|.dK (dQ kvs<|Sum.inl x)) d b (dQ kvs<|Sum.inl x) xs (x::dn):=by
 have ld:∀k,k∉dn->ins xs k≠[]->b k≠d:=λk c h e=>by
  have:=(m.at' k c h).1;rw[e,m.dict]at this;cases this
 have a:∀k,k∉x::dn->k∉dn:=λk h h'=>h<|B1 _ h';show{ac,m.d0,CL (qj _ _) m.len,λk=>?_,λk h1 h2=>?_,λk f c h1 h2 h3 e=>m.inj k f (a k c) (a f h1) h2 h3 e,aV m.d0 m.same}
 .rw[vP,m.val k]
  grind
 .rw[aj<|ld k (a k h1) h2];show m.at' k (a k h1) h2
theorem Mem.skip{H0 H:Hp}{d:zv}{b:Int->zv}{kvs:List _}{xs:ZN}{dn:List Int}(m:Mem H0 H d b kvs xs dn){x:Int}(g:x∈dn\/ins xs x=[]):Mem H0 H d b kvs xs (x::dn):=by
 have a:∀k,k∉x::dn->k∉dn:=λk h h'=>h<|B1 _ h';show{m.dict,m.d0,m.len,λk=>?_,λk h1 h2=>m.at' k (a k h1) h2,λk c f h1 h2 h3 e=>m.inj k c (a k f) (a c h1) h2 h3 e,m.same};rw[m.val k]
 grind
theorem xR{Q:VK}{H0 H:Hp}{d q:zv}{f:Int->zv}{kvs:List (Key×V)}{zs:ZN}{b:List Int}{x:Int}(m:Mem H0 H d f kvs zs b)(l:H q=some (.lst []))(k:∀g c o hs,Mem H0 c d f o zs (x::b)->c g=some (.lst<|aI hs)->nds hs=TW.here (nds zs) b x->(∀z∈hs,z∈zs)->(∀p,p≠d->c p=H p)->(hs=[]->g=q)->Q (.ref g) c):
  ∃kvs k,H d=some (.dK kvs)/\V.int x=kV k/\(∀v,bu kvs k=some v->Q v (upd H d<|.dK (dQ kvs k)))/\(bu kvs k=none->Q (.ref q) H):=by
 show{kvs,.inl x,m.dict,rfl,λv i=>?_,λj=>?_}
 .rw[m.val x]at i
  by_cases h:x∈b\/ins zs x=[]
  .grind
  .rw[A4 h]at i;have h2:ins zs x≠[]:=λz=>h<|.inr z;cases i;have a:=(m.at' x (λz=>h<|.inl z) h2).1;show k (f x) _ _ (ins zs x) (m.drop x) (by rw[aj (λe=>by rw[e,m.dict]at a;cases a)];show a) ?_ (λz n=>AC n) (λp hp=>aj hp) λe=>absurd e h2;rw[uo];unfold TW.here;grind
 .rw[m.val x]at j
  by_cases h:x∈b\/ins zs x=[]
  .show k q _ _ [] (m.skip h) l ?_ (by simp) (λp _=>rfl) λ_=>rfl;unfold TW.here
   by_cases h1:x∈b
   .rw[A6 h1];rfl
   .rw[A4 h1];rcases h with h|h
    .grind
    .rw[<-uo,h]
  grind
theorem uq{H:Hp}{p d:zv}{c:ZN}{f:List Int}(h:H p=some (.lst<|f.map V.int))(b:H d=some (.lst<|aI c))(g:c≠[]):d≠p:=by
 intro e;rw[e,h]at b;injection b with b
 injection b with b
 cases c with
 |nil=>show g rfl
 |cons a r =>
  cases f with
  |nil=>simp[aI]at b
  |cons i j=>simp[aI]at b
def jp(H:Hp)(p:zv):Nat:=match H p with
 |some (.lst xs)=>xs.length
 |_=>0
theorem fQ{H:Hp}{p:zv}{xs:List V}(h:H p=some (.lst xs)):jp H p=xs.length:=by unfold jp;rw[h]
def eK(l:List Nd):List V:=(l.map (·.num)).map V.int
inductive ScrAt(K:Frag)(H:Hp)(a:zv):Prop
 |mk (ns:List Int) (_:SqL K H a<|ns.map V.int)
theorem ScrAt.same{K:Frag}{H b:Hp}{a:zv}(c:ScrAt K H a)(s:Same H b):ScrAt K b a:=let⟨ns,e⟩:=c;⟨ns,s.seq e⟩
theorem qU{ns:List Int}{i:Int}(a:0<=i)(b:i<ns.length):∃j,atI (ns.map V.int) i=some (.int j):=by
 show{ns[i.toNat]'(by lia),?_};have:=pe (xs:=ns.map V.int) (j:=i.toNat) (v:=.int<|ns[i.toNat]'(by lia)) (by grind)
 grind
inductive HasC(P:zi)(w:xr)(K:Frag)(mg:Str->Option zy)(base:qq)(C:CXT)(k:Nat)(x:Str)(ps:List Str)(sp:Sp):Prop
 |mk f fd (_:aE P w K mg base C k f fd ps sp) (_:mg x=some (.ref f)) (_:keepIn K (.ref f)=true) (_:br K fd ps [])
abbrev Has(P:zi)(w:xr)(K:Frag)(mg:Str->Option zy)(base:qq):=HasC P w K mg base CX0
def qV(n:Nd):Prop:=1<=n.num/\n.num<=12/\(n.nm="a"\/n.nm="b"\/n.nm="c"\/n.nm="abcde")/\(n.st=none\/n.st=some 0\/n.st=some 1\/n.st=some 2\/n.st=some 999)
structure Bd(zs:ZN)(lf:List Int):Prop where
 built:TW.Built<|nds zs
 nd:((nds zs).map (·.num)++lf).Nodup
 rng:∀x∈lf,1<=x/\x<=12
 own:TW.bY<|nds zs
 ok:∀z∈zs,qV z.2
theorem Bd.skip{zs:ZN}{a:List Int}(b:Bd zs a)(i:Nat):Bd zs (a.eraseIdx i) :=
 {b.built,Nodup.sublist (Sublist.append (Sublist.refl _)<|List.eraseIdx_sublist a i) b.nd,λx c=>b.rng x<|(List.eraseIdx_sublist a i).mem c,b.own,b.ok}
theorem mB:∀{l:List Int}{i:Nat}{x:Int},l[i]?=some x->(x::l.eraseIdx i).Perm l
 |a::l,0,x,h=>by grind
 |a::l,i+1,x,h=>by
  show(List.Perm.swap a x _).trans (List.Perm.cons a<|mB (by simpa using h))
 |[],i,x,h=>by simp at h
theorem Bd.add{zs:ZN}{a:List Int}{i:Nat}{q:zv}{n:Nd}(b:Bd zs a)(d:a[i]?=some n.num)(o:n.par∈0::TW.aX (nds zs))(r:∀z∈zs,¬(z.2.par=n.par/\z.2.nm=n.nm))(j:n.nm="a"\/n.nm="b"\/n.nm="c"\/n.nm="abcde")(k:n.st=none\/n.st=some 0\/n.st=some 1\/n.st=some 2\/n.st=some 999):Bd (zs++[(q,n)]) (a.eraseIdx i):=by
 have e:nds (zs++[(q,n)])=nds zs++[n]:=by simp[nds]
 show{?_,?_,λx c=>b.rng x<|(List.eraseIdx_sublist a i).mem c,?_,λz f=>?_}
 .rw[e];show .snoc b.built ?_;rcases B3.mp o with h|h
  .show .inl h
  .show .inr<|TW.kM.mp h
 .rw[e,CG,append_assoc];show((List.Perm.append_left _<|mB d).nodup_iff).mpr b.nd
 .rw[e];unfold TW.bY;rw[CG,nodup_append];show{b.own,by simp,λx c y hy=>?_};have p:y=(n.par,n.nm):=by simpa using hy
  let(m,l,rfl):=A3.mp c;let(z,f,rfl):=A3.mp l
  grind
 .rcases C6.mp f with h|h
  .show b.ok z h
  .have g:z=(q,n):=by simpa using h
   subst g;have:=b.rng _<|C3 d;show⟨this.1,this.2,j,k⟩
def tp(z:zv×Nd):sB:=(z.1,z.2.num,[.int z.2.par,.str z.2.nm,stV z.2.st])
def un(t:sB):zv×Nd:=(t.1,match t.2.2 with
 |[.int p,.str s,.int i]=>⟨t.2.1,p,s,some i⟩
 |[.int p,.str s,_]=>⟨t.2.1,p,s,none⟩
 | _=>{0,0,"",none})
theorem BP(z:zv×Nd):un (tp z)=z:=by
 let(a,(n,p,s,st)):=z;cases st<;>rfl
theorem back{zs:ZN}{ts:List _}(a:ts.Perm<|zs.map tp):(ts.map un).Perm zs/\(ts.map un).map tp=ts:=by
 constructor
 .have:=a.map un;have e:zs.map (un∘tp)=zs.map id:=D4 λz _=>BP z
  simp_all
 .rw[A7,D4 (g:=id)]
  .simp
  .intro t b;let(z,_,rfl):=A3.mp<|a.mem_iff.mp b;change tp _=tp z;rw[BP]
theorem lr(zs:ZN):((zs.map tp).map (·.1)).map V.ref=aI zs:=by
 unfold aI;simp only[A7];rfl
theorem Dk{n:Nat}{j:Int}(a:0<=j)(b:j<n):seqIndex? j n=some j.toNat:=(tM (by unfold ixN;grind)).1
theorem oC:∀(l:List Int)(i:Nat),(l.map V.int).eraseIdx i=(l.eraseIdx i).map V.int
 |[],i=>by simp
 |a::l,0=>rfl
 |a::l,i+1=>by
  change V.int a::(l.map _).eraseIdx i=V.int a::(l.eraseIdx i).map _;rw[oC l i]
theorem AD{ns:List Int}{i:Int}(a:0<=i)(b:i<ns.length):∃x∈ns,atI (ns.map V.int) i=some (.int x):=by
 show{ns[i.toNat]'(by lia),F6 _,?_};have:=pe (xs:=ns.map V.int) (j:=i.toNat) (v:=.int<|ns[i.toNat]'(by lia)) (by grind)
 grind
theorem AE{j:Int}(a:0<=j)(b:j<4):∃x:Str,(x="a"\/x="b"\/x="c"\/x="abcde")/\atI [V.str "a",.str "b",.str "c",.str "abcde"] j=some (.str x):=by
 obtain rfl|rfl|rfl|rfl:j=0\/j=1\/j=2\/j=3:=by lia
 .show{"a",.inl rfl,rfl}
 .show{"b",.inr<|.inl rfl,rfl}
 .show{"c",.inr<|.inr (.inl rfl),rfl}
 .show{"abcde",.inr<|.inr (.inr rfl),rfl}
theorem AF{j:Int}(a:0<=j)(b:j<4):∃i:Int,(some i=none\/some i=some 0\/some i=some 1\/some i=some 2\/some i=some 999)/\atI [V.int 0,.int 1,.int 2,.int 999] j=some (.int i):=by
 obtain rfl|rfl|rfl|rfl:j=0\/j=1\/j=2\/j=3:=by lia
 .show{0,.inr<|.inl rfl,rfl}
 .show{1,.inr<|.inr (.inl rfl),rfl}
 .show{2,.inr<|.inr (.inr<|.inl rfl),rfl}
 .show{999,.inr<|.inr (.inr<|.inr rfl),rfl}
structure Sta(H:Hp)(pl pf pn:zv)(Hx:Hp)(lf fs:List Int)(zs:ZN):Prop where
 same:Same H Hx
 l:Hx pl=some (.lst<|lf.map V.int)
 f:Hx pf=some (.lst<|fs.map V.int)
 n:Hx pn=some (.lst<|aI zs)
 nd:At Hx zs
 l0:H pl=none
 f0:H pf=none
 n0:H pn=none
 lf':pl≠pf
 ln':pl≠pn
 fn':pf≠pn
theorem Sta.grow{H b c:Hp}{pl e pn:zv}{d fs:List Int}{zs:ZN}(a:Sta H pl e pn b d fs zs)(s:Same b c):Sta H pl e pn c d fs zs :=
 ⟨a.same.trans s,s _ _ a.l,s _ _ a.f,s _ _ a.n,a.nd.same s,a.l0,a.f0,a.n0,a.lf',a.ln',a.fn'⟩
theorem At.over{H:Hp}{p:zv}{xs:List V}{o:HO}{zs:ZN}(a:At H zs)(c:H p=some (.lst xs)):At (upd H p o) zs:=λz b=>by
 rw[aj]
 .show a z b
 .intro e;have:=a z b
  grind
theorem Sta.pop{H b:Hp}{pl d pn:zv}{e fs:List Int}{zs:ZN}(a:Sta H pl d pn b e fs zs)(c:List Int):Sta H pl d pn (upd b pl<|.lst (c.map V.int)) c fs zs :=
 {aV a.l0 a.same,ac,by rw[aj<|CD a.lf'];show a.f,by rw[aj<|CD a.ln'];show a.n,a.nd.over a.l,a.l0,a.f0,a.n0,a.lf',a.ln',a.fn'}
theorem Sta.fold{H c:Hp}{pl b pn:zv}{d fs:List Int}{zs:ZN}(a:Sta H pl b pn c d fs zs)(x:Int):Sta H pl b pn (upd c b<|.lst (fs.map V.int++[.int x])) d (fs++[x]) zs :=
 {aV a.f0 a.same,by rw[aj a.lf'];show a.l,by rw[ac];simp,by rw[aj<|CD a.fn'];show a.n,a.nd.over a.f,a.l0,a.f0,a.n0,a.lf',a.ln',a.fn'}
theorem Sta.node{H b:Hp}{pl g pn q:zv}{d fs:List Int}{zs:ZN}{n:Nd}(a:Sta H pl g pn b d fs zs)(c:b q=some (.tup<|vals n)):Sta H pl g pn (upd b pn<|.lst (aI zs++[.ref q])) d fs (zs++[(q,n)]) :=
 ⟨aV a.n0 a.same,by rw[aj a.ln'];show a.l,by rw[aj a.fn'];show a.f,by rw[ac,jQ],(λz k=>by
  rcases C6.mp k with h|h
  .show a.nd.over a.n z h
  .have j:z=(q,n):=by simpa using h
   subst j;rw[aj]
   .show c
   .intro e;have i:q=pn:=e;rw[i,a.n]at c;cases c),a.l0,a.f0,a.n0,a.lf',a.ln',a.fn'⟩
def lf0(m:Int):List Int:=(List.range (m+4-1).toNat).map λk=>(1:Int)+(k:Nat)
theorem AG{m:Int}(h:0<=m):((lf0 m).length)=m+3:=by unfold lf0;grind
theorem AH{m:Int}(b:m<=9):∀x∈lf0 m,1<=x/\x<=12:=λx a=>by
 unfold lf0 at a
 grind
theorem Dl(m:Int):(lf0 m).Nodup:=by
 unfold lf0 Nodup;rw[C0];show nodup_range.imp λh e=>h (by lia)
theorem Bd.zero{m:Int}(h:m<=9):Bd [] (lf0 m):={.nil,by change(([])++lf0 m).Nodup;show Dl m,AH h,by unfold TW.bY nds;simp,by simp}
def eM(zs:ZN):List (Key×V):=zs.map λz=>((Sum.inl z.2.num:Key),V.ref z.1)
theorem pI{zs:ZN}(b:((nds zs).map (·.num)).Nodup){z:zv×Nd}(a:z∈zs):bu (eM zs) (Sum.inl z.2.num)=some (.ref z.1):=by
 induction zs with
 |nil=>simp at a
 |cons y zs f =>
  have c:y.2.num∉(nds zs).map (·.num)/\((nds zs).map (·.num)).Nodup:=by simpa [nds]using b
  change bu (((Sum.inl _),V.ref y.1)::eM zs) _=_;rcases B3.mp a with e|d
  .subst e;show bF rfl
  .rw[bg]
   .grind
   .intro e;injection e with e
    show c.1<|A3.mpr ⟨z.2,A3.mpr ⟨z,d,rfl⟩,e.symm⟩
theorem sI{zs:ZN}{k:Int}(a:∀z∈zs,z.2.num≠k):bu (eM zs) (Sum.inl k)=none:=by
 induction zs with
 |nil=>rfl
 |cons y zs b =>
  change bu (((Sum.inl _),V.ref y.1)::eM zs) _=_;rw[bg]
  .grind
  grind
inductive Nods(H:Hp)(d:zv)(zs:ZN):Prop
 |mk o (_:H d=some (.frz o<|.dK (eM zs)))
theorem Nods.same{H a:Hp}{d:zv}{zs:ZN}(b:Nods H d zs)(s:Same H a):Nods a d zs:=let⟨o,e⟩:=b;⟨o,s _ _ e⟩
theorem Nods.get{H:Hp}{d:zv}{zs:ZN}(a:Nods H d zs)(b:((nds zs).map (·.num)).Nodup){z:zv×Nd}(c:z∈zs):dM H d (.int z.2.num) (some<|.ref z.1):=by
 let(o,e):=a;show .inl {eM zs,Sum.inl _,.inr ⟨o,e⟩,rfl,(pI b c).symm}
theorem Nods.not{H:Hp}{d:zv}{zs:ZN}(a:Nods H d zs){k:Int}(b:∀z∈zs,z.2.num≠k):dM H d (.int k) none:=by
 let(o,e):=a;show .inl {eM zs,Sum.inl k,.inr ⟨o,e⟩,rfl,(sI b).symm}
theorem bi{ns:List Nd}(T:TW.Tree1 ns):(ns.map (·.num)).Nodup:=by
 have h:=T.rise;unfold TW.bV at h
 grind
theorem fR{κ:Type}[DecidableEq κ]{kvs:List _}(b:(kvs.map (·.1)).Nodup){k:κ}{v:V}(a:(k,v)∈kvs):bu kvs k=some v:=by
 induction kvs with
 |nil=>simp at a
 |cons y kvs c =>
  rcases B3.mp a with e|h'
  .subst e;show bF rfl
  .rw[bg]
   .grind
   grind
theorem lu{κ:Type}[DecidableEq κ]{kvs:List _}{k:κ}(a:k∉kvs.map (·.1)):bu kvs k=none:=by
 induction kvs with
 |nil=>rfl
 |cons y kvs b =>
  have h':¬k=y.1/\k∉kvs.map (·.1):=by simpa using a
  rw[bg λe=>h'.1 e.symm];show b h'.2
theorem AI{zs:ZN}{k:Int}{q:List Str}(T:TW.Tree1<|nds zs)(a:TW.PathTo (nds zs) k q)(b:k≠0):∃z∈zs,z.2.num=k/\∃q',q=q'++[z.2.nm]/\TW.PathTo (nds zs) z.2.par q':=by
 cases a with
 |top=>grind
 |@node n q' hm hq' =>
  let(z,c,rfl):=A3.mp hm
  grind
structure Tre(H:Hp)(t:zv)(zs:ZN):Prop where
 tup:H t=some (.tup<|aI zs)
 nod:At H zs
 tr:TW.Tree1<|nds zs
 len:zs.length<=30
theorem Tre.same{H b:Hp}{t:zv}{zs:ZN}(a:Tre H t zs)(s:Same H b):Tre b t zs:=⟨s _ _ a.tup,a.nod.same s,a.tr,a.len⟩
theorem vQ{ns:List Nd}(T:TW.Tree1 ns){f:Int}{b:List Int}{a:List Nd}(c:TW.Walk ns f b a []):(a.map (·.num)).Nodup:=by
 have h:=bi T;have:(a.map (·.num)).Perm _:=c.perm.map _
 grind
theorem _root_.L2.Same.rd{H b:Hp}(s:Same H b){a:zv}{u:HO}(r:Rd H a u):Rd b a u:=by
 rcases r with r|⟨o,r⟩
 .show .inl<|s _ _ r
 .show .inr ⟨o,s _ _ r⟩
def cb(b:List<|zv×(zv×Nd)):List (Key×V):=b.map λa=>((Sum.inl a.2.2.num:Key),V.ref a.1)
def cj(n:Nd):List V:=[.int n.par,.str n.nm,stV n.st]
structure Book(H:Hp)(d:zv)(as:List<|zv×(zv×Nd))(zs:ZN):Prop where
 dict:Rd H d<|.dK (cb as)
 of:as.map (·.2)=zs
 at':∀a∈as,H a.1=some (.tup<|cj a.2.2)
theorem Book.same{H c:Hp}{d:zv}{e:List _}{zs:ZN}(b:Book H d e zs)(s:Same H c):Book c d e zs:={s.rd b.dict,b.of,λa f=>s _ _<|b.at' a f}
theorem gk{a:List _}{zs:ZN}(b:a.map (·.2)=zs):(cb a).map (·.1)=((nds zs).map (·.num)).map Sum.inl:=by
 rw[<-b];unfold cb nds;simp only[A7];rfl
theorem xS{a:List _}{zs:ZN}(b:a.map (·.2)=zs)(c:((nds zs).map (·.num)).Nodup):((cb a).map (·.1)).Nodup:=by
 rw[gk b]
 grind
theorem Book.get{H:Hp}{d:zv}{c:List _}{zs:ZN}(b:Book H d c zs)(f:((nds zs).map (·.num)).Nodup){z:zv×Nd}(g:z∈zs):∃q,dM H d (.int z.2.num) (some<|.ref q)/\H q=some (.tup<|cj z.2):=by
 have:z∈c.map (·.2):=by rw[b.of];show g
 let(a,e,rfl):=A3.mp this;show{a.1,.inl {cb c,Sum.inl _,b.dict,rfl,((fR (xS b.of f)<|A3.mpr ⟨a,e,rfl⟩).symm)},b.at' a e}
theorem Book.not{H:Hp}{d:zv}{a:List _}{zs:ZN}(b:Book H d a zs){k:Int}(g:∀z∈zs,z.2.num≠k):dM H d (.int k) none:=by
 show .inl {cb a,Sum.inl k,b.dict,rfl,(lu λc=>?_).symm};rw[gk b.of]at c;let(i,hi,e):=A3.mp c;let(n,f,rfl):=A3.mp hi;let(z,h,rfl):=A3.mp f
 grind
theorem aN(zs:ZN):zs.map (λz=>V.ref z.1)=aI zs:=by simp[aI]
theorem kN{K:Frag}{H:Hp}{l:zv}{zs:ZN}{Q:VK}(e:SqL K H l (aI zs)\/SqT K H l (aI zs))(j:At H zs)(s:((nds zs).map (·.num)).Nodup)(r:zs.length<64)(q:∀us t' H',Same H H'->H' t'=some (.tup<|aI us)->At H' us->us.Perm zs->TW.bV (nds us)->Q (.ref t') H'):
  ∃h,∃c:List sB,[V.ref l]=[V.ref h]/\(SqL K H h ((c.map (·.1)).map V.ref)\/SqT K H h ((c.map (·.1)).map V.ref))/\(∀z∈c,H z.1=some (.tup (.int z.2.1::z.2.2)))/\(c.map (·.2.1)).Nodup/\c.length<64 /\
   ∀d:List sB,d.Perm c->d.Pairwise (λa b=>a.2.1<b.2.1)->∀p,H p=none->∃f ys,[V.ref p]=[V.ref f]/\((SqL K (upd H p<|.lst ((d.map (·.1)).map V.ref)) f ys/\∀l,upd H p (.lst<|(d.map (·.1)).map V.ref) l=none->Q (.ref l) (upd (upd H p<|.lst ((d.map (·.1)).map V.ref)) l<|.tup ys)) \/
    (SqT K (upd H p<|.lst ((d.map (·.1)).map V.ref)) f ys/\Q (.ref f) (upd H p<|.lst ((d.map (·.1)).map V.ref)))):=by
 have t:(zs.map tp).map (·.2.1)=(nds zs).map (·.num):=by
  unfold nds;simp only[A7];rfl
 show{l,zs.map tp,rfl,by rw[lr];show e,λz g=>?_,by grind,by grind,λc pm o p hp=>?_}
 .let(y,hy,rfl):=A3.mp g;show j y hy
 .let(k,i):=back pm;have n:(c.map (·.1)).map V.ref=aI (c.map un):=by rw[<-lr,i]
  rw[n];show{p,_,rfl,.inl {SqL.of ac,λl e=>(q (c.map un) l _ ((ag hp).trans (ag e)) ac ?_ k ?_)}}
  .intro z g;show((ag hp).trans (ag e)) _ _ (j z<|k.mem_iff.mp g)
  .unfold nds TW.bV;rw[C0];have m:((c.map un).map tp).Pairwise (λa b=>a.2.1<b.2.1):=by rw[i];show o
   rw[C0]at m;show m
def aT:TW.Deed Str->List V
 |.make n p nm st=>[.str "make",.int n,.int p,.str nm,stV st]
 |.write n st=>[.str "write",.int n,.int st]
 |.move n p nm=>[.str "move",.int n,.int p,.str nm]
 |.drop n=>[.str "drop",.int n]
def sJ:TW.Deed Str->Prop
 |.make n p nm _=>1<=n/\n<=60/\0<=p/\p<=60/\nm.length<=100
 |.write n _=>1<=n/\n<=60
 |.move n p nm=>1<=n/\n<=60/\0<=p/\p<=60/\nm.length<=100
 |.drop n=>1<=n/\n<=60
theorem sJ.pos{d:TW.Deed Str}(h:sJ d):d.pos:=by
 cases d<;>first|show h.1|trivial
theorem bK{zs:ZN}{z:zv×Nd}(h:z∈zs):z.2∈nds zs:=A3.mpr ⟨z,h,rfl⟩
theorem bZ{zs:ZN}{n:Nd}(h:n∈nds zs):∃z∈zs,z.2=n:=A3.mp h
def ut(a:List<|zv×Nd):List (Key×V):=a.map λb=>((Sum.inl b.2.num:Key),V.ref b.1)
theorem vR{a:List _}(d:(a.map (·.2.num)).Nodup){b:zv×Nd}(c:b∈a):bu (ut a) (Sum.inl b.2.num)=some (.ref b.1):=by
 show fR ?_<|A3.mpr ⟨b,c,rfl⟩;unfold ut
 grind
def jR(x:Str):Prop:=x="a"\/x="b"\/x="c"\/x="abcde"\/x="zz"\/x="f"\/x="top"
def Dm(s:Option Int):Prop:=∀i,s=some i->0<=i/\i<=999
def iI(n:Nd):Prop:=1<=n.num/\n.num<=60/\jR n.nm/\Dm n.st
def dc:TW.Deed Str->Prop
 |.make n p nm st=>1<=n/\n<=60/\0<=p/\p<=60/\jR nm/\Dm st
 |.write n st=>1<=n/\n<=60/\0<=st/\st<=999
 |.move n p nm=>1<=n/\n<=60/\0<=p/\p<=60/\jR nm
 |.drop n=>1<=n/\n<=60
theorem jR.len{x:Str}(h:jR x):x.length<=100:=by
 rcases h with rfl|rfl|rfl|rfl|rfl|rfl|rfl<;>decide +kernel
theorem dc.ok{d:TW.Deed Str}(a:dc d):sJ d:=by
 cases d with
 |make n p nm st=>let(h1,h2,h3,b,c,_):=a;show⟨h1,h2,h3,b,c.len⟩
 |write n st=>show⟨a.1,a.2.1⟩
 |move n p nm=>let(h1,h2,h3,b,c):=a;show⟨h1,h2,h3,b,c.len⟩
 |drop n=>show a
theorem qV.ok{n:Nd}(a:qV n):iI n:=by
 let(h1,h2,h3,b):=a;show{h1,by lia,by unfold jR;grind,λi e=>?_}
 grind
end TK
namespace L2
open PySem
theorem fsc{N P:List Str}{sc:Scope}(a:sc.kind=.function:=by rfl)(h2:sc.isCoroutine=false:=by rfl)(b:sc.isGenerator=false:=by rfl)(c:N.Nodup:=by decide +kernel)(d:N.take P.length=P:=by rfl)(e:∀x∈P,sc.names.lookup x=some .local\/sc.names.lookup x=some .cell:=by decide +kernel)(f:∀y∈sc.names,y.2≠.free:=by decide +kernel):FnScope N P sc:=⟨a,h2,b,c,d,e,f⟩
section
variable{X:Cx}{scope:Scope}{x:Str}{px pos:Pos}{elt iter c:Expr}{wi:TI}{te:TE}{tc:TT}{cl:List (Str×zv)}{js:List Nat}{fs:List Str}
structure LcF(X:Cx)(scope:Scope)(x:Str)(px:Pos)(cl:List<|Str×zv)(js:List Nat)(fs:List Str):Prop where
 c:X.calm=true
 L:LcOk X scope cl
 n:(x::fs).length=1+js.length
 j:∀(i j:Nat) y,js[i]?=some j->(x::fs)[1+i]?=some y->X.N[j]?=some y/\Vis X.env.scope y/\X.env.scope.names.lookup y≠some .local/\((relabel scope X.env).names.lookup y=some .cell\/(relabel scope X.env).names.lookup y=some .free)
 g:∀s H fp,PG (ca X (x::fs) scope cl s H fp) (.Name x px)<|cg 0
theorem lcS(d:X.calm=true:=by rfl)(a:scope.kind=.function:=by rfl)(h2:∀y∈scope.names,y.2≠.free:=by decide +kernel)(b:∀y∈scope.names,y.2≠.cell:=by decide +kernel)(c:∀x∈scope.names,x.2=.local->scope.names.lookup x.1=some .local:=by decide +kernel)(f:∀n,Loc (compEnvC scope [] n X.env).scope x:=by intro _;show Or.inl rfl)(e:∀n,(compEnvC scope [] n X.env).scope.names.lookup x=some .local:=by intro _;rfl):LcF X scope x px [] [] [] :=
 {d,pF a h2 b c,rfl,λi g y h=>by simp at h,λs H fp=>bf (i:=0) (E7.mpr ⟨CU,nodup_nil⟩) rfl (f _)<|.inr (e _)}
theorem lcF(m:X.calm=true:=by rfl)(b:scope.kind=.function:=by rfl)(h2:closureFor scope X.env=pure cl:=by rfl)(c:∀x∈scope.names,x.2=.local->scope.names.lookup x.1=some .local:=by decide +kernel)(d:∀x∈scope.names,x.2≠.cell:=by decide +kernel)(f:∀y∈cl,X.env.cells.lookup y.1=some y.2:=by intro y hy;repeat (first|cases hy;done|(rcases B3.mp hy with e|hy;· rw[e];rfl)))(g:cl.map (·.1)=fs.reverse:=by rfl)(j:scope.names.all (λy=>!(y.2==.free)||fs.reverse.contains y.1)=true:=by decide +kernel)(k:(x::fs).length=1+js.length:=by rfl)(l:∀p∈js.zip fs,X.N[p.1]?=some p.2/\Vis X.env.scope p.2/\X.env.scope.names.lookup p.2≠some .local/\((relabel scope X.env).names.lookup p.2=some .cell\/(relabel scope X.env).names.lookup p.2=some .free):=by intro p hp;repeat (first|cases hp;done|(rcases B3.mp hp with e|hp;· rw[e];show⟨rfl,Or.inr<|Or.inl rfl,(λh=>by first|show absurd (show some NameKind.cell=some NameKind.local from h) (by decide)|show absurd (show some NameKind.free=some NameKind.local from h) (by decide)),by first|show Or.inl rfl|show Or.inr rfl⟩)))(r:(x::fs).Nodup:=by decide +kernel)(q:∀n,Loc (compEnvC scope cl n X.env).scope x:=by intro _;show Or.inl rfl)(o:∀n,(compEnvC scope cl n X.env).scope.names.lookup x=some .local:=by intro _;rfl):LcF X scope x px cl js fs :=
 {m,LcOk.mk' fs.reverse b h2 c d f g j,k,λi a y hi hy=>l (a,y) (by
  rw[show(x::fs)[1+i]?=fs[i]? by rw[Nat.add_comm];rfl]at hy;show C3 (List.getElem?_zip_eq_some.mpr ⟨hi,hy⟩:(js.zip fs)[i]?=some (a,y))),λs H fp=>bf (i:=0) r rfl (q _)<|.inr (o _)}
theorem bH(a:LcF X scope x px cl js fs)(d:PI X (.Name x px) iter wi)(b:∀s H fp,PE (ca X (x::fs) scope cl s H fp) elt te)(e:∀x,foldedSetIterable iter X.env x=pure x:=by intro _;rfl):PE X (.ListComp elt [{.Name x px,iter,[],0}] scope pos) (tLc 1 js wi (cg 0) te):=qw a.c a.L a.n a.j d a.g b e
theorem cN(a:LcF X scope x px cl js fs)(d:PI X (.Name x px) iter wi)(f:∀s H fp,PT (ca X (x::fs) scope cl s H fp) c tc)(b:∀s H fp,PE (ca X (x::fs) scope cl s H fp) elt te)(e:∀x,foldedSetIterable iter X.env x=pure x:=by intro _;rfl):PE X (.ListComp elt [{.Name x px,iter,[c],0}] scope pos) (Ag 1 js wi (cg 0) tc te):=Dc a.c a.L a.n a.j d a.g f b e
theorem Dn{d b:Pos}{y:Str}{ii:Nat}(a:LcF X scope x px cl js fs)(e:X.N.Nodup)(i:PI X (.Name x px) iter wi)(f:∀s H fp,PE (ca X (x::fs) scope cl s H fp) elt te)(k:X.N[ii]?=some y:=by rfl)(o:Loc X.env.scope y:=by show Or.inl rfl)(l:∀x,foldedSetIterable iter X.env x=pure x:=by intro _;rfl)(m:swapsWith (.ListComp elt [{.Name x px,iter,[],0}] scope pos) (some<|.Name y b) d.line X.env=pure true:=by rfl)(h:X.fn y=true\/X.env.scope.names.lookup y=some .local:=by first|show .inl rfl|show .inr rfl|assumption):PS X (.Assign [.Name y b] (.ListComp elt [{.Name x px,iter,[],0}] scope pos) d) (rP (tLc 1 js wi (cg 0) te)<|cg ii):=xN e k o a.c a.L a.n a.j i a.g f l m h
theorem AJ{d b:Pos}{y:Str}{ii:Nat}(a:LcF X scope x px cl js fs)(e:X.N.Nodup)(i:PI X (.Name x px) iter wi)(o:∀s H fp,PT (ca X (x::fs) scope cl s H fp) c tc)(f:∀s H fp,PE (ca X (x::fs) scope cl s H fp) elt te)(k:X.N[ii]?=some y:=by rfl)(p:Loc X.env.scope y:=by show Or.inl rfl)(l:∀x,foldedSetIterable iter X.env x=pure x:=by intro _;rfl)(m:swapsWith (.ListComp elt [{.Name x px,iter,[c],0}] scope pos) (some<|.Name y b) d.line X.env=pure true:=by rfl)(h:X.fn y=true\/X.env.scope.names.lookup y=some .local:=by first|show .inl rfl|show .inr rfl|assumption):PS X (.Assign [.Name y b] (.ListComp elt [{.Name x px,iter,[c],0}] scope pos) d) (rP (Ag 1 js wi (cg 0) tc te)<|cg ii):=vM e k p a.c a.L a.n a.j i a.g o f l m h
theorem ixT{a b:Expr}{c d:TE}(K:Frag)(f:PE X a c)(g:PE X b d)(h:tN b:=by show λ_ _=>rfl)(e:X.K=K:=by rfl):PE X (.Subscript a b pos) (tOp (rIxT K) c d):=by
 subst e;show cw Cw f g h
end
end L2
namespace TK
open PySem L2
theorem aw{X:Cx}{k:Nat}{y:Str}{ps:List Str}{sp:Sp}{e:Expr}{a:List Expr}{p pos:Pos}{t:TA}(C:Has X.prog X.w X.K X.mg X.base k y ps sp)(j:Room k X.A)(c:PA X (e::a) t)(h:Gl X y:=by rfl)(d:(y==("__debug__":Str))=false:=by decide)(g:starEach (e::a) X.env=(false,eval e X.env)::starEach a X.env:=by rfl)(i:(backTo pos<|starEach a X.env).any (·.1)=false:=by rfl):
  PE X (.Call (.Name y p) (e::a) [] pos) (wR sp [] E0 t):=by
 let(f,fd,G,m,l,b):=C;show zZ G j h m l b .nil bX c d g i
theorem _root_.L2.Fun.okA{P:zi}{w:xr}{K:Frag}{mg:Str->Option zy}{base:qq}{x qual:Str}{st:Stmt}{f:zv}{a:xl}{N ps:List Str}{k:Nat}{sp:Sp}(F:Fun K x qual st f a)(S:FnScope N ps<|ak st)(b:∀(cdv:zy) (A:xx) (outer:List Env) (s:zn) (H:Hp) (vs:List V) (Q:VK) (E:XK),Room k (A.deeper<|PyProof.Rows.envOfC qual (ak st) s.heap.objs.size f cdv)->sp vs H Q E ->
   ∃t,PSs (kU CX0 P w K mg base N qual (ak st) f cdv A outer s H E).nox (bJ st) t/\t {nx:=λ_ H'=>Q .non H',rt:=Q} (start N vs) H)(c:∀vs H Q E,sp vs H Q E->vs.length=ps.length:=by intro vs H Q E h;cases h;subst_vars;rfl):aE P w K mg base CX0 (k+1) f a ps sp:=F.ok S c b
def top(i:Nat):Stmt:=PySem.Challenge.pw_treewatch_k95_whole_grafts_and_ledgers.main.body.getD i<|.Pass ⟨0,0,0,0⟩
abbrev gm:Stmt:=eT (top 66) 0
abbrev fj:Stmt:=eT (top 66) 1
abbrev iJ:Stmt:=eT (top 66) 2
abbrev gT:Stmt:=eT (top 66) 7
abbrev gv:Stmt:=eT (top 66) 8
abbrev fk:Stmt:=eT (top 66) 9
abbrev de:Stmt:=eT (top 66) 10
abbrev gw:Stmt:=eT (top 66) 11
abbrev sK:Stmt:=top 18
abbrev xT:Stmt:=top 19
abbrev sL:Stmt:=top 20
abbrev xU:Stmt:=top 21
abbrev xV:Stmt:=top 22
abbrev Do:Stmt:=top 23
abbrev Dp:Stmt:=top 24
abbrev xW:Stmt:=top 25
abbrev xX:Stmt:=top 26
abbrev Dq:Stmt:=top 27
abbrev Dr:Stmt:=top 28
abbrev Ds:Stmt:=top 29
abbrev Dt:Stmt:=top 30
abbrev Du:Stmt:=top 31
abbrev Dv:Stmt:=top 32
abbrev dh:Stmt:=top 33
abbrev di:Stmt:=top 34
abbrev eO:Stmt:=top 35
abbrev dN:Stmt:=top 37
abbrev jS:Stmt:=top 38
abbrev jT:Stmt:=top 39
abbrev jU:Stmt:=top 40
abbrev bQ:Stmt:=top 42
abbrev dE:Stmt:=top 43
abbrev bC:Stmt:=top 44
abbrev jV:Stmt:=top 45
abbrev Dw:Stmt:=top 47
abbrev xY:Stmt:=top 48
abbrev xZ:Stmt:=top 49
abbrev sM:Stmt:=top 50
abbrev ya:Stmt:=top 51
abbrev yb:Stmt:=top 52
abbrev yc:Stmt:=top 53
abbrev jW:Stmt:=top 57
abbrev jX:Stmt:=top 58
abbrev iK:Stmt:=top 59
abbrev gU:Stmt:=top 60
abbrev iM:Stmt:=top 61
abbrev iN:Stmt:=top 62
abbrev sN:Stmt:=top 63
abbrev gW:Stmt:=top 67
abbrev gX:Stmt:=top 68
abbrev fq:Stmt:=top 69
abbrev iO:Stmt:=top 70
abbrev jY:Stmt:=top 71
abbrev jZ:Stmt:=top 72
abbrev kb:Stmt:=top 73
abbrev kc:Stmt:=top 74
abbrev fu:Stmt:=top 75
abbrev cG:Stmt:=top 77
abbrev iP:Stmt:=top 78
abbrev mD:Stmt:=top 79
abbrev iQ:Stmt:=top 81
abbrev kd:Stmt:=top 82
abbrev iR:Stmt:=top 83
abbrev iS:Stmt:=top 84
abbrev yd:Stmt:=top 86
abbrev ye:Stmt:=top 87
abbrev kg:Stmt:=top 88
abbrev qW:Stmt:=top 89
abbrev sO:Stmt:=top 92
structure Txt(mg:Str->Option zy):Prop where
 isin:mg "isinstance"=none
 dict:mg "dict"=none
 len:mg "len"=none
 tuple:mg "tuple"=none
 list:mg "list"=none
 range:mg "range"=none
 sorted:mg "sorted"=none
 reversed:mg "reversed"=none
 ValueError:mg "ValueError"=none
 str:mg "str"=none
 set:mg "set"=none
 max:mg "max"=none
 min:mg "min"=none
 sum:mg "sum"=none
 zip:mg "zip"=none
 enumerate:mg "enumerate"=none
 all:mg "all"=none
 int:mg "int"=none
 bool:mg "bool"=none
 top:∃t,mg "TOP"=some (.int 0 t)
 letters:∃t,mg "LETTERS"=some (.str "abcdefghijklmnopqrstuvwxyz" t)
 longest:∃t,mg "LONGEST_NAME"=some (.int 5 t)
 greatest:∃t,mg "GREATEST_STAMP"=some (.int 999 t)
 figures:∃t,mg "FIGURES"=some (.str "0123456789" t)
 mostF:∃t,mg "MOST_FIGURES"=some (.int 9 t)
 divider:∃t,mg "DIVIDER"=some (.str "--" t)
section
variable{P:zi}{w:xr}{K:Frag}{mg:Str->Option zy}{base:qq}
inductive spIns(vs:List V)(H:Hp)(Q:VK)(E_:XK):Prop
 |mk t f zs (_:vs=[.ref t,.int f]) (_:H t=some (.tup<|aI zs)) (_:At H zs) (_:zs.length<=100) (_:∀fd dn l H',TW.Walk (nds zs) f dn fd []->H' l=some (.lst<|eK fd)->Same H H'->Q (.ref l) H')
theorem mE:FnScope ["nodes","folder","members","node","found","pending","here"] ["nodes","folder"] (ak Dp):=fsc
theorem Dx{f:zv}{c:xl}(F:Fun K "numbers_inside" "numbers_inside" Dp f c)(T:Txt mg):aE P w K mg base CX0 1 f c ["nodes","folder"] spIns:=by
 show F.okA mE λcdv A outer s H vs Q E f2 h=>?_
 .let(t,f,zs,rfl,d0,c2,r,k):=h;show{_,af (ar (i:=2) mE.nd rfl (Or.inl rfl) qu)
   (af (fZ PassesOwn.never rfl (bE<|pv 0) (bf (i:=3) mE.nd rfl<|Or.inl rfl)<|am (aZ (cE CW CP CS ck
     (cE plainAttrs_dict PySem.F.slot_dict_setdefault PySem.F.type_dict_setdefault mV (pv 2)<|aa (ixT K (pv 3) ai) (aa (cP ae) ae)) (aa (pv 3) ae))))
   (af (ar (i:=4) mE.nd rfl (Or.inl rfl)<|cP ae)
   (af (ar (i:=5) mE.nd rfl (Or.inl rfl)<|cP (aa (pv 1) ae))
   (af (qd PassesOwn.never (lI (pv 5) λ_=>rfl)
    (af (ar (i:=6) mE.nd rfl (Or.inl rfl)<|xf (pv 2) (wY CW slot_list_pop type_list_pop wZ<|pv 5) (cP ae) ⟨rfl,rfl,rfl,rfl⟩)
    (am (fZ PassesOwn.never rfl (bw<|pv 6) (bf (i:=3) mE.nd rfl<|Or.inl rfl)
     (af (aZ<|cE CW CP CS ck (pv 4) (aa (ixT K (pv 3) ai) ae))
     (am<|aQ (aq iC (ixT K (pv 3) ai) cW<|av _) (am<|aZ (cE CW CP CS ck (pv 5)<|aa (ixT K (pv 3) ai) ae)) ax))))))
   (am<|ap (pv 4)))))),?_}
  show λd c3=>?_;have X:∀{n:Nat},n<=100->n<sizeLine:=λh=>aU (by lia);show{_,rfl,t,rfl,{_,SqT.of<|bh c3 d0},oX (xs:=aI zs) (λi σ H'=>∃g kvs l,σ=[some<|.ref t,some<|.int f,some<|.ref d,l,none,none,none]/\Mem H H' d g kvs (zs.take i) [])
   ⟨_,_,_,rfl,Mem.start c3⟩ (λi σ H' _ h=>?_) (λi x σ H' e4 h=>?_) (λσ H' h=>?_)}
  .let(_,_,_,_,m):=h;show SqT.of<|m.same _ _ d0
  .let(g,kvs,l,rfl,m):=h;let(z,M,rfl):=db e4;have a4:=C3 M;have G:zs.take (i+1)=zs.take i++[z]:=by rw[take_succ,M];rfl
   show{_,rfl,.inr<|.inr (.inl ⟨rfl,.inl ⟨_,m.dict⟩⟩),_,rfl,z.1,_,_,_,rfl,rfl,SqT.of<|m.same _ _ (c2 z a4),at1 z.2,CI _,λq j=>?_};have a3:=m.grow<|ag (o:=.lst []) j;show{d,kvs,.inl z.2.par,.ref q,rfl,rfl,a3.dict,X (by have:=m.len;rw[D6]at this;lia),λv O=>?_,λa0=>?_}
   .rw[m.val]at O
    by_cases h:z.2.par∈([]:List Int)\/ins (zs.take i) z.2.par=[]
    .rw[A6 h]at O;cases O
    .rw[A4 h]at O;cases O;have h2:ins (zs.take i) z.2.par≠[]:=λz=>h<|.inr z;have a:=(a3.at' z.2.par (by simp) h2).1;show{.inl ⟨rfl,_,SqL.of a⟩,_,rfl,_,_,_,rfl,rfl,a,?_,?_}
     .show X ?_;rw[ba];show CL (Sublist.length_le<|Sublist.trans D1 (take_sublist _ _)) r
     .show{g,kvs,_,rfl,?_};rw[G];show a3.hit h2
   .rw[m.val]at a0
    by_cases h:z.2.par∈([]:List Int)\/ins (zs.take i) z.2.par=[]
    .have e2:q≠d:=λe=>by rw[e,m.dict]at j;cases j
     have a:upd (upd H' q<|.lst []) d (.dK<|bW kvs (Sum.inl z.2.par:Key) (.ref q)) q=some (.lst []):=by rw[aj e2];show ac
     show{.inl ⟨rfl,_,SqL.of a⟩,_,rfl,q,[],_,rfl,rfl,a,X<|CI _,?_};have c1:=m.fresh (z:=z) (h.resolve_left (by simp)) j;rw[<-G]at c1;show{_,_,_,rfl,c1}
    .rw[A4 h]at a0;cases a0
  .let(g,kvs,l,rfl,m):=h;rw[ba,take_length]at m;show{CI _,λpf c6=>{_,rfl,aF (by simp),λpp N=>?_}};have e7:=(m.grow<|ag (o:=.lst []) c6).grow (ag (o:=.lst [.int f]) N);have e0:H pf=none:=m.same.free c6;have I:pp≠pf:=λe=>by rw[e,ac]at N;cases N
   have c7:H pp=none:=by rw[aj I]at N;show m.same.free N
   dsimp only[cg,vb];show qf (λσ H'=>∃g kvs B c u l d1,σ=[some<|.ref t,some<|.int f,some<|.ref d,l,some<|.ref pf,some<|.ref pp,d1]/\u.length<=c.length+1/\Mem H H' d g kvs zs B/\TW.Walk (nds zs) f B c u/\H' pf=some (.lst<|eK c)/\H' pp=some (.lst<|u.map V.int))
    (λσ H'=>2*(zs.length-jp H' pf)+jp H' pp) {g,kvs,[],[],[f],_,_,rfl,A8 _,e7,TW.Walk.start _ _,by rw[aj<|CD I,ac];rfl,ac} (λσ H' h=>?_) ?_
   .let(g,kvs,B,c,u,l,d1,rfl,e1,m,d2,L,D):=h;show{_,rfl,_,.inl ⟨_,SqL.of D,rfl⟩,?_}
    by_cases a1:u=[]
    .subst a1;show aM ⟨_,rfl,k c B pf H' d2 L m.same⟩
    .obtain⟨p,x,rfl⟩:∃p x,u=p++[x]:={u.dropLast,u.getLast a1,(List.dropLast_concat_getLast a1).symm};rw[A6 (by simp)];have d5:((p++[x]).map V.int).dropLast=p.map V.int:=by simp
     show{_,rfl,d,rfl,.inl ⟨_,Rd.of m.dict⟩,_,rfl,.inl ⟨rfl,_,SqL.of D⟩,pp,_,.int x,rfl,rfl,D,(by simp),CI _,λq j=>?_};rw[d5]at j|-;have e8:=(m.other (o:=.lst<|p.map V.int) D c7).grow (ag (o:=.lst []) j);have c9:q≠pp:=λe=>by rw[e,ac]at j;cases j
     have c8:q≠pf:=λe=>by rw[e,aj<|CD I,L]at j;cases j
     show xR e8 ac λr a6 a2 hs e9 S d6 e3 c4 c5=>?_;have d3:pf≠d:=λe=>by have:=m.dict;rw[<-e,L]at this;cases this
     have d4:pp≠d:=λe=>by have:=m.dict;rw[<-e,D]at this;cases this
     have b2:a6 pf=some (.lst<|eK c):=by rw[c4 pf d3,aj<|CD c8,aj<|CD I];show L
     have b3:a6 pp=some (.lst<|p.map V.int):=by rw[c4 pp d4,aj<|CD c9,ac]
     have d8:r≠pf:=by
      by_cases h:hs=[]
      .rw[c5 h];show c8
      .show uq b2 S h
     have d9:r≠pp:=by
      by_cases h:hs=[]
      .rw[c5 h];show c9
      .show uq b3 S h
     have a5:=d2.turn;rw[<-d6]at a5;have d7:=a5.len;rw[B0,au,au]at d7;rw[B0,E8]at e1;show{_,rfl,r,rfl,⟨_,SqL.of S⟩,gH (xs:=aI hs) (λb σ H'=>∃l,σ=[some<|.ref t,some<|.int f,some<|.ref d,l,some<|.ref pf,some<|.ref pp,some<|.ref r]/\Mem H H' d g a2 zs (x::B)/\H' r=some (.lst<|aI hs) /\
      H' pf=some (.lst<|eK (c++nds (hs.take b)))/\H' pp=some (.lst<|(p++TW.aX (nds<|hs.take b)).map V.int)) {_,rfl,e9,S,by rw[b2];simp[nds],by rw[b3];simp[nds,TW.aX]}
      (λb σ H' _ h=>?_) (λb y σ H' hy h=>?_) (λσ H' h=>?_)}
     .let(_,_,_,e,_):=h;show SqL.of e
     .let(l,rfl,U,a8,C,J):=h;let(z,M,rfl):=db hy;have a4:=e3 z<|C3 M;have G:hs.take (b+1)=hs.take b++[z]:=by rw[take_succ,M];rfl
      have e5:(eK<|c++nds (hs.take b)).length<=100:=by
       unfold eK;rw[A1,A1,B0,au,D6];lia
      have e6:((p++TW.aX (nds<|hs.take b)).map V.int).length<=1000:=by
       have:=TW.eX<|nds (hs.take b);rw[au,D6]at this;rw[A1,B0];lia
      have Z:∀{a7:Hp},Same H a7->a7 z.1=some (.tup<|vals z.2):=λs=>s _ _<|c2 z a4;have a9:eK (c++nds (hs.take<|b+1))=eK (c++nds (hs.take b))++[.int z.2.num]:=by rw[G];simp[eK,nds]
      have W:Mem H (upd H' pf<|.lst (eK (c++nds (hs.take b))++[.int z.2.num])) d g a2 zs (x::B):=U.other C e0;have b1:(upd H' pf<|.lst (eK (c++nds (hs.take b))++[.int z.2.num])) r=some (.lst<|aI hs):=by rw[aj d8];show a8
      have R:(upd H' pf<|.lst (eK (c++nds (hs.take b))++[.int z.2.num])) pp=some (.lst<|(p++TW.aX (nds<|hs.take b)).map V.int):=by rw[aj I];show J
      show{_,rfl,.inl ⟨rfl,_,SqL.of C⟩,_,rfl,z.1,_,_,_,rfl,rfl,SqT.of<|Z U.same,at0 z.2,pf,_,_,rfl,rfl,C,X e5,?_};show{_,rfl,z.1,_,_,_,rfl,rfl,SqT.of<|Z W.same,at3 z.2,rfl,_,rfl,?_};cases c0:z.2.st with
      |none =>
       have Y:TW.aX (nds<|hs.take (b+1))=TW.aX (nds<|hs.take b)++[z.2.num]:=by rw[G];simp[TW.aX,nds,c0]
       show cp {_,rfl,.inl ⟨rfl,_,SqL.of R⟩,_,rfl,z.1,_,_,_,rfl,rfl,SqT.of<|Z W.same,at0 z.2,pp,_,_,rfl,rfl,R,aU e6,?_};show{_,rfl,W.other R c7,by rw[aj d9];show b1,by rw[aj<|CD I,ac,a9],?_};rw[ac,Y];simp
      |some i =>
       have Y:TW.aX (nds<|hs.take (b+1))=TW.aX (nds<|hs.take b):=by rw[G];simp[TW.aX,nds,c0]
       show aM {_,rfl,W,b1,by rw[ac,a9],?_};rw[R,Y]
     .let(l,rfl,U,a8,C,J):=h;rw[ba,take_length]at C J;show{{g,a2,x::B,_,_,l,_,rfl,?_,U,a5,C,J},?_}
      .have:=TW.eX<|nds hs;rw[au]at this;rw[B0,B0,au];lia
      change 2*(zs.length-jp H' pf)+jp H' pp<_;rw[fQ C,fQ J,fQ L,fQ D];have:=TW.eX<|nds hs;rw[au]at this;simp only[eK,A1,B0,au,E8]
      lia
   .rintro σ H Q f1 f0 ⟨v,e,k,tv,q⟩;show{v,e,k,tv,f0 _ _ q}
end
end TK
namespace TB
open PySem PySem.SetTable
theorem vS{t:SetTable}{l:List Nat}(T:Tb t l)(mk:Mk t.mask)(k:l.length<=t.mask)(a:Int):∃j,t.freeSlot a=some (j,false)/\j∉l/\j<=t.mask:=by
 let(r,g,h):=lZ _ l k;let(s,q,c):=cover mk.cyc a g;let(N,p,b,d):=lV (λm=>pos _ a m∉l) _ (by rw[c];show h);have hp:=lW t (λ_=>a+1) a N _ (10*turns t.mask) (by lia) (λm n=>by
  have f:pos t.mask a m∈l:=by
   by_cases z:pos t.mask a m∈l
   .show z
   .show(d m n z).elim
  let(i,hi,e):=G0.mp f;show{i,tW T (by change l[i]?=some (pos _ a m);rw[A2 hi,e]),by lia})<|qz T b
 show{pos _ a N,?_,b,xm _ _ _};unfold SetTable.freeSlot;have o:t.probe _ a (t.probeStart a)=some (.empty _ _):=hp;rw[o];rfl
theorem AK{t:SetTable}{l:List Nat}(T:Tb t l)(mk:Mk t.mask)(o:l.length+1<=t.mask)(b:Array _)(j:b.size=l.length)(c:Int)(x:zy):
  ∃p t' i,layNew t b c x=(insertAt b p (c,x),t',false,false)/\Tb t' i/\i.length=l.length+1/\t'.mask=t.mask/\t'.plain=t.plain/\t'.led=t.led:=by
 let(a,k,m,n):=vS T mk (by lia) c;let(d,q,g):=xn T m n;have f:(l.take (below l.toArray a)++a::l.drop (below l.toArray a)).length=l.length+1:=by
  rw[B0,CC,D6,G1];have:=(cQ T.up a).1
  lia
 have h:(insertAt b (t.put a).2 (c,x)).size=l.length+1:=by
  rw[<-B6,SetTable.toList_insertAt,B0,CC,D6,G1,B6,j,q];have:=(cQ T.up a).1
  lia
 have e:(t.put a).1.fits (insertAt b (t.put a).2 (c,x)).size=true:=im d (by rw[f,h]) (by rw[h,g];show o);show{(t.put a).2,(t.put a).1,_,?_,d,f,g,rfl,rfl};unfold layNew;rw[k];change(insertAt b _ _,(t.put a).1.orStandIn (insertAt b (t.put a).2 (c,x)).size,false,!((t.put a).1.fits (insertAt b (t.put a).2 (c,x)).size))=_;rw[e];unfold SetTable.orStandIn;rw[A6 e];rfl
theorem vT{t:SetTable}(a:Array<|Int×zy)(n:0<a.size)(p:a.size<=60):
  ∃es' t' h,relayAll t a (grown a.size)=(es',t',false)/\es'.toList.Perm a.toList/\Tb t' h/\h.length=a.size/\Mk t'.mask/\a.size*5<t'.mask*3/\t'.plain=t.plain/\t'.led=t.led:=by
 have m:grown a.size=a.size*4:=by unfold SetTable.grown;rw[A4 (by lia)]
 let(f,q,o):=jj (w:=a.size*4) (by lia);rw[m];let(t',zs,e,c,k,l,T,b):=jK (t:=t) (hashes:=a.map (·.1)) f.cyc (by rw[size_map];lia);rw[size_map]at b;have d:zs.length=a.size:=by
  have:=b.length_eq;rw[A1,F4]at this;show this
 have hp:(((zs.map (·.2)).toArray).filterMap (λi=>a[i]?)).toList.Perm a.toList:=by
  rw[Array.toList_filterMap];show(b.filterMap _).trans (by rw[filterMap_getElem?_range])
 have g:(((zs.map (·.2)).toArray).filterMap (λi=>a[i]?)).size=a.size:=by
  rw[<-B6,hp.length_eq,B6]
 have j:coversAll (zs.map (·.2)).toArray a.size=true:=by
  unfold coversAll;show List.isPerm_iff.mpr b
 show{((zs.map (·.2)).toArray).filterMap (λi=>a[i]?),t',zs.map (·.1),?_,hp,T,by rw[A1,d],by rw[c];show f,by rw[c];lia,l,k};unfold relayAll;rw[e];dsimp only;rw[j,(im T (by rw[g,A1,d]) (by rw[g,c];lia))];rfl
def bt(w:xr):Bool:=w.params.followText "set-order"
def iT(tk:Int->Tok)(n:Int):Int×zy:=(hashInt n,.int n<|tk n)
structure ISt(w:xr)(es:Array<|Int×zy)(t:SetTable)(ns:List Int):Prop where
 ent:∃tk,es.toList=ns.map (iT tk)
 nd:ns.Nodup
 tb:∃l,Tb t l/\l.length=ns.length
 mkm:Mk t.mask
 room:ns.length*5<t.mask*3
 pl:t.plain=true
 led:bt w=false->t.led=true
def IS(w:xr)(c:qq)(a:zv)(ns:List Int):Prop:=∃o es b t,c.get? a=some o/\o.ExactSet/\o.data=.set es b t/\ISt w es t ns
theorem ISt.size{w:xr}{a:Array _}{t:SetTable}{ns:List Int}(b:ISt w a t ns):a.size=ns.length:=by
 let(tk,e):=b.ent;rw[<-B6,e,A1]
theorem ISt.fits{w:xr}{b:Array _}{t:SetTable}{ns:List Int}(a:ISt w b t ns):t.fits b.size=true:=by
 let(l,T,c):=a.tb;have:=a.room;show im T (by rw[c,a.size]) (by rw[a.size];lia)
theorem ISt.elems{prog:zi}{w:xr}{a:Array _}{t:SetTable}{ns:List Int}(b:ISt w a t ns):ElemsOf (intKind prog w) a.toList:=by
 let(tk,e):=b.ent;rw[e];intro z c;let(n,d,rfl):=A3.mp c;show{⟨n,intKind_is _ _ _ _,rfl⟩,rfl}
theorem dF{es':List _}:∀{l:List _},es'.Perm l->∀{tk:Int->Tok}{ns:List Int},l=ns.map (iT tk)->∃a:List Int,a.Perm ns/\es'=a.map (iT tk):=by
 intro l p tk ns e;have d:∀z∈es',∃n,z=iT tk n:=λz h=>by
  have:=p.mem_iff.mp h;rw[e]at this;let(n,f,e):=A3.mp this;show⟨n,e.symm⟩
 obtain⟨a,c⟩:∃a:List Int,es'=a.map (iT tk):=by
  clear p e
  induction es' with
  |nil=>show{[],rfl}
  |cons z es' b =>
   let(n,f):=d z B4;let(a,e):=b λy hy=>d y<|B1 _ hy;show{n::a,by rw[f,e];rfl}
 show{a,?_,c};have g:∀m:List Int,(m.map<|iT tk).map (λz=>match z.2 with | .int n _=>n | _=>0)=m:=λm=>by
  rw[A7]
  induction m with
  |nil=>rfl
  |cons x m b=>rw[CM,b];rfl
 have:=p.map λz=>match z.2 with | .int n _=>n | _=>0;rw[c,e,g,g]at this;show this
theorem yf{tk:Int->Tok}{ns:List Int}{n:Int}{t:Tok}(c:n∉ns):∃a,(iT a n=(hashInt n,Value.int n t))/\ns.map (iT a)=ns.map (iT tk):=by
 show{λm=>if m=n then t else tk m,by change(hashInt n,Value.int n (if n=n then t else tk n))=_;rw[A6 rfl],?_}
 apply D4;intro m b;change(hashInt m,Value.int m (if m=n then t else tk m))=_;rw[A4 (by rintro rfl;show c b)];rfl
section
variable{prog:zi}{w:xr}{A:xx}{E:zy->zn->Prop}{s:zn}
theorem add_int{a:zv}{ns:List Int}{n:Int}{b:Tok}{Q:Bool->zn->Prop}(M:IS w s.heap a ns)(d2:ns.length<60)(u:∀r h' J,SameBut a s.heap h'->IS w h' a J->((n∈ns/\J=ns)\/(n∉ns/\J.Perm (n::ns)))->Q r {s with heap:=h'}):
  wpAny (model prog w) A (setAddHashed a (.int n b)<|hashInt n) Q E s:=by
 let(o,es,c8,t,i,P,f,S):=id M;have d3:=S.size;have R:=S.fits;have N:ElemsOf (intKind prog w) es.toList:=S.elems;have c9:=S.mkm.ge;have d1:=S.room;unfold setAddHashed setAddHashedIn;show wpAny_holding<|Wb (wpAny_setState_of i f R ?_);dsimp only;rw[byScan_of (knd:=intKind prog w) (x:=.int n b) rfl (by unfold scanBound;lia) N];simp only[↓reduceIte];unfold setAddByScan;show Wb<|Wb (wpAny_rule ?_);show Wb<|wpAny_setScan_of (knd:=intKind prog w) (k:=n) (intKind_is _ _ _ _) i f R N ?_;let(tk,v):=S.ent;cases Y:List.findIdx? (λe=>(intKind prog w).is n e.2) es.toList with
 |some a1 =>
  dsimp only;let(a7,X,_):=List.findIdx?_eq_some_iff_getElem.mp Y;have B:n∈ns:=by
   have C:es.toList[a1]∈es.toList:=F6 a7;generalize es.toList[a1]=z at C X;rw[v]at C;let(m,D,rfl):=A3.mp C;have:=(intKind prog w).inj _ n m X (intKind_is _ _ _ _);rw[this];show D
  show Wp<|Wp ?_;have e:s={s with heap:=s.heap}:=by cases s;rfl
  have:=u false s.heap ns (SameBut.refl a s.heap) M<|.inl ⟨B,rfl⟩;rw[e];show this
 |none =>
  dsimp only;have g:n∉ns:=λB=>by
   have:=List.findIdx?_eq_none_iff.mp Y (iT tk n) (by rw[v];show A3.mpr ⟨n,B,rfl⟩);have h2:(intKind prog w).is n (iT tk n).2=true:=intKind_is _ _ _ _;rw[h2]at this;cases this
  let(l,T,a8):=S.tb;let(p,c,c6,a4,L,a9,D,I,V):=AK T S.mkm (by lia) es (by lia) (hashInt n)<|.int n b;rw[a4];dsimp only;let(j,c4,c5):=yf (tk:=tk) (t:=b) g;let(d,h,y):=dF (es':=(insertAt es p (hashInt n,Value.int n b)).toList) (l:=(n::ns).map (iT j)) (tk:=j) (ns:=n::ns) (by
   show(SetTable.insertAt_perm es p _).trans ?_;rw[toList_push,v,<-c5,CM,c4];show FL _ _) rfl
  have b3:d.length=ns.length+1:=by rw[h.length_eq,CC]
  have W:d.Nodup:=h.nodup_iff.mpr<|E7.mpr ⟨g,S.nd⟩;have a0:(insertAt es p (hashInt n,Value.int n b)).size=d.length:=by rw[<-B6,y,A1]
  show Wb<|Wp ?_;rw[I,S.pl];simp only[D9];show Wb ?_;rw[hashByValue_scannable 8 (x:=.int n b) rfl];show Wp ?_;simp only[plainKind,D9];show Wb<|wpAny_storeSet_of i f ?_ (by rw[a0];show pq (by lia));have H:=stored i f (insertAt es p (hashInt n,Value.int n b)) c;have Z:=CA s.heap a<|Obj.putSet (insertAt es p (hashInt n,Value.int n b)) c;have a6:c.fill=d.length:=by rw[il L,a9,a8,b3]
  by_cases U:c.tooFull=true
  .rw[U];simp only[Bool.not_false,Bool.and_self,D9];let(q,a2,c7,a5,p2,a3,d0,b2,c2,c1,b1):=vT (t:=c) (insertAt es p (hashInt n,Value.int n b)) (by lia) (by lia);rw[a5];dsimp only;let(K,G,O):=dF p2 y;have c0:K.length=d.length:=G.length_eq;have c3:q.size=K.length:=by rw[<-B6,O,A1]
   show Wb<|Wp ?_;show Wb<|wpAny_storeSet_of H rfl ?_ (by rw[c3];show pq (by lia));show Wp<|Wp (u true _ K (Z.trans<|CA _ a _) {_,q,_,a2,(stored (s:={s with heap:=s.heap.update a (Obj.putSet (insertAt es p (hashInt n,Value.int n b)) c)}) H rfl q a2),P,rfl,{⟨j,O⟩,G.nodup_iff.mpr W,⟨c7,a3,by lia⟩,b2,by rw[c0,<-a0];show c2,by rw[c1,I];show S.pl,λz=>by rw[b1,V];show S.led z}}<|.inr ⟨g,G.trans h⟩)
  .have F:c.tooFull=false:=by simpa using U
   rw[F];simp only[Bool.and_false,C9,CO];show Wp<|Wp (u true _ d Z {_,_,_,c,H,P,rfl,{⟨j,y⟩,W,⟨c6,L,by lia⟩,by rw[D];show S.mkm,?_,by rw[I];show S.pl,λz=>by rw[V];show S.led z}}<|.inr ⟨g,h⟩);unfold SetTable.tooFull at F;rw[decide_eq_false_iff_not,a6]at F
   lia
end
theorem mF:entryFor table "set.__iter__"=some Builtin.«frozenset.__iter__» :=
 entryFor_alias (id':="frozenset.__iter__") (by kernel_rfl) rfl (by decide +kernel) (by kernel_rfl)
theorem dU:Slot "set_iterator" "__next__" "set_iterator.__next__" :=
 .of (owner:="set_iterator") (n:="__next__") (by kernel_rfl) (by decide +kernel) (by decide +kernel) (by decide +kernel)
  (by first|show .inl (by decide +kernel)|show .inr (by decide +kernel)) (by kernel_rfl)
theorem jq:Slot "set_iterator" "__iter__" "set_iterator.__iter__" :=
 .of (owner:="set_iterator") (n:="__iter__") (by kernel_rfl) (by decide +kernel) (by decide +kernel) (by decide +kernel)
  (by first|show .inl (by decide +kernel)|show .inr (by decide +kernel)) (by kernel_rfl)
theorem nb:entryFor table "set_iterator.__next__"=some Builtin.«set_iterator.__next__»:=entryFor_of_tree (by kernel_rfl)
theorem qX:Manifest.owners.lookup (String.ofList ['r','o','t','a','r','e','t','i','_','t','e','s'].reverse)=some Manifest.sig_set_iterator:=by kernel_rfl
theorem pJ(a:zy):argsOk "set_iterator.__next__" {[a],[]}:=by
 unfold argsOk;rw[signature?_of (n:=['_','_','t','x','e','n','_','_']) (by kernel_rfl) qX];kernel_rfl
theorem pK(a:zy):argsOk "set_iterator.__iter__" {[a],[]}:=by
 unfold argsOk;rw[signature?_of (n:=['_','_','r','e','t','i','_','_']) (by kernel_rfl) qX];kernel_rfl
theorem nc:∃b,entryFor table "set_iterator.__iter__"=some b/\b=Builtin.«dict_keyiterator.__iter__» :=
 {_,entryFor_alias (id':="dict_keyiterator.__iter__") (by kernel_rfl) rfl (by decide +kernel) (by kernel_rfl),rfl}
theorem oE{α:Type}(next:Nat->Nat):∀(b k:Nat)(left:List α)(a:Array α),left.length=b->(pickOrder.go next b k left a).toList.Perm (a.toList++left)
 |0,k,left,a,h=>by
  have:=E2.mp h;subst this;rw[append_nil];show .rfl
 |b+1,k,left,a,h=>by
  unfold pickOrder.go;have c:next k % left.length<left.length:=mod_lt _ (by lia);rw[A2 c];show(oE _ _ _ _ _ (by rw[List.length_eraseIdx,A6 c];lia)).trans ?_;rw[toList_push,append_assoc];show List.Perm.append_left _ ?_;rw[List.singleton_append];rw[List.eraseIdx_eq_take_drop_succ];show List.perm_middle.symm.trans ?_;rw[List.getElem_cons_drop,List.take_append_drop]
def iw(w:xr)(a:zv)(c:Nat)(b:Array<|Int×zy):Array (Int×zy):=if bt w then pickOrder (w.params.setOrder a c) b else b
theorem jr(w:xr)(a:zv)(c:Nat)(b:Array _):(iw w a c b).toList.Perm b.toList:=by
 unfold iw
 split
 .show oE _ _ _ _ _ rfl
 .show .rfl
theorem qY(w:xr)(a:zv)(c:Nat)(b:Array _):(iw w a c b).size=b.size:=by
 rw[<-B6,(jr w a c b).length_eq,B6]
def vU(w:xr)(t:SetTable)(e:qq)(c a:zv)(n d i:Nat):Prop :=
 ∃o b,e.get? c=some o/\o.cls=.type "set_iterator"/\o.data=.fields #[.int (b:Nat) 0,.int (i:Nat) 0,.ref a,.int (n:Nat) 0,.int (d:Nat) 0]/\(bt w=false->below t.place b=i)
theorem vU.typeIs{w:xr}{t:SetTable}{s:zn}{b a:zv}{n c i:Nat}(x:vU w t s.heap b a n c i):s.TypeIs (.ref b) "set_iterator":=let⟨o,_,e,d,_⟩:=x;⟨o,e,d⟩
section
variable{prog:zi}{w:xr}{A:xx}{E:zy->zn->Prop}{s:zn}
theorem kh{a:Array _}{t:SetTable}{ns:List Int}(S:ISt w a t ns):(!t.plain&&decide (a.size>1))=false:=by rw[S.pl];rfl
theorem yg{a:zv}{o:Obj}{b:Array _}{e:Nat}{t:SetTable}{ns:List Int}{Q:zy->zn->Prop}(S:ISt w b t ns)(c:s.heap.get? a=some o)(i:o.ExactSet)(d:o.data=.set b e t)(g:Q (.ref s.heap.objs.size) {s with heap:=s.heap.push {cls:=.type "set_iterator",data:=.fields #[.int 0 0,.int 0 0,.ref a,.int b.size 0,.int e 0]}}):wpAny (model prog w) A (pyIter<|.ref a) Q E s:=by
 have f:s.TypeIs (.ref a) "set":=⟨o,c,i.1⟩;show wpAny_pyIter_slot f F.slot_set_iter<|wpAny_call_entry F.slot_set_iter f mF (Wb ?_) (F.args_set_iter_1 _);change wpAny _ _ _ _ _ s;show Wp<|Wb (Wb<|wpAny_setEntries_of c d S.fits (Wp ?_));show Wb<|Wb (wpAny_setState_of c d S.fits ?_);show Wb<|Wb (wpAny_askSetting<|Wp (Wp ?_));have h:(!(model prog w).w.params.followText "set-order"&&(!t.plain&&decide (b.size>1)))=false:=by rw[kh S,Bool.and_false]
 change wpAny _ _ (if (!(model prog w).w.params.followText "set-order"&&(!t.plain&&decide (b.size>1)))=true then _ else _) _ _ _
 rw[h];show Wb<|Wp ?_;show Wb<|wpAny_setEpoch_of c d S.fits (Wb<|wpAny_newObj_type (Wp {_,rfl,"set_iterator",_,{_,A5 _ rfl,rfl},dU.lookup,?_}));simpa [rawInt]using g
theorem yh{a:zv}{o:Obj}{es:Array (Int×zy)}{b g i:Nat}{t:SetTable}{ns:List Int}{Q:Option (zy×Nat)->zn->Prop}(S:ISt w es t ns)(k:s.heap.get? a=some o)(h:o.data=.set es b t)(y:bt w=false->below t.place g=i)(f:∀v n,(iw w a b es)[i]?.map (·.2)=some v->(bt w=false->below t.place n=i+1)->Q (some (v,n)) s)(h2:(iw w a b es)[i]?=none->Q none s):wpAny (model prog w) A (setNext a g i b) Q E s:=by
 unfold setNext;show Wb<|wpAny_setState_of k h S.fits ?_;unfold setsByText;show Wb<|Wb (wpAny_askSetting<|Wp ?_);change wpAny _ _ (if bt w=true then _ else _) _ _ _;cases c:bt w with
 |true =>
  simp only[D9,G2,C9,CO];show Wb ?_;unfold setWalk;show Wb<|wpAny_setState_of k h S.fits ?_;unfold setsByText;show Wb<|Wb (wpAny_askSetting<|Wp ?_);change wpAny _ _ (if bt w=true then _ else _) _ _ _;rw[c];simp only[D9];show Wb<|wpAny_askSetting (Wp ?_);have e:iw w a b es=pickOrder (w.params.setOrder a b) es:=by unfold iw;rw[c];rfl
  rw[e]at f h2;change wpAny _ _ (pure<|((pickOrder (w.params.setOrder a b) es)[i]?).map λe=>(e.2,g)) _ _ _;cases m:(pickOrder (w.params.setOrder a b) es)[i]? with
  |none=>show Wp<|h2 m
  |some x=>show Wp<|f x.2 g (by rw[m];rfl) (λz=>absurd (c.symm.trans z) (by decide))
 |false =>
  simp only[C9,CO];have e:iw w a b es=es:=by unfold iw;rw[c];rfl
  rw[e]at f h2;change wpAny _ _ (if (!t.plain&&decide (es.size>1))=true then _ else _) _ _ _
  rw[kh S];simp only[C9,CO];show Wb ?_;change wpAny _ _ (if (!t.led && !es.isEmpty)=true then _ else _) _ _ _
  rw[S.led c];show Wp ?_;let(l,T,u):=S.tb;have C:l.length=es.size:=by rw[u,S.size]
  rw[y c]
  by_cases hi:i<es.size
  .have d:es[i]?=some es[i]:=C1 hi;have r:t.place[i]?=some (l[i]'(by lia)):=by rw[T.pl,List.getElem?_toArray,A2 (by lia)]
   rw[d,r];show Wp<|f _ _ (by rw[d];rfl) λ_=>?_;let(B,p,q):=cQ T.up<|l[i]'(by lia)+1;rw[T.pl];rcases lt_trichotomy (below l.toArray<|l[i]'(by lia)+1) (i+1)with z|z|z
   .have:=q i (by lia) (by lia)
    lia
   .show z
   .have j:i+1<l.length:=by lia
    have D:=p (i+1) j z;have F:=D2.mp T.up i (i+1) (by lia) j (by lia)
    lia
  .have d:es[i]?=none:=Array.getElem?_eq_none (by lia);rw[d];show Wp<|h2 d
theorem uu{c a:zv}{o:Obj}{e:Array (Int×zy)}{f i:Nat}{t:SetTable}{ns:List Int}{Q:Option zy->zn->Prop}(r:A.handled=none)(S:ISt w e t ns)(h:vU w t s.heap c a e.size f i)(l:s.heap.get? a=some o)(j:o.data=.set e f t)(p:∀v h',(iw w a f e)[i]?.map (·.2)=some v->vU w t h' c a e.size f (i+1)->SameBut c s.heap h'->Q (some v) {s with heap:=h'})(n:e.size<=i->∀h',ExtBut c s.heap h'->Q none {s with heap:=h'}):wpAny (model prog w) A (pyNext<|.ref c) Q E s:=by
 let(z,B,g,q,d,x):=id h;unfold pyNext;show Wb<|wpAny_attempt (wpAny_callSpecial?_slot h.typeIs dU
  (wpAny_call_entry dU h.typeIs nb ?_<|pJ _))
 show Wb<|Wp (Wb<|wpAny_fieldsOf g d ?_);dsimp only;show Wb<|wpAny_setEntries_of l j S.fits ?_;rw[A4 (by simp)];change wpAny _ _ _ _ _ _;show Wb<|yh S l j x (λv m y u=>?_) λk=>?_
 .dsimp only;show Wb<|wpAny_setField g d (by simp) ?_;have h1:(s.heap.update c<|Obj.mapFields (·.setIfInBounds 0 (rawInt (m:Nat)))).get? c=some _:=get?_update_self _ g<|Obj.isFreed_of_fields (Obj.data_mapFields d _);show Wb<|wpAny_setField h1 (Obj.data_mapFields d _) (by simp) ?_;show Wp ⟨_,rfl,Wp<|p v _ y {_,m,(get?_update_self (Obj.mapFields (·.setIfInBounds 1 (rawInt<|(i:Int)+1))) h1<|Obj.isFreed_of_fields (Obj.data_mapFields (Obj.data_mapFields d _) _)),?_,?_,u} ((CA ..).trans (CA ..))⟩
  .rw[Obj.cls_mapFields,Obj.cls_mapFields];show q
  .rw[Obj.data_mapFields<|Obj.data_mapFields d _];simp[rawInt]
 .dsimp only;show Wb<|wpAny_setField g d (by simp) ?_;change wpAny _ _ _ _ _ _;show Wb ?_;show Wb (wpAny_newObj_type (Wb<|wpAny_of_eq (a:=Value.none) (by first|rfl|(rfl)) ?_) (by size_fits))
  show wpAny_newObj_type ?_ (by size_fits);simp only[raiseNew];show Wb<|wpAny_handled ?_;rw[show A.in1.handled=none from r];show Wb<|Wp (wpAny_throw ?_);show Wb<|wpAny_isInstance (T:="StopIteration") (b:=true) {_,A5 _ rfl,rfl} isSubtype_stop (Wp<|n (by rw[Array.getElem?_eq_none_iff,qY]at k;show k) _ (((CA ..).extBut.push _).push _))
theorem AL{c a:zv}{n f i:Nat}{t:SetTable}{Q:zy->zn->Prop}(d:vU w t s.heap c a n f i)(g:Q (.ref c) s):wpAny (model prog w) A (pyIter<|.ref c) Q E s:=by
 let(b,h,e):=nc;subst e;show wpAny_pyIter_slot d.typeIs jq<|wpAny_call_entry jq d.typeIs h ?_ (pK _);change wpAny _ _ _ _ _ s;show Wp {_,rfl,"set_iterator",_,d.typeIs,dU.lookup,g}
theorem vV{f:Array _}{t:SetTable}{ns:List Int}{k:Nat}(S:ISt w f t ns)(m:A.handled=none)(c a:zv)(u:a≠c)(o:Obj)(l:o.data=.set f k t):
  Walks prog w A c [c,a] [c] f.size (λi v=>(iw w a k f)[i]?.map (·.2)=some v) (λi h=>vU w t h c a f.size k i/\h.get? a=some o) where
 sub:=λb d=>by simp at d;simp[d]
 frame:=λi h h' st n=>by
  let((x,y,h1,h2),h3):=st;show{{x,y,n c (by simp) _ h1,h2},n a (by simp) _ h3}
 item:=λi s Q E hi st g=>by
  show uu m S st.1 st.2 l (λv h' j r p=>(g v h' _ j ⟨r,p.extBut a o u st.2⟩ λb o d e=>p.extBut b o (λh=>d (by simp[h])) e)) λh=>absurd hi<|not_lt.mpr h
 done:=λs Q E st g=>uu m S st.1 st.2 l (λv h' j=>by rw[Array.getElem?_eq_none (by rw[qY];show A8 _)]at j;cases j) λ_ h' q=>g h' _ λb o d e=>q b o (λh=>d (by simp[h])) e
 self:=λ_ _ _ _ st g=>AL st.1 g
theorem yi{r:zv}{Q:Bool->zn->Prop}(a:s.TypeIs (.ref r) "set")(d:Q false s):wpAny (model prog w) A (Builtin.List.listLengthHint<|.ref r) Q E s:=by
 show Wb<|wpAny_specialOf a PySem.F.slot_set_len.lookup ?_;generalize e:("set.__len__")=f
 wp_delta
 subst e;show Wb<|wpAny_isInstance (b:=true) a (by kernel_rfl) ?_;show wpAny_ite_split (λc=>absurd c (by decide)) λ_=>(wpAny_ite_split (λ_=>?_) λc=>absurd (by decide +kernel) c);show Wb<|wpAny_typeOf a (Wp d)
theorem AM{c:Array _}{t:SetTable}{ns:List Int}{f:Nat}{a:zv}{o:Obj}(S:ISt w c t ns)(d:o.ExactSet)(g:o.data=.set c f t):
  KdlSrc prog w "set" a a c.size (λi v=>(iw w a f c)[i]?.map (·.2)=some v) (λh=>h.get? a=some o) where
 type:=λ_ b=>⟨o,b,d.1⟩
 there:=λ_ b=>⟨B5 b,B5 b⟩
 keep:=λ_ _ b m=>m a (.inl rfl) o b
 notList:=by decide
 notTuple:=by decide
 hint:=λ_ _ _ _ b e=>yi ⟨o,b,d.1⟩ e
 iter:=λA s k b=>⟨{cls:=.type _,data:=.fields _},_,(λ_ _ e=>yg S b d g e),vV S k _ a (C2<|B5 b) o g,
  ⟨⟨_,0,A5 _ rfl,rfl,rfl,λ_=>by
   let(l,T,q):=S.tb;let(n,j,p):=cQ T.up 0;rw[T.pl];rcases Nat.eq_zero_or_pos _ with z|z
   .show z
   .have:=j 0 (by lia) z
    lia⟩,A0 _ b⟩⟩
end
theorem IS.at{w:xr}{a h':qq}{S:zv}{ns:List Int}(x:IS w a S ns)(k:∀o,a.get? S=some o->h'.get? S=some o):IS w h' S ns:=by
 let(o,es,b,t,c,r):=x;show{o,es,b,t,k o c,r}
theorem qZ{w:xr}{b:qq}{a:zv}(c:b.get? a=some {cls:=.type "set",dict:=none,data:=.set #[] 0 (.fresh 0 0<|!bt w)}):IS w b a [] :=
 {_,#[],0,_,c,⟨rfl,rfl,rfl⟩,rfl,{{λ_=>0,rfl},nodup_nil,{[],{rfl,rfl,Pairwise.nil,λ_ b=>by simp at b},rfl},Or.inl rfl,(by change 0<21;decide),rfl,λz=>by change(!bt w)=true;rw[z];rfl}}
section
variable{prog:zi}{w:xr}{A:xx}{E:zy->zn->Prop}{s:zn}
theorem nh(a:zy){Q₁:zy->zn->Prop}(b:Q₁ (.ref s.heap.objs.size) {s with heap:=s.heap.push {cls:=.type "set",dict:=none,data:=.set #[] 0 (.fresh 0 0<|!bt w)}}):
  codeAny (model prog w) A (.call (.builtin "set.__new__") {[.type "set",a],[]}) (wants Q₁ E) s:=by
 show codeAny_of_tree ?_;change wpAny _ _ _ _ _ s;show Wb<|wpAny_of_eq (F.newCall_set_1 a) (Wp {plainId_quiet F.plain_set_new _,codeAny_builtin F.entry_set_new ?_});unfold Builtin.«set.__new__» Builtin.Frozenset.newClass;have c:=sub_set_self;let(hp,g,d,tk,os):=s
 wp_walk
 show wpAny_askSetting<|Wp (Wb<|wpAny_alloc (Wp ?_));show Wp b
set_option maxRecDepth 100000 in
set_option maxHeartbeats 3200000 in
theorem jt{x:zy}{Q:zy->zn->Prop}(m:wpAny (model prog w) A.in1.in1 (Builtin.«set.__init__» {[.ref s.heap.objs.size,x],[]})
   (λj s'=>match j with | .done f=>wants (λr a=>r=.none/\Q (.ref s.heap.objs.size) a) E (.ok f) s' | .again g=>g.quiet=true/\codeAny (model prog w) A.in1 g (wants (λr a=>r=.none/\Q (.ref s.heap.objs.size) a) E) s')
   (λe s'=>wants (λr a=>r=.none/\Q (.ref s.heap.objs.size) a) E (.error e) s') {s with heap:=s.heap.push {cls:=.type "set",dict:=none,data:=.set #[] 0 (.fresh 0 0<|!bt w)}}):
  wpAny (model prog w) A (call (.type "set") [x]) Q E s:=by
 let(c,tl,y):=F.called_set.mro;have v:=F.called_set.made;have B:=F.called_set.sub;show wpAny_call<|codeAny_of_tree ?_;change wpAny _ _ (callAny (.type "set") _) _ _ _;show Wp {Code.quiet_builtin _ (by decide +kernel),codeAny_builtin F.entry_type_call ?_};rw[Around.under_plain (weight_type_call_type "set" [x] []) rfl];have h1:=F.called_set.notType;have h2:=F.called_set.canCreate;have t:=F.typeCall_set_1 x
 repeat (any_goals (first|assumption|wp_step))
 show codeAny_mono (nh x (E:=E) (Q₁:=λh i=>h=.ref s.heap.objs.size/\i={s with heap:=s.heap.push {cls:=.type "set",dict:=none,data:=.set #[] 0 (.fresh 0 0<|!bt w)}}) ⟨rfl,rfl⟩) λr i b=>?_
 cases r with
 |error e=>show b
 |ok k =>
  cases k with
  |ret h =>
   let(rfl,rfl):=b;have n:(s.heap.push {cls:=.type "set",dict:=none,data:=.set #[] 0 (.fresh 0 0<|!bt w)}).get? s.heap.objs.size=some {cls:=.type "set",dict:=none,data:=.set #[] 0 (.fresh 0 0<|!bt w)}:=A5 _ rfl;have o:Shared.TypeIs {s with heap:=s.heap.push {cls:=.type "set",dict:=none,data:=.set #[] 0 (.fresh 0 0<|!bt w)}} (.ref s.heap.objs.size) "set":=⟨_,n,rfl⟩
   have u:=F.called_set.init.lookup;have q:=F.called_set.init.bind<|.ref s.heap.objs.size
   repeat (any_goals (first|assumption|wp_step))
   show codeAny_mono (codeAny_call_builtin (R:=wants (λr a=>r=.none/\Q (.ref s.heap.objs.size) a) E) F.called_set.init.plain F.entry_set_init<|check_set_init_1 o ?_) λp a d=>?_
   .show m
   .cases p with
    |error e=>show d
    |ok l =>
     cases l with
     |ret r =>
      let(rfl,z):=d
      repeat (any_goals (first|assumption|wp_step))
     |_=>show d.elim
  |_=>show b.elim
end
end TB
namespace SRT
open PySem PySem.W PyProof.Rows
section
variable{prog:zi}{w:xr}{A:xx}{E:zy->zn->Prop}{s:zn}
theorem kO{T:String}{r d:zv}{n:Nat}{P:Nat->zy->Prop}{p:qq->Prop}{Q:List zy->zn->Prop}(K:KdlSrc prog w T r d n P p)(z:A.handled=none)(u:p s.heap)(B:n<=sizeLine)(y:∀h' tk a,(∀b o,s.heap.get? b=some o->h'.get? b=some o)->s.heap.objs.size<h'.objs.size->ItemsOf P a n->Q a.toList {s with heap:=h',toks:=tk}):wpAny (model prog w) A (collect<|.ref r) Q E s:=by
 unfold collect;show Wb<|wpAny_runValue (codeAny_builtin entry_proto_collect' ?_);change wpAny _ _ _ _ _ s;show Wb<|wpAny_newList (Wp {Code.quiet_builtin _ (by decide +kernel),codeAny_builtin entry_list_iadd' ?_});rw[Around.under_plainId plain_list_iadd _];change wpAny _ _ _ _ _ _;have t:=K.there _ u;have key:=PySem.W.kdl_extend (A:=A) (s:={s with heap:=s.heap.push (seqObj "list" #[] 0)}) (R:=λr s'=>∃h' tk a g,r=.ok (.ret<|.ref s.heap.objs.size)/\s'={s with heap:=h',toks:=tk}/\(∀b o,s.heap.get? b=some o->h'.get? b=some o)/\h'.get? s.heap.objs.size=some {cls:=.type "list",dict:=none,data:=.seq a g,slots:=#[]}/\ItemsOf P a n)
  K z (K.keep _ _ u λb _ o e=>A0 _ e) s.heap.objs.size (F8 t.1) (F8 t.2) (.ref s.heap.objs.size) 0 (A5 _ rfl) (λh' tk v g j h i=>{h',tk,v,g,rfl,rfl,λb o e=>j b o (C2<|B5 e)<|A0 _ e,h,i}) B
 have q:∀(h':qq)(tk:Nat)(a:Array zy)(g:Nat),(∀b o,s.heap.get? b=some o->h'.get? b=some o)->h'.get? s.heap.objs.size=some {cls:=.type "list",dict:=none,data:=.seq a g,slots:=#[]}->ItemsOf P a n->wpAny (model prog w) A (do
   let o <- load s.heap.objs.size
   match o.data with
   |.seq xs _=>pure xs.toList
   | _=>unsupported "internal:collect") Q E {s with heap:=h',toks:=tk}:=λh' tk a g j h i=>by
  show Wb<|wpAny_load h (Wp<|y h' tk a j (B5 h) i)
 show wpAny_mono key (λx s' l=>?_) λe s' l=>?_
 .cases x with
  |done f =>
   let(h',tk,a,g,k,m,j,h,i):=l;cases k;subst m;show q h' tk a g j h i
  |again c =>
   show{l.1,codeAny_mono l.2 λr s' C=>?_};let(h',tk,a,g,k,m,j,h,i):=C;subst k m;show q h' tk a g j h i
 .let(h',tk,a,g,k,_):=l;cases k
end
end SRT
namespace L2
open PySem PySem.Spec PyProof.Rows
section
variable{X:Cx}
def fw(w:xr)(a:zv)(ns:List Int):HO:=.ext λh=>TB.IS w h a ns
theorem Inv.intS{d:List _}{e:St}{H:Hp}{s:zn}(b:Inv X d e H s){a:zv}{ns:List Int}(c:H a=some (fw X.w a ns)):TB.IS X.w s.heap a ns:=(b.hok a _ c).1
theorem Inv.layS{d:List _}{e:St}{H:Hp}{s:zn}(f:Inv X d e H s){h':qq}{t':Nat}{a:zv}{ns:List Int}(k:∀b u,s.heap.get? b=some u->h'.get? b=some u)(j:s.heap.objs.size<=a)(c:TB.IS X.w h' a ns):
  Inv X d e (upd H a<|fw X.w a ns) {s with heap:=h',toks:=t'}:=by
 let(o,es,l,t,i,r):=id c;show f.laid k j {c,⟨o,i⟩,λh1 h2 g h=>g.at h}
theorem gY(C:X.calm=true):cq X (.builtin "sorted") (λxs H Q=>∃l,∃ns:List Int,xs=[.ref l]/\H l=some (fw X.w l ns)/\ns.length<=60 /\
  ∀ms:List Int,ms.Perm ns->ms.Pairwise (λa b=>a<b)->∀p,H p=none->Q (.ref p) (upd H p<|.lst (ms.map V.int))):=by
 intro pins s σ H xs us Q I r h;let(l,ns,rfl,K,T,q):=h;let(u,rfl,R):=cD r;cases R;let(o,es,j,t,M,G,D,S):=I.intS K;let(z,F):=S.ent;let(c,d,y):=TB.dF (TB.jr X.w l j es) F;have v:c.Nodup:=d.nodup_iff.mpr S.nd;have m:c.length=ns.length:=d.length_eq;show gO I (λA E Q B h=>SRT.kO (TB.AM S G D) (B.trans<|I.ok.hd C) M (by rw[S.size,sizeLine_eq];lia) λh1 tk g J L f=>h h1 tk _ J (F1 L) ?_) v (by lia) λms O P=>q ms (O.trans d) P;obtain⟨vs,rfl⟩:∃vs:List _,g=vs.toArray:=⟨g.toList,rfl⟩;have k:vs=c.map λn=>Value.int n (z n):=by
  apply ext_getElem?;intro i;have U:vs.length=es.size:=by have:=f.1;rw[B2]at this;show this
  by_cases hi:i<vs.length
  .have:Option.map (λx=>x.2) (TB.iw X.w l j es)[i]?=some vs[i]:=f.2 i vs[i] (by rw[List.getElem?_toArray];show A2 hi);rw[A2 hi,B7];rw[<-F0,y,B7]at this;cases e:c[i]? with
   |none=>rw[e]at this;cases this
   |some n =>
    rw[e]at this;change some vs[i]=some (Value.int n<|z n);rw[<-(Option.some.inj this)];rfl
  .rw[F7 (by lia),F7 (by rw[A1,m,<-S.size];lia)]
 change aB _ vs;rw[k];clear d y v m k f h
 induction c with
 |nil=>show .nil
 |cons n c N=>show .cons ⟨_,rfl⟩ N
end
end L2
namespace TB
open PySem PySem.SetTable
theorem rc{a:Array (Int×zy)}{zs:List (Nat×Nat)}(b:(zs.map (·.2)).Perm (List.range a.size)):(((zs.map (·.2)).toArray).filterMap (λi=>a[i]?)).toList.Perm a.toList:=by
 rw[Array.toList_filterMap];show(b.filterMap _).trans (by rw[filterMap_getElem?_range])
section
variable{prog:zi}{w:xr}{A:xx}{E:zy->zn->Prop}{s:zn}
theorem yj{a:zv}{ns:List Int}{wanted:Nat}{Q:Unit->zn->Prop}(p:IS w s.heap a ns)(C:wanted<=255)(B:ns.length*5<(sizeAbove wanted-1)*3)(n:∀h' b o es j t,SameBut a s.heap h'->h'.get? a=some o->o.ExactSet->o.data=.set es j t->ISt w es t b->b.Perm ns->t.mask=sizeAbove wanted-1->Q () {s with heap:=h'}):wpAny (model prog w) A (setRelay a wanted) Q E s:=by
 let(o,es,j,t,g,u,c,S):=p;let(k,F,D):=jj C;have G:=S.size;unfold setRelay;show Wb<|wpAny_setState_of g c S.fits ?_;dsimp only;rw[A4 (by rw[sizeLine_eq];lia)];let(m,zs,e,d,v,y,T,h):=jK (t:=t) (hashes:=es.map (·.1)) (wanted:=wanted) k.cyc (by rw[size_map];lia);rw[size_map]at h;have hp:=rc h;have l:(((zs.map (·.2)).toArray).filterMap (λi=>es[i]?)).size=es.size:=by rw[<-B6,hp.length_eq,B6]
 let(tk,q):=S.ent;let(b,f,r):=dF hp q;have H:zs.length=es.size:=by
  have:=h.length_eq;rw[A1,F4]at this;show this
 have x:b.length=ns.length:=f.length_eq;show Wb ?_;rw[e];change wpAny _ _ (@ite _ _ _ _ _) _ _ _;rw[A4 (by rw[l];simp)];show Wp ?_;dsimp only;show wpAny_storeSet_of g c (n _ b _ _ _ m (CA s.heap a _) (stored g c _ m) u rfl {⟨tk,r⟩,f.nodup_iff.mpr S.nd,{_,T,by rw[A1];lia},by rw[d];show k,by rw[d,x];show B,by rw[y];show S.pl,λz=>by rw[v];show S.led z} f d) (by rw[l,sizeLine_eq];lia)
theorem pL{a:zv}{ns:List Int}{more:Nat}{Q:Unit->zn->Prop}(g:IS w s.heap a ns)(G:ns.length+more<=120)(f:∀h' b o es c t,SameBut a s.heap h'->h'.get? a=some o->o.ExactSet->o.data=.set es c t->ISt w es t b->b.Perm ns->(ns.length+more)*5<t.mask*3->Q () {s with heap:=h'}):wpAny (model prog w) A (setRoomFor a more) Q E s:=by
 let(o,es,c,t,k,q,i,S):=id g;let(l,T,j):=S.tb;have z:t.fill=ns.length:=by rw[il T,j]
 have F:t.place.size=ns.length:=by rw[T.pl,B2,j]
 show Wb<|wpAny_setState_of k i S.fits ?_
 by_cases h:(t.fill+more)*5>=t.mask*3
 .have e:t.roomFor more=some ((t.place.size+more)*2):=by unfold SetTable.roomFor;rw[A6 h]
  rw[e];let(u,C,_):=jj (w:=(ns.length+more)*2) (by lia);have B:=u.ge;show yj g (by lia) (by lia) λh' b o' d n y x v r p m hp D=>f h' b o' d n y x v r p m hp ?_
  lia
 .have e:t.roomFor more=none:=by unfold SetTable.roomFor;rw[A4 h]
  rw[e];have d:s={s with heap:=s.heap}:=by cases s;rfl
  show Wp<|f s.heap ns o es c t (SameBut.refl a s.heap) k q i S (.refl _) (by lia)
theorem oF{a b:zv}{ns:List Int}{G:Sem Unit}{Q:Unit->zn->Prop}(I:a≠b)(t:IS w s.heap a [])(J:IS w s.heap b ns)(a7:ns.length<=60)(n:∀h' l,SameBut a s.heap h'->IS w h' a l->l.Perm ns->Q () {s with heap:=h'}):wpAny (model prog w) A (setMerge a b G) Q E s:=by
 let(b2,g,a2,tb,V,a5,K,c):=id J;unfold setMerge;have S:(a==b)=false:=by simpa using I
 rw[S];simp only[C9,CO];show Wb<|wpAny_setState_of V K c.fits ?_;dsimp only;have H:s={s with heap:=s.heap}:=by cases s;rfl
 by_cases o:g.isEmpty=true
 .rw[o];simp only[D9];have Y:ns=[]:=by
   have:=c.size;have a4:g.size=0:=by simpa [isEmpty]using o
   show E2.mp (by lia)
  subst Y;rw[H];show Wp<|n s.heap [] (SameBut.refl a s.heap) t (.refl _)
 .have L:g.isEmpty=false:=by simpa using o
  rw[L];have r:=c.size;show Wb<|pL t (by rw[F9];lia) λh1 a0 b1 a3 a1 f B j v h d W y=>?_;have F:a0=[]:=W.eq_nil;subst F;rw[F9,zero_add]at y;show Wb<|wpAny_setState_of (s:={s with heap:=h1}) j h d.fits ?_;dsimp only;let(a9,D,O):=d.tb;have N:f.fill=0:=by rw[il D,O];rfl
  let(Z,m,P):=c.tb;let(tk,u):=c.ent;have a6:=d.mkm.ge;cases k:f.road tb with
  |slotForSlot =>
   dsimp only;show wpAny_storeSet_of (s:={s with heap:=h1}) j h (n _ ns (B.trans<|CA ..) {_,_,_,_,stored (s:={s with heap:=h1}) j h _ _,v,rfl,{⟨tk,u⟩,c.nd,⟨Z,⟨m.pl,m.nd,m.up,m.le⟩,P⟩,c.mkm,c.room,by change(f.plain&&tb.plain)=true;rw[d.pl,c.pl];rfl,λz=>by change(f.led&&tb.led)=true;rw[d.led z,c.led z];rfl}}<|.refl _) (by rw[r,sizeLine_eq];lia)
  |clean =>
   dsimp only;let(b3,zs,e,x,R,X,T,q):=tY (mask:=f.mask) (finger:=f.finger) (moves:=f.moves) (led:=f.led&&tb.led) (plain:=f.plain&&tb.plain) (hashes:=g.map (·.1)) d.mkm.cyc (by rw[size_map];lia);rw[size_map]at q;have hp:=rc q;have C:(((zs.map (·.2)).toArray).filterMap (λi=>g[i]?)).size=g.size:=by rw[<-B6,hp.length_eq,B6]
   let(l,p,M):=dF hp u;have a8:zs.length=g.size:=by
    have:=q.length_eq;rw[A1,F4]at this;show this
   have U:l.length=ns.length:=p.length_eq;show Wb ?_;rw[e];change wpAny _ _ (@ite _ _ _ _ _) _ _ _;rw[A4 (by rw[C];simp)];show Wp ?_;dsimp only;show wpAny_storeSet_of (s:={s with heap:=h1}) j h (n _ l (B.trans<|CA ..) {_,_,_,_,stored (s:={s with heap:=h1}) j h _ _,v,rfl,{⟨tk,M⟩,p.nodup_iff.mpr c.nd,{_,T,by rw[A1];lia},by rw[x];show d.mkm,by rw[x,U,<-r];show y,by rw[X,d.pl,c.pl];rfl,λz=>by rw[R,d.led z,c.led z];rfl}} p) (by rw[C,r,sizeLine_eq];lia)
  |oneByOne =>
   exfalso
   unfold SetTable.road at k;rw[N]at k;simp only[G2,C9,CO]at k
   split at k<;>cases k
theorem AN{b:zv}{o:Obj}{c:Array _}{e:Nat}{t:SetTable}{ns:List Int}{Q:Array _->zn->Prop}(S:ISt w c t ns)(g:s.heap.get? b=some o)(f:o.data=.set c e t)(a:Q (iw w b e c) s):wpAny (model prog w) A (setWalk b) Q E s:=by
 show Wb<|wpAny_setState_of g f S.fits (Wb<|Wb (wpAny_askSetting<|Wp ?_));change wpAny _ _ (if bt w=true then _ else _) _ _ _;unfold iw at a;cases d:bt w with
 |true =>
  rw[d]at a;show Wb<|wpAny_askSetting (Wp a)
 |false =>
  rw[d]at a;change wpAny _ _ (if (!t.plain&&decide _)=true then _ else _) _ _ _
  rw[kh S];show Wb ?_;change wpAny _ _ (if (!t.led&&decide _)=true then _ else _) _ _ _
  rw[S.led d];show Wp<|Wp a
theorem kP{b:zv}{os:List _}{f:Option _}{o:Obj}{a:Array _}{c:Nat}{t:SetTable}{ns:List Int}{Q:Array _->zn->Prop}(S:ISt w a t ns)(g:s.heap.get? b=some o)(e:o.data=.set a c t)(h:Q (iw w b c a) s):wpAny (model prog w) A (setWalkUnseen b os f) Q E s:=by
 show Wb<|wpAny_setState_of g e S.fits ?_;show Wb<|Wb (wpAny_askSetting<|Wp ?_);have i:((model prog w).w.params.followText "set-order"||t.led&&t.plain||decide (a.size<=1))=true:=by
  cases d:bt w with
  |true =>
   have:(model prog w).w.params.followText _=true:=d;rw[this];rfl
  |false=>rw[S.led d,S.pl];simp
 change wpAny _ _ _ _ _ _;rw[i];show AN S g e h
theorem yk{a b:zv}{ms ns:List Int}{D:Sem Unit}{Q:Unit->zn->Prop}(k:a≠b)(o:IS w s.heap a ms)(F:IS w s.heap b ns)(c9:ms.length+ns.length<=60)(X:∀(h':qq) (C:Unit->zn->Prop),SameBut a s.heap h'->C () {s with heap:=h'}->wpAny (model prog w) A D C E {s with heap:=h'})(m:∀h' us,SameBut a s.heap h'->IS w h' a us->(∀x,x∈us↔x∈ms\/x∈ns)->Q () {s with heap:=h'}):wpAny (model prog w) A (setMerge a b D) Q E s:=by
 by_cases I:ms=[]
 .subst I;show oF k o F (by lia) λh' c N Y hp=>m h' c N Y λx=>by rw[hp.mem_iff];simp
 .let(d3,j,U,tb,v,c7,p,d):=id F;have c8:0<ms.length:=List.length_pos_iff.mpr I;unfold setMerge;have a6:(a==b)=false:=by simpa using k
  rw[a6];simp only[C9,CO];show Wb<|wpAny_setState_of v p d.fits ?_;dsimp only;have V:s={s with heap:=s.heap}:=by cases s;rfl
  by_cases q:j.isEmpty=true
  .rw[q];simp only[D9];have c0:ns=[]:=by
    have:=d.size;have c6:j.size=0:=by simpa [isEmpty]using q
    show E2.mp (by lia)
   subst c0;rw[V];show Wp (m s.heap ms (SameBut.refl a s.heap) o λx=>by simp)
  .have a0:j.isEmpty=false:=by simpa using q
   rw[a0];simp only[C9,CO];have N:=d.size;show Wb<|pL o (by lia) λh1 c1 c2 W T O M K a2 G l y d1=>?_;show Wb<|wpAny_setState_of (s:={s with heap:=h1}) K G l.fits ?_;dsimp only;let(d2,R,a4):=l.tb;have b2:O.road tb=.oneByOne:=by
    unfold SetTable.road;rw[A6 (by simpa using by rw[il R,a4,y.length_eq];lia)]
   rw[b2];dsimp only;show Wb<|kP (s:={s with heap:=h1}) d ((M.2 b<|CD k).trans v) p ?_;let(tk,a1):=d.ent;let(c,J,a7):=dF (jr w b U j) a1;have d0:c.length=ns.length:=J.length_eq;rw[<-forIn_toList,a7];show Wb (wpAny_forIn_list _ (λrest _ s'=>∃h' us i,s'={s with heap:=h'}/\rest=(c.drop i).map (iT tk)/\SameBut a s.heap h'/\IS w h' a us/\(∀x,x∈us↔x∈ms\/x∈c.take i)/\us.length<=ms.length+i/\i<=c.length) _ ?_ ?_ _ _
    {h1,c1,0,rfl,rfl,M,⟨c2,W,T,O,K,a2,G,l⟩,λx=>by rw[y.mem_iff];simp,by rw[y.length_eq];lia,CI _})
   .rintro⟨H,P⟩ rest S s' ⟨h',us,i,rfl,f,h,n,g,a5,hi⟩;have u:i<c.length:=by
     rcases lt_or_ge i c.length with z|z
     .show z
     .rw[List.drop_of_length_le z]at f;cases f
    rw[List.drop_eq_getElem_cons u,CM]at f;injection f with a8 a9
    have b1:H=hashInt c[i]/\P=Value.int c[i] (tk c[i]):=by
     have:(H,P)=(hashInt c[i],Value.int c[i] (tk c[i])):=a8;injection this with c3 c4
     show⟨c3,c4⟩
    let(rfl,rfl):=b1;show Wb<|wpAny_holding (add_int (s:={s with heap:=h'}) n (by lia) λr h2 c5 B Z L=>(Wb<|X h2 _ (h.trans B) ?_));show Wb<|wpAny_setState_of (s:={s with heap:=h2}) (((h.trans B).2 b (CD k)).trans v) p d.fits ?_;rw[A4 (by simp)];show Wp {h2,c5,i+1,rfl,a9,h.trans B,Z,λx=>?_,?_,u}
    .have b3:c.take (i+1)=c.take i++[c[i]]:=by rw[take_succ,A2 u];rfl
     rw[b3,C6,B8];rcases L with⟨t,e⟩|⟨_,e⟩
     .rw[e,g x];constructor
      .rintro(z|z)
       .show .inl z
       .show .inr<|.inl z
      .rintro(z|z|z)
       .show .inl z
       .show .inr z
       .rw[z];show(g _).mp t
     .rw[e.mem_iff,B3,g x];constructor
      .rintro(z|z|z)
       .show .inr<|.inr z
       .show .inl z
       .show .inr<|.inl z
      .rintro(z|z|z)
       .show .inr<|.inl z
       .show .inr<|.inr z
       .show .inl z
    .rcases L with⟨_,e⟩|⟨_,e⟩
     .rw[e];lia
     .have:=e.length_eq;rw[CC]at this
      lia
   .rintro S s' ⟨h',us,i,rfl,f,h,n,g,a5,hi⟩;have a3:c.drop i=[]:=by simpa using f.symm
    have t:i=c.length:=by
     have:=congrArg length a3;rw[G1,F9]at this
     lia
    show Wp<|m h' us h n λx=>?_;rw[g x,t,take_length,J.mem_iff]
end
theorem pM:entryFor table "set.__or__"=some Builtin.«frozenset.__or__» :=
 entryFor_alias (id':="frozenset.__or__") (by kernel_rfl) rfl (by decide +kernel) (by kernel_rfl)
section
variable{prog:zi}{w:xr}{A:xx}{E:zy->zn->Prop}{s:zn}
theorem ym{Q:zy->zn->Prop}(h:∀h',(∀b o,s.heap.get? b=some o->h'.get? b=some o)->IS w h' s.heap.objs.size []->Q (.ref s.heap.objs.size) {s with heap:=h'}):wpAny (model prog w) A (newSet<|.type "set") Q E s:=by
 show Wb<|Wb (wpAny_askSetting<|Wp (Wb<|wpAny_alloc (Wp<|h _ (λb o e=>A0 _ e) (qZ<|A5 _ rfl))))
theorem ip{a:zv}{Q:Bool->zn->Prop}(c:s.TypeIs (.ref a) "set")(b:Q true s):wpAny (model prog w) A (Builtin.Frozenset.isAnySet<|.ref a) Q E s:=by
 show Wb<|wpAny_isInstance c sub_set_self (Wp b)
theorem AO{a:zv}{ns:List Int}{Q:zy->zn->Prop}(c:IS w s.heap a ns)(k:ns.length<=60)(g:∀h' us,(∀b o,s.heap.get? b=some o->h'.get? b=some o)->IS w h' s.heap.objs.size us->us.Perm ns->Q (.ref s.heap.objs.size) {s with heap:=h'}):wpAny (model prog w) A (Builtin.Frozenset.copyOf a) Q E s:=by
 let(o,es,m,t,f,j,n,S):=id c;show Wb ?_;show Wb<|wpAny_isInstance (⟨o,f,j.1⟩) sub_set_self (Wp ?_);show Wb<|ym λh1 d h=>(Wb ?_);change wpAny _ _ _ _ _ _;show Wp ?_;show Wb<|oF (F8<|B5 f) h (c.at λo e=>d a o e) k λh' us l i hp=>(Wp<|g h' us (λb o e=>?_) i hp);rw[l.2 b<|C2 (B5 e)];show d b o e
theorem yn{a b:zv}{ms ns:List Int}{Q:zy->zn->Prop}(v:a≠b)(l:IS w s.heap a ms)(m:IS w s.heap b ns)(B:ms.length+ns.length<=60)(r:∀h' us,(∀b o,s.heap.get? b=some o->h'.get? b=some o)->IS w h' s.heap.objs.size us->(∀x,x∈us↔x∈ms\/x∈ns)->Q (.ref s.heap.objs.size) {s with heap:=h'}):wpAny (model prog w) A (binaryOp .BitOr (.ref a)<|.ref b) Q E s:=by
 let(oa,ea,K,ta,D,y,M,I):=id l;let(ob,J,L,tb,g,q,p,j):=id m;have d:s.TypeIs (.ref a) "set":=⟨oa,D,y.1⟩;have k:s.TypeIs (.ref b) "set":=⟨ob,g,q.1⟩;show wpAny_binaryOp_same d k F.fills_set_or F.slot_set_or<|wpAny_call_entry F.slot_set_or d pM ?_ (F.args_set_or_2 _ _);unfold Builtin.«frozenset.__or__»;show Wb ?_;unfold Builtin.Frozenset.slot1;show Wb<|Wp (Wp ?_);dsimp only;simp only[C9,CO];show Wb<|Wb (ip d ?_);change wpAny _ _ (Builtin.Frozenset.isAnySet<|.ref b) _ _ _;show ip k<|Wb ?_;change wpAny _ _ (pure a) _ _ _;show Wp ?_;show Wb<|Wb (AO l (by lia) λh1 us f t hp=>?_);have C:(Value.ref b != Value.ref a)=true:=by
  rw[bne_iff_ne];intro e;injection e with e
  show v e.symm
 rw[C];simp only[D9];show Wb ?_;change wpAny _ _ (pure s.heap.objs.size) _ _ _;show Wp ?_;show Wb<|wpAny_holding ?_;unfold Builtin.Frozenset.updateFrom;have h:h1.get? b=some ob:=f b ob g;show Wb<|ip (⟨ob,h,q.1⟩) ?_;simp only[D9];show Wb ?_;change wpAny _ _ (pure b) _ _ _;show Wp ?_;unfold Builtin.Frozenset.merge;show Wb<|wpAny_setEpoch_of (s:={s with heap:=h1}) h p j.fits ?_;have n:s.heap.objs.size≠b:=F8<|B5 g;show yk (s:={s with heap:=h1}) n t (m.at λo e=>f b o e) (by rw[hp.length_eq];show B) (λh' H i G=>?_) λh' vs i u z=>?_
 .unfold Builtin.Frozenset.unchanged;show Wb<|wpAny_setEpoch_of (s:={s with heap:=h'}) ((i.2 b<|CD n).trans h) p j.fits ?_;rw[A4 (by simp)];show Wp G
 .show Wp<|Wp {_,rfl,(λe=>nomatch e),r h' vs (λc o e=>?_) u λx=>by rw[z x,hp.mem_iff]};rw[i.2 c<|C2 (B5 e)];show f c o e
theorem yo{d:zv}{od:Obj}{a:Array DictEntry}{O:Nat}{ks:List Int}{Q:zy->zn->Prop}(F:s.heap.get? d=some od)(U:od.ExactDict)(h:od.data=.dict a O)(c0:(d==sysModules)=false)(V:∀(i:Nat) (e:DictEntry),a[i]?=some e->∃k t,ks[i]?=some k/\e.key=.int k t/\e.hash=hashInt k)(a0:a.size=ks.length)(b3:ks.length<=60)(g:∀h' us,(∀b o,s.heap.get? b=some o->h'.get? b=some o)->IS w h' s.heap.objs.size us->(∀x,x∈us↔x∈ks)->Q (.ref s.heap.objs.size) {s with heap:=h'}):wpAny (model prog w) A (call (.type "set") [.ref d]) Q E s:=by
 show jt ?_;have B:(s.heap.push {cls:=.type "set",dict:=none,data:=.set #[] 0 (.fresh 0 0<|!bt w)}).get? s.heap.objs.size=some {cls:=.type "set",dict:=none,data:=.set #[] 0 (.fresh 0 0<|!bt w)}:=A5 _ rfl;have v:IS w (s.heap.push {cls:=.type "set",dict:=none,data:=.set #[] 0 (.fresh 0 0<|!bt w)}) s.heap.objs.size []:=qZ B;have l:(s.heap.push {cls:=.type "set",dict:=none,data:=.set #[] 0 (.fresh 0 0<|!bt w)}).get? d=some od:=A0 _ F;have C:∀b o,s.heap.get? b=some o->(s.heap.push {cls:=.type "set",dict:=none,data:=.set #[] 0 (.fresh 0 0<|!bt w)}).get? b=some o:=λb o e=>A0 _ e;have q:s.heap.objs.size≠d:=F8<|B5 F;generalize (s.heap.push {cls:=.type "set",dict:=none,data:=.set #[] 0 (.fresh 0 0<|!bt w)})=m at B v l C|-;have b1:Shared.TypeIs {s with heap:=m} (.ref d) "dict":=⟨od,l,U.1⟩
 have h1:isSubtype (.type "dict") (.type "set")=pure false:=by rw[isSubtype_type];kernel_rfl
 have h2:isSubtype (.type "dict") (.type "frozenset")=pure false:=by rw[isSubtype_type];kernel_rfl
 generalize b2:@Builtin.Frozenset.updateFrom=a9;unfold Builtin.«set.__init__» noKeywords
 wp_walk
 rw[h];show Wp ?_;show Wb<|wpAny_dictEntries (s:={s with heap:=m}) l h (Wb<|pL (s:={s with heap:=m}) v (by rw[F9];lia) λh3 a5 a6 P N a7 I a1 T S L a2 _=>?_);have M:a5=[]:=a2.eq_nil;subst M;show Wb<|wpAny_dictEntries (s:={s with heap:=h3}) ((I.2 d<|CD q).trans l) h (Wb ?_);rw[Std.Legacy.Range.forIn_eq_forIn_range'];simp only[Std.Legacy.Range.size,sub_zero,Nat.add_sub_cancel,Nat.div_one];show wpAny_forIn_list _ (λrest _ s'=>∃h' us i,s'={s with heap:=h'}/\rest=range' i (a.size-i)/\i<=a.size/\SameBut s.heap.objs.size m h'/\IS w h' s.heap.objs.size us/\(∀x,x∈us↔x∈ks.take i)/\us.length<=i) _ ?_ ?_ _ _
  {h3,[],0,rfl,by simp,CI _,I,⟨a6,P,N,a7,a1,T,S,L⟩,λx=>by simp,A8 _}
 .rintro x rest b s' ⟨h',us,i,rfl,f,hi,n,p,j,Z⟩;have D:i<a.size:=by
   rcases lt_or_ge i a.size with g|g
   .show g
   .rw[Nat.sub_eq_zero_of_le g]at f;simp at f
  obtain⟨rfl,a3⟩:x=i/\rest=range' (i+1) (a.size-(i+1)):=by
   have e:a.size-i=(a.size-(i+1))+1:=by lia
   rw[e,List.range'_succ]at f;injection f with h1 h2
   show⟨h1,h2⟩
  have G:h'.get? d=some od:=(n.2 d<|CD q).trans l;show Wb<|wpAny_dictEntries (s:={s with heap:=h'}) G h ?_;have K:a[x]?=some a[x]:=C1 D;let(k,c1,W,X,Y):=V x _ K;rw[K];change wpAny _ _ (holding [a[x].key] (setAddHashed s.heap.objs.size a[x].key a[x].hash) >>= _) _ _ _;rw[X,Y];show Wb<|wpAny_holding (add_int (s:={s with heap:=h'}) p (by lia) λr h2 a8 J R H=>?_);show Wb<|wpAny_dictEpoch (s:={s with heap:=h2}) ((J.2 d<|CD q).trans G) h ?_;rw[A4 (by simp)];show Wp {h2,a8,x+1,rfl,a3,D,n.trans J,R,λy=>?_,?_}
  .have a4:ks.take (x+1)=ks.take x++[k]:=by rw[take_succ,W];rfl
   rw[a4,C6,B8];rcases H with⟨u,e⟩|⟨_,e⟩
   .rw[e,j y];constructor
    .show .inl
    .rintro(z|z)
     .show z
     .rw[z];show(j _).mp u
   .rw[e.mem_iff,B3,j y];show Or.comm
  .rcases H with⟨_,e⟩|⟨_,e⟩
   .rw[e];lia
   .have:=e.length_eq;rw[CC]at this
    lia
 .rintro b s' ⟨h',us,i,rfl,f,hi,n,p,j,Z⟩;have u:i=a.size:=by
   have:=congrArg length f;rw[F9,List.length_range']at this
   lia
  show Wp<|Wp {rfl,g h' us (λc o e=>?_) p λx=>?_}
  .rw[n.2 c<|C2 (B5 e)];show C c o e
  .rw[j x,u,a0,take_length]
end
end TB
namespace L2
open PySem PySem.Spec PyProof.Rows
section
variable{X:Cx}
theorem Inv.dK{f:List _}{h:St}{H:Hp}{s:zn}(c:Inv X f h H s){a:zv}{kvs:List _}(b:Rd H a<|.dK kvs):
  kvs.length<=sizeLine/\(a==sysModules)=false/\∃vs,KV kvs vs/\s.heap.DictOf (aR X.prog X.w) a vs:=by
 rcases b with b|⟨o,b⟩
 .let(e,d,vs,g,dd):=c.hok a _ b
  grind
 .let(_,e,d,vs,g,dd):=c.hok a _ b
  grind
def eY:V->Bool
 |.non=>true
 |.int _=>true
 |.str _=>true
 |_=>false
theorem gx{x:V}(h:eY x=true):dP x=true:=by cases x<;>first|rfl|cases h
theorem re{x y:V}(a:eY x=true)(b:eY y=true):eqV x y=decide (x=y):=by
 cases x<;>cases y<;>simp_all [eqV,eY]<;>grind<;>simp
def OT(H:Hp)(x:V)(o:Option<|List V):Prop:=(x=.non/\o=none)\/∃a xs,x=.ref a/\H a=some (.tup xs)/\o=some xs/\∀v∈xs,eY v=true
theorem yq{xs ys:List V}(a:xs.length=ys.length):((List.range xs.length).all λi=>decide<|xs.getD i .non=ys.getD i .non)=decide (xs=ys):=by
 rw[D3,G5,C8];constructor
 .intro h;apply ext_getElem?;intro i
  by_cases hi:i<xs.length
  .simp_all
  grind
 grind
theorem yr(O:X.A.units+1<cLine):OpR X (compareOp .NotEq) (λx y H Q=>∃j k,OT H x j/\OT H y k/\Q (.bl<|!decide (j=k)) H):=by
 intro pins s σ H x y v u Q I M N h;let(j,k,L,hy,q):=h;have g:X.A.units<cLine:=by lia
 rcases L with⟨rfl,rfl⟩|⟨a,xs,rfl,t,rfl,D⟩<;>rcases hy with⟨rfl,rfl⟩|⟨b,ys,rfl,w,rfl,E⟩<;>cases M<;>cases N
 .show RcNeAt.none_none _ _ _ _ ⟨.bl false,H,I,rfl,q⟩
 .let(_,ws,m,o):=I.hok b _ w;show RcNeAt.none_tuple o g _ _ _ _ ⟨.bl true,H,I,rfl,q⟩
 .let(_,us,l,n):=I.hok a _ t;show RcNeAt.tuple_none n g _ _ _ _ ⟨.bl true,H,I,rfl,q⟩
 .let(_,us,l,n):=I.hok a _ t;let(_,ws,m,o):=I.hok b _ w;have B:=l.length;have C:=m.length;show RcNeAt.tuples (e:=λi=>decide<|xs.getD i .non=ys.getD i .non) n o g (λc h1 h2=>?_) _ _ _ _ {.bl _,H,I,rfl,?_}
  .have d:c<xs.length:=by rw[B];simpa using h1
   have f:c<ys.length:=by rw[C];simpa using h2
   let(P,F,G):=l.get<|A2 d;let(R,J,K):=m.get<|A2 f;rw[io h1 F,io h2 J,Bm,Bm,A2 d,A2 f];have p:=D _<|F6 d;have r:=E _<|F6 f;change EqAt _ _ _ _ (decide<|xs[c]=ys[c]);rw[<-re p r];show lM G K (gx p)<|gx r
  .have e:((List.range<|min us.toArray.size ws.toArray.size).all (λi=>decide<|xs.getD i .non=ys.getD i .non)&&us.toArray.size==ws.toArray.size)=decide (some xs=some ys):=by
    simp only[B2,<-B,<-C]
    by_cases z:xs.length=ys.length
    .rw[<-z,min_self,yq z];simp
    .grind
   rw[e];show q
end
theorem ju{α:Type}[DecidableEq α]:∀{l m:List α},l.Nodup->(∀x∈l,x∈m)->l.length<=m.length
 |[],_,_,_=>CI _
 |x::l,m,hn,h=>by
  let(h1,h2):=E7.mp hn;have a:=ju (m:=m.erase x) h2 λy hy=>(List.mem_erase_of_ne (by grind)).mpr (h y<|B1 _ hy)
  grind
section
variable{X:Cx}
theorem eZ:cq X (.type "set") (λxs H Q=>∃d kvs,∃ks:List Int,xs=[.ref d]/\Rd H d (.dK kvs)/\kvs.map (·.1)=ks.map (Sum.inl:Int->Key)/\ks.length<=60 /\
  ∀ms:List Int,ms.Nodup->(∀x,x∈ms↔x∈ks)->∀q,H q=none->Q (.ref q) (upd H q<|fw X.w q ms)):=by
 intro pins s σ H xs us Q I r h;let(d,kvs,ks,rfl,C,c,J,q):=h;let(u,rfl,R):=cD r;cases R;let(W,N,vs,l,o,es,T,M,O,D,f,hp,U):=I.dK C;have K:es.size=ks.length:=by
  have b:=hp.length;have g:=l.length;have m:=congrArg length c;rw[A1,A1]at m;rw[B6]at b
  lia
 have key:∀(es:List DictEntry)(vs:List<|Key×zy)(kvs:List<|Key×V)(ks:List Int),Pairs (aR X.prog X.w) es vs->KV kvs vs->kvs.map (·.1)=ks.map (Sum.inl:Int->Key)->(∀e∈es,∃k,(aR X.prog X.w).is k e.key=true/\e.hash=(aR X.prog X.w).hash k) ->
   ∀(i:Nat)(e:DictEntry),es[i]?=some e->∃k t,ks[i]?=some k/\e.key=.int k t/\e.hash=hashInt k:=by
  intro es vs kvs ks hp
  induction hp generalizing kvs ks with
  |nil=>intro _ _ _ i e a;simp at a
  |@cons e0 kv0 es0 kvs0 h1 h2 _ ih =>
   intro r c f i e a;cases r with
   |@cons p _ kvs1 _ r1 r2 =>
    cases ks with
    |nil=>simp at c
    |cons k ks =>
     injection c with v z
     cases i with
     |zero =>
      have n:e0=e:=by simpa using a
      subst n;rw[r1.1.symm.trans v]at h1;let(P,E,F):=f _ B4;have A:P=Sum.inl k:=(aR X.prog X.w).inj _ _ _ E h1;subst A;have B:lC (Sum.inl k) e0.key=true:=h1;rcases be B with⟨Y,t,b,g⟩|⟨y,t,b,g⟩
      .injection b with b
       subst b;show⟨k,t,rfl,g,F⟩
      .cases b
     |succ i=>show ih _ ks r2 z (λe a=>f e<|B1 _ a) i e (by simpa using a)
 show TB.yo M O D N (λi e a=>?_) K J λh' us G j L=>?_
 .show key _ vs kvs ks hp l c (λe a=>f e (by simpa using a)) i e (by rw[F0];show a)
 .show{.ref _,_,I.layS G (A8 _) j,rfl,q us (by let(_,_,_,_,_,_,_,S):=j;show S.nd) L _<|I.hok.fresh (A8 _)}
theorem yt:OpR X (binaryOp .BitOr) (λx y H Q=>∃a b,∃ms ns:List Int,x=.ref a/\y=.ref b/\a≠b/\H a=some (fw X.w a ms)/\H b=some (fw X.w b ns)/\ms.length+ns.length<=60 /\
  ∀us:List Int,us.Nodup->(∀x,x∈us↔x∈ms\/x∈ns)->∀q,H q=none->Q (.ref q) (upd H q<|fw X.w q us)):=by
 intro pins s σ H x y v u Q I k l h;let(a,b,ms,ns,rfl,rfl,e,d,f,i,q):=h;cases k;cases l;show TB.yn e (I.intS d) (I.intS f) i λh' us g c j=>?_;show{.ref _,_,I.layS g (A8 _) c,rfl,q us (by let(_,_,_,_,_,_,_,S):=c;show S.nd) j _<|I.hok.fresh (A8 _)}
end
end L2
namespace TW
section
variable{S:Type}
def bL(t:List<|Nd S)(k:Int):Option (Nd S):=t.find? λn=>n.num==k
theorem cy{t:List _}(T:Tree1 t){m:Nd S}(a:m∈t){k:Int}(e:m.num=k):bL t k=some m:=by
 subst e;unfold bL;cases h:t.find? _ with
 |none=>have:=find?_eq_none.mp h m a;simp at this
 |some y =>
  have h1:=List.find?_some h;rw[T.inj (List.mem_of_find?_eq_some h) a (by simpa using h1)]
theorem gB{t:List (Nd S)}{k:Int}(a:∀m∈t,m.num≠k):bL t k=none:=by
 unfold bL;rw[find?_eq_none];intro m b;simpa using a m b
theorem vW{t u:List (Nd S)}(T:Tree1 t)(d:Tree1 u){k:Int}(c:∀m,m.num=k->(m∈u↔m∈t)):bL u k=bL t k:=by
 by_cases b:∃m∈t,m.num=k
 .let(m,a,e):=b;rw[cy T a e,cy d ((c m e).mpr a) e]
 .rw[gB λm a e=>b ⟨m,a,e⟩,gB λm a e=>b {m,(c m e).mp a,e}]
theorem AQ{t:List _}{z:Nd S}{m:Nd S}(b:m.num≠z.num):m∈t.map (put z)↔m∈t:=by
 rw[A3];constructor
 .rintro⟨y,hy,e⟩
  by_cases a:y.num=z.num
  .rw[cK a]at e;show absurd (by rw[<-e]) b
  .rw[bj a]at e;rw[<-e];show hy
 .intro c;show{m,c,bj b}
end
section
variable{S:Type}
structure Row(S:Type) where
 k:Int
 o:Option<|Nd S
 n:Option<|Nd S
structure Chg(t u:List<|Nd S)(rs:List<|Row S):Prop where
 up:rs.Pairwise λa b=>a.k<b.k
 mem:∀r,r∈rs↔r.o=bL t r.k/\r.n=bL u r.k/\r.o≠r.n
theorem eF{t:List _}{k:Int}{m:Nd S}(h:bL t k=some m):m∈t/\m.num=k:=by
 unfold bL at h
 grind
theorem uv:∀{a b:List (Row S)},a.Pairwise (λx y=>x.k<y.k)->b.Pairwise (λx y=>x.k<y.k)->(∀r,r∈a↔r∈b)->a=b
 |[],[],_,_,_=>rfl
 |[],y::b,_,_,h=>absurd ((h y).mpr B4) (by simp)
 |x::a,[],_,_,h=>absurd ((h x).mp B4) (by simp)
 |x::a,y::b,ha,hb,h=>by
  let(f,i):=E1.mp ha;let(g,j):=E1.mp hb;have e:x=y:=by
   rcases B3.mp ((h x).mp B4)with e|e
   .show e
   .rcases B3.mp ((h y).mpr B4)with d|d
    .show d.symm
    .have l:=g x e;have m:=f y d
     lia
  congr 1
  show uv i j λr=>{λc=>?_,λc=>?_}
  .rcases B3.mp ((h r).mp (B1 _ c))with e|e
   .have:=f r c
    lia
   .show e
  .rcases B3.mp ((h r).mpr (B1 _ c))with e|e
   .have:=g r c
    lia
   .show e
theorem Chg.uniq{t u:List (Nd S)}{a b:List _}(c:Chg t u a)(d:Chg t u b):a=b:=uv c.up d.up λr=>(c.mem r).trans (d.mem r).symm
def jv(t u:List<|Nd S)(k:Int):Row S:=⟨k,bL t k,bL u k⟩
theorem Dy[DecidableEq<|Nd S]{t u:List (Nd S)}{ns:List Int}(b:ns.Pairwise (· < ·))(d:∀k,bL t k≠none\/bL u k≠none->k∈ns\/bL t k=bL u k):Chg t u ((ns.map<|jv t u).filter λr=>decide<|r.o≠r.n):=by
 show{?_,λr=>?_}
 .show Pairwise.filter _ ?_;rw[C0];show b
 .rw[CF,A3,C8];constructor
  .rintro⟨⟨k,c,rfl⟩,a⟩;show⟨rfl,rfl,a⟩
  .rintro⟨h1,h2,h3⟩;show{{r.k,?_,?_},h3}
   .grind
   .change(⟨r.k,bL t r.k,bL u r.k⟩)=r;rw[<-h1,<-h2]
end
end TW
namespace TK
open PySem L2
instance decNd:DecidableEq (TW.Nd Str):=λa b=>Classical.propDecidable _
abbrev Row:=TW.Row Str
def ki(H:Hp)(v:V)(o:Option Nd):Prop:=(v=.non/\o=none)\/∃q n,v=.ref q/\H q=some (.tup<|cj n)/\o=some n
theorem ki.same{H b:Hp}{v:V}{o:Option Nd}(a:ki H v o)(s:Same H b):ki b v o:=by
 rcases a with a|⟨q,n,e,a,c⟩
 .show .inl a
 .show .inr ⟨q,n,e,s _ _ a,c⟩
theorem mG(n:Nd):∀v∈cj n,eY v=true:=λv a=>by
 unfold cj at a;simp only[B3,CU,G3]at a;rcases a with rfl|rfl|rfl
 .rfl
 .rfl
 .cases n.st<;>rfl
theorem ki.ot{H:Hp}{v:V}{o:Option Nd}(b:ki H v o):OT H v (o.map cj):=by
 rcases b with⟨e,a⟩|⟨q,n,e,b,a⟩
 .show .inl {e,by rw[a];rfl}
 .show .inr {q,cj n,e,b,by rw[a];rfl,mG n}
theorem vX{a b:Nd}(c:cj a=cj b)(e:a.num=b.num):a=b:=by
 let(h,j,f,s1):=a;let(i,p2,g,s2):=b;unfold cj at c;simp only[List.cons.injEq,V.int.injEq,V.str.injEq]at c;let(h1,h2,h3):=c;have d:s1=s2:=by
  cases s1<;>cases s2<;>simp_all [stV]
 subst e h1 h2 d;rfl
def AR(r:Row):Prop:=(∀n,r.o=some n->n.num=r.k)/\∀n,r.n=some n->n.num=r.k
theorem AR.eq{r:Row}(h:AR r):r.o.map cj=r.n.map cj↔r.o=r.n:=by
 let(k,o,n):=r;constructor
 .intro e;cases o with
  |none=>cases n with
   |none=>rfl
   |some b=>cases e
  |some a=>cases n with
   |none=>cases e
   |some b =>
    show congrArg _<|vX (Option.some.inj e) ((h.1 a rfl).trans (h.2 b rfl).symm)
 .intro e;change o.map _=n.map _;have:o=n:=e;rw[this]
structure RowAt(H:Hp)(e:zv)(r:Row):Prop where
 at':∃vo vn,H e=some (.tup [.int r.k,vo,vn])/\ki H vo r.o/\ki H vn r.n
 ok:AR r
theorem RowAt.same{H a:Hp}{e:zv}{r:Row}(b:RowAt H e r)(s:Same H a):RowAt a e r:=by
 let((f,d,h1,h2,h3),c):=b;show{⟨f,d,s _ _ h1,h2.same s,h3.same s⟩,c}
abbrev ZR:=List<|zv×Row
def yu(a:ZR):List V:=a.map λe=>V.ref e.1
def kj(a:ZR):List Row:=a.map (·.2)
structure ChgAt(H:Hp)(c:zv)(es:ZR):Prop where
 tup:H c=some (.tup<|yu es)
 at':∀e∈es,RowAt H e.1 e.2
 len:es.length<=60
theorem ChgAt.same{H b:Hp}{c:zv}{es:ZR}(a:ChgAt H c es)(s:Same H b):ChgAt b c es:={s _ _ a.tup,λe d=>(a.at' e d).same s,a.len}
theorem yx{t u:List Nd}(k:Int):AR (TW.jv t u k):={λn h=>(TW.eF h).2,λn h=>(TW.eF h).2}
theorem Book.optV{H:Hp}{d:zv}{f:List _}{zs:ZN}(b:Book H d f zs)(T:TW.Tree1<|nds zs)(k:Int):∃r,dM H d (.int k) r/\ki H (r.getD .non) (TW.bL (nds zs) k):=by
 by_cases c:∃z∈zs,z.2.num=k
 .let(z,a,rfl):=c;let(q,h,i):=b.get (bi T) a;show{_,h,?_};rw[TW.cy T (bK a) rfl];show .inr ⟨q,z.2,rfl,i,rfl⟩
 .show{none,b.not λz a e=>c ⟨z,a,e⟩,?_};rw[TW.gB λm g e=>?_]
  .show .inl ⟨rfl,rfl⟩
  .let(z,a,rfl):=bZ g;show c ⟨z,a,e⟩
theorem mH{a:List _}{zs:ZN}(b:a.map (·.2)=zs):(cb a).map (·.1)=((nds zs).map (·.num)).map Sum.inl:=gk b
theorem rf{a:ZR}{t u:List Nd}{ns:List Int}(b:kj a=ns.map (TW.jv t u)):kj (a.filter λe=>!decide (e.2.o=e.2.n))=(ns.map<|TW.jv t u).filter λr=>decide (r.o≠r.n):=by
 rw[<-b];unfold kj;rw[filter_map]
 congr 1
 apply filter_congr;intro e _;change(!decide _)=decide _
 by_cases z:e.2.o=e.2.n<;>simp[z]
theorem oG{t:List Nd}{k:Int}(h:TW.bL t k≠none):k∈t.map (·.num):=by
 cases e:TW.bL t k with
 |none=>show absurd e h
 |some m =>
  let(h1,h2):=TW.eF e;show A3.mpr ⟨m,h1,h2⟩
end TK
namespace L2
open PySem PySem.Spec PyProof.Rows
section
variable{X:Cx}
theorem yy(M:X.A.units+1<cLine):OpR X (compareOp .Eq) (λx y H Q=>∃a b xs ys,x=.ref a/\y=.ref b/\H a=some (.tup xs)/\H b=some (.tup ys)/\(∀v∈xs,eY v=true)/\(∀v∈ys,eY v=true)/\Q (.bl<|decide (xs=ys)) H):=by
 intro pins s σ H x y v u Q I G J h;let(a,b,xs,ys,rfl,rfl,z,B,t,w,q):=h;cases G;cases J;let(_,us,n,K):=I.hok a _ z;let(_,ws,o,L):=I.hok b _ B;have l:=n.length;have m:=o.length;show SeqAt.eq_tupleAt (e:=λi=>decide<|xs.getD i .non=ys.getD i .non) K L (by lia) (λc h1 h2=>?_) {.bl _,H,I,rfl,?_}
 .have f:c<xs.length:=by rw[l];simpa using h1
  have g:c<ys.length:=by rw[m];simpa using h2
  let(u',C,D):=n.get<|A2 f;let(v',E,F):=o.get<|A2 g;have p:us.toArray[c]=u':=by
   have:us[c]?=some us.toArray[c]:=by rw[A2 (by simpa using h1)];simp
   rw[C]at this;show(Option.some.inj this).symm
  have r:ws.toArray[c]=v':=by
   have:ws[c]?=some ws.toArray[c]:=by rw[A2 (by simpa using h2)];simp
   rw[E]at this;show(Option.some.inj this).symm
  rw[p,r,Bm,Bm,A2 f,A2 g];have j:=t _<|F6 f;have k:=w _<|F6 g;change EqAt _ _ _ _ (decide<|xs[c]=ys[c]);rw[<-re j k];show lM D F (gx j)<|gx k
 .have e:((List.range<|min us.toArray.size ws.toArray.size).all (λi=>decide<|xs.getD i .non=ys.getD i .non)&&us.toArray.size==ws.toArray.size)=decide (xs=ys):=by
   simp only[B2,<-l,<-m]
   by_cases d:xs.length=ys.length
   .rw[<-d,min_self,yq d];simp
   .have:(xs.length==ys.length)=false:=by simpa using d
    rw[this,Bool.and_false];show(B9 λe=>d (by rw[e])).symm
  rw[e];show q
theorem rg:∀{xs:List Str}{us:List _},aB (xs.map V.str) us->∃a:List Tok,us=(xs.zip a).map (λz=>Value.str z.1 z.2)/\a.length=xs.length
 |[],_,.nil=>{[],rfl,rfl}
 |x::xs,_,.cons ⟨t,e⟩ r=>by
  let(a,b,c):=rg r;subst e;show{t::a,by rw[b];rfl,by rw[CC,c,CC]}
theorem mI(j:X.calm=true):cq X (.builtin "sorted") (λxs H Q=>∃d kvs,∃ns:List Int,xs=[.ref d]/\Rd H d (.dK kvs)/\kvs.map (·.1)=ns.map (Sum.inl:Int->Key)/\ns.Nodup/\ns.length<=60 /\
  ∀ms:List Int,ms.Perm ns->ms.Pairwise (λa b=>a<b)->∀p,H p=none->Q (.ref p) (upd H p<|.lst (ms.map V.int))):=by
 intro pins s σ H xs us Q I r h;let(d,kvs,ns,rfl,i,m,o,z,q):=h;let(u,rfl,w):=cD r;cases w;let(v,t,B,c,dd):=I.dK i;let(y,f):=dd.dictAt;show gO I (λA E Q g h=>SRT.kO (PySem.W.kdl_dict t) (g.trans<|I.ok.hd j) f (by rw[<-c.length];show v) λh1 tk x l n k=>h h1 tk _ l (F1 n) ?_) o (by lia) q;have e:(kvs.map λp=>kV p.1)=ns.map V.int:=by
  have:=congrArg (List.map kV) m;rw[A7,A7]at this;show this
 show e ▸ Ay c k
end
end L2
namespace TW
section
variable{S:Type}
theorem mJ{t:List _}(T:bV t){m:Nd S}(a:m∈t):bL t m.num=some m:=by
 cases e:bL t _ with
 |none =>
  have:=find?_eq_none.mp e m a;simp at this
 |some n =>
  let(h1,h2):=eF e;rw[qS T h1 a h2]
theorem vY{t u:List (Nd S)}(p:bV t)(r:bV u)(o:∀k,bL t k=bL u k):t=u:=by
 have s:∀{a b:List (Nd S)},bV a->(∀k,bL a k=bL b k)->∀m∈a,m∈b:=λd i m c=>by
  have:=mJ d c;rw[i]at this;show(eF this).1
 have key:∀{a b:List (Nd S)},bV a->bV b->(∀m,m∈a↔m∈b)->a=b:=by
  intro a
  induction a with
  |nil =>
   intro b _ _ c;cases b with
   |nil=>rfl
   |cons y b=>show absurd ((c y).mpr B4) (by simp)
  |cons x a j =>
   intro b d h c;cases b with
   |nil=>show absurd ((c x).mp B4) (by simp)
   |cons y b =>
    let(l,f):=E1.mp d;let(n,g):=E1.mp h;have e:x=y:=by
     rcases B3.mp ((c x).mp B4)with e|e
     .show e
     .grind
    congr 1
    show j f g λm=>{λq=>?_,λq=>?_}
    .grind
    grind
 grind
end
section
variable{S:Type}
theorem eP{t u:List (Nd S)}(b:bV t)(c:bV u)(a:∀n,n∈t↔n∈u):t=u:=by
 show vY b c λk=>?_;cases e:bL t k with
 |some m =>
  let(h1,h2):=eF e;have:=mJ c<|(a m).mp h1;rw[h2]at this;show this.symm
 |none =>
  show(gB λm f d=>?_).symm;have:=mJ b<|(a m).mpr f;rw[d,e]at this;cases this
end
section
variable{S:Type}
def Dz(k:Int)(n:Nd S):Nd S:={n.num,if n.par=k then 0 else n.par,n.nm,n.st}
open Classical in
def rh(t:List<|Nd S)(k:Int):List (Nd S):=t.filter λn=>decide<|Reach t k n
open Classical in
theorem fT{t:List (Nd S)}{k:Int}{n:Nd S}:n∈rh t k↔Reach t k n:=by
 unfold rh;rw[CF,C8];show{λh=>h.2,λh=>⟨h.mem,h⟩}
def km(t:List<|Nd S)(k:Int):List (Nd S):=(rh t k).map (Dz k)
theorem dG{t:List (Nd S)}{k:Int}{n:Nd S}:n∈km t k↔∃m,Reach t k m/\n=Dz k m:=by
 unfold km;rw[A3];constructor
 .rintro⟨m,a,e⟩;show{m,fT.mp a,e.symm}
 .rintro⟨m,a,e⟩;show{m,fT.mpr a,e.symm}
open Classical in
def woT(t:List<|Nd S)(k:Int):List (Nd S):=t.filter λn=>!decide (Reach t k n)
open Classical in
theorem dX{t:List (Nd S)}{k:Int}{n:Nd S}:n∈woT t k↔n∈t/\¬Reach t k n:=by
 unfold woT;rw[CF,not_eq_true',decide_eq_false_iff_not]
theorem vZ{t:List (Nd S)}(h:bV t)(k:Int):bV (rh t k):=h.sublist D1
theorem iq{t:List (Nd S)}(h:bV t)(k:Int):bV (km t k):=by
 have:=vZ h k;unfold bV km at *;rw[C0];show this
theorem ri{t:List (Nd S)}(h:bV t)(k:Int):bV (woT t k):=h.sublist D1
theorem uw{t:List (Nd S)}(T:Tree1 t){k:Int}{n:Nd S}(b:Reach t k n)(e:n.par=0):k=0:=by
 cases b with
 |base _ a=>rw[<-a,e]
 |@step m _ hr _ _ a =>
  have:=T.pos m hr.mem
  lia
theorem wb{t:List (Nd S)}(T:Tree1 t)(k:Int):Tree1 (km t k):=by
 have step:∀n,Reach t k n->Reach (km t k) 0 (Dz k n):=by
  intro n h
  induction h with
  |@base n d hp=>show .base (dG.mpr ⟨n,.base d hp,rfl⟩) (by change(if n.par=k then 0 else n.par)=0;rw[A6 hp])
  |@step m n hr hf d hp ih =>
   show .step ih hf (dG.mpr ⟨n,.step hr hf d hp,rfl⟩) ?_;change(if n.par=k then 0 else n.par)=m.num;rw[A4 (by rw[hp];show eJ T hr),hp]
 show{{iq T.rise k,?_,λn i=>?_},λn i=>?_}
 .have j:=T.own;unfold bY Nodup at j;unfold bY km Nodup;rw[A7,C0];rw[C0]at j;show(j.sublist (l₁:=rh t k) (by unfold rh;show D1)).imp_of_mem λ{a b} p r q e=>q ?_;have s:=fT.mp p;have u:=fT.mp r;have c:(if a.par=k then 0 else a.par)=(if b.par=k then (0:Int)else b.par):=congrArg Prod.fst e
  have l:a.nm=b.nm:=congrArg Prod.snd e;have o:a.par=b.par:=by
   by_cases f:a.par=k<;>by_cases g:b.par=k
   .rw[f,g]
   .rw[A6 f,A4 g]at c;have:=uw T u c.symm;rw[f,this];show c
   .rw[A4 f,A6 g]at c;have:=uw T s c;rw[g,this];show c
   .rw[A4 f,A4 g]at c;show c
  change(a.par,a.nm)=(b.par,b.nm);rw[o,l]
 .let(m,d,rfl):=dG.mp i;show step m d
 .let(m,d,rfl):=dG.mp i;show T.pos m d.mem
theorem yz{t:List (Nd S)}(T:Tree1 t)(k:Int):Tree1 (woT t k):=by
 show{{ri T.rise k,?_,λn a=>?_},λn a=>T.pos n (dX.mp a).1}
 .have e:=T.own;unfold bY at e|-;show e.sublist<|(D1 (l:=t)).map _
 .have h:=T.down n (dX.mp a).1;have c:=(dX.mp a).2;clear a
  induction h with
  |base b hp=>show .base (dX.mpr ⟨b,c⟩) hp
  |step g d b hp f=>show .step (f λh=>c<|.step h d b hp) d (dX.mpr ⟨b,c⟩) hp
end
end TW
namespace TK
open PySem L2
def CpR{α:Type}(a:α->Key)(b:α->V)(p:zv)(z:α)(y:V)(H:Hp):Prop:=∃q,y=.ref q/\q≠p/\H q=some (.tup [kV<|a z,b z])
section
variable{α:Type}{kf:α->Key}{vf:α->V}{p:zv}{z:α}{y:V}{H H':Hp}
theorem CpR.ext(a:CpR kf vf p z y H)(e:Ext p H H'):CpR kf vf p z y H':=let⟨q,c,b,a⟩:=a;⟨q,c,b,e q _ b a⟩
theorem CpR.new{q:zv}(a:∃ys,H p=some (.lst ys))(b:H q=none):CpR kf vf p z (.ref q) (upd H q<|.tup [kV<|kf z,vf z]):=⟨q,rfl,fi a b,ac⟩
theorem CpR.dct{xs:List α}{ys:List V}(f:H p=some (.lst ys))(b:Paired (λz y=>CpR kf vf p z y H) xs ys):∃zs:List<|zv×Key×V,H p=some (.lst<|(zs.map (·.1)).map V.ref)/\(∀z∈zs,H z.1=some (.tup [kV z.2.1,z.2.2]))/\zs.length=xs.length/\zs.map (·.2.1)=xs.map kf/\zs.map (·.2)=xs.map λx=>(kf x,vf x):=by
 let(bs,a,c,d):=dD (val:=V.ref) (S:=λ(z:α) (q:zv)=>H q=some (.tup [kV<|kf z,vf z])) b λ_ _ _ ⟨q,e,_,b⟩=>⟨q,e,b⟩;show{bs.map λx=>(x.2,kf x.1,vf x.1),?_,λy hy=>?_,?_,?_,?_}
 .rw[f,c,A7,A7];rfl
 .let(x,g,rfl):=A3.mp hy;show d x g
 .rw[A1,<-a,A1]
 .rw[<-a,A7,A7];rfl
 .rw[<-a,A7,A7];rfl
end
theorem gC{ms:List Int}(h:ms.Nodup):(ms.map (Sum.inl:Int->Key)).Nodup:=by
 unfold Nodup at h|-;rw[C0];show h.imp λh e=>h (by injection e)
def Fold(zs:ZN)(k:Int):Prop:=k=0\/∃z∈zs,z.2.num=k/\z.2.st=none
theorem ux{zs:ZN}{k:Int}(a:TW.Fold (nds zs) k):Fold zs k:=a.imp id λ⟨m,b,hs,e⟩=>by
 let(z,c,rfl):=bZ b;show⟨z,c,e,hs⟩
def Res(H:Hp)(u:List Nd)(Q:VK):Prop:=∀us a H',Same H H'->H' a=some (.tup<|aI us)->At H' us->nds us=u->Q (.ref a) H'
section
variable{P:zi}{w:xr}{K:Frag}{mg:Str->Option zy}{base:qq}
inductive spByn(vs:List V)(H:Hp)(Q:VK)(E_:XK):Prop
 |mk t zs (_:vs=[.ref t]) (_:H t=some (.tup<|aI zs)) (_:At H zs) (_:zs.length<=100) (_:((nds zs).map (·.num)).Nodup) (_:∀d H',Same H H'->Nods H' d zs->Q (.ref d) H')
theorem FO:FnScope ["tree"] ["tree"] (ak xX):=fsc
theorem DA{f:zv}{b:xl}(F:Fun K "by_number" "by_number" xX f b)(T:Txt mg):aE P w K mg base CX0 1 f b ["tree"] spByn:=by
 show F.okA FO λcdv A outer s H vs Q E L h=>?_
 .let(t,zs,rfl,g,n,J,v,k):=h;show{_,am<|ap (aD (sE rfl) rfl T.dict boot_dict<|aa (bH lcS (bE<|pv 0)
   (λs H fp=>aK<|aa (ixT K (pv 0) ai) (aa (pv 0) ae))) ae),{_,rfl,t,rfl,⟨_,SqT.of g⟩,λp hp=>?_}}
  show bq (fr:=[]) zs (λz=>V.ref z.1) (by lia) hp (bx (by rw[aN];show SqT.of g)) rfl (CpR (λz=>Sum.inl z.2.num) (λz=>.ref z.1) p) (λ_ _ _ _ h e=>h.ext e) (λz H' M C s1 y u=>{_,rfl,z.1,_,_,_,rfl,rfl,SqT.of<|s1 _ _ (n z C),at0 z.2,_,rfl,le2,λq c=>u _ _ (ag c)<|CpR.new y c}) λys G D x B=>?_;let(a,i,j,I,l,m):=CpR.dct x B;show{p,a,rfl,i,j,by lia,by rw[l];have:=gC v;unfold nds at this;rwa [A7,A7]at this,λd o r=>?_};rw[show a.map (·.2)=eM zs from m];show k d _ (D.trans<|ag r) ⟨o,ac⟩
inductive spNof(vs:List V)(H:Hp)(Q:VK)(E:XK):Prop
 |mk d zs z (_:vs=[.ref d,.int z.2.num]) (_:Nods H d zs) (_:((nds zs).map (·.num)).Nodup) (_:z∈zs) (_:Q (.ref z.1) H)
theorem FP:FnScope ["nodes","number"] ["nodes","number"] (ak Dq):=fsc
theorem DB{f:zv}{a:xl}(F:Fun K "node_of" "node_of" Dq f a):aE P w K mg base CX0 1 f a ["nodes","number"] spNof:=by
 show F.okA FP λcdv A outer s H vs Q E b h=>?_
 .let(d,zs,z,rfl,c,e,i,q):=h;have g:=c.get e i;show{_,af (aQ (iB<|fJ (bv b) (pv 1) (pv 0)) aA ax)<|am (ap<|cB (bv b) (pv 0) (pv 1) (λ_ _=>rfl)),_,rfl,_,rfl,d,_,rfl,g,_,rfl,aM ⟨_,rfl,_,rfl,d,_,rfl,g,q⟩}
inductive spBel(vs:List V)(H:Hp)(Q:VK)(E:XK):Prop
 |mk t k zs (_:vs=[.ref t,.int k]) (_:Tre H t zs) (_:k=0\/∃z∈zs,z.2.num=k) (_:∀(ms:List Int)(l:zv)(H':Hp),Same H H'->ms.Pairwise (λa b:Int=>a<b)->ms.length<=zs.length->(∀x,x∈ms↔∃n∈nds zs,n.num=x/\TW.Reach (nds zs) k n)->H' l=some (.lst<|ms.map V.int)->Q (.ref l) H')
theorem FQ:FnScope ["tree","number"] ["tree","number"] (ak Du):=fsc
theorem DC{f:zv}{g:xl}(F:Fun K "below" "below" Du f g)(T:Txt mg)(y:Has P w K mg base 1 "by_number" ["tree"] spByn)(CN:Has P w K mg base 1 "node_of" ["nodes","number"] spNof)(B:Has P w K mg base 1 "numbers_inside" ["nodes","folder"] spIns):
  aE P w K mg base CX0 2 f g ["tree","number"] spBel:=by
 let(S,D):=T.top;show F.okA FQ λcdv A outer s H vs Q E i h=>?_
 .let(t,k,zs,rfl,c,G,q):=h;have r:=bi c.tr;have R:=c.len;show{_,af (aQ (aq eG (pv 1) (ce (v:=.int 0) rfl D ⟨_,rfl⟩)<|av _)
    (am<|aZ (aw CN i<|aa (aw y i<|aa (pv 0) ae) (aa (pv 1) ae))) ax)
   (am<|ap (ay dB rfl T.sorted Ee<|aa (aw B i<|aa (pv 0) (aa (pv 1) ae)) ae)),?_}
  have u:∀H1,Same H H1->Fv (tCB (λxs H Q=>∃l,∃ns:List Int,xs=[.ref l]/\H l=some (.lst<|ns.map V.int)/\ns.Nodup/\ns.length<64/\∀ms:List Int,ms.Perm ns->ms.Pairwise (λa b=>a<b)->∀p,H p=none->Q (.ref p) (upd H p<|.lst (ms.map V.int)))
    (nD (wR spIns [] E0<|nD (tVar 0) (nD (tVar 1) wQ)) wQ)) {nx:=λ_ H'=>Q .non H',rt:=Q} [some<|.ref t,some<|.int k] H1:=by
   intro H1 s1;show{_,rfl,_,rfl,t,k,zs,rfl,s1 _ _ c.tup,c.nod.same s1,by lia,λg O l H2 j C N=>?_};have o:=j.len;rw[au]at o;show{l,g.map λn:Nd=>n.num,rfl,(show H2 l=some (.lst<|(g.map λn:Nd=>n.num).map V.int)from C),vQ c.tr j,by rw[A1];lia,λms hp hs p J=>(q ms p _ ((s1.trans N).trans (ag J)) hs (by rw[hp.length_eq,A1];show o) (λx=>?_) ac)};rw[hp.mem_iff,A3];constructor
   .rintro⟨n,I,e⟩;have:=(j.mem n).mp I;show⟨n,this.mem,e,this⟩
   .rintro⟨n,_,e,i⟩;show{n,(j.mem n).mpr i,e}
  show{_,rfl,rfl,_,rfl,?_}
  by_cases m:k=0
  .rw[show(!decide (V.int k=V.int 0))=false by simp[m]];show aM<|u H (Same.refl _)
  .let(z,L,rfl):=G.resolve_left m;rw[show(!decide (V.int z.2.num=V.int 0))=true by simp[m]];show cp {_,rfl,t,zs,rfl,c.tup,c.nod,by lia,r,λd H1 s1 M=>⟨_,rfl,d,zs,z,rfl,M,r,L,u H1 s1⟩}
inductive spCFk(vs:List V)(H:Hp)(Q:VK)(E_:XK):Prop
 |mk d k zs (_:vs=[.ref d,.int k]) (_:Nods H d zs) (_:At H zs) (_:((nds zs).map (·.num)).Nodup) (_:Fold zs k) (_:Q .non H)
theorem FR:FnScope ["nodes","number"] ["nodes","number"] (ak Dr):=fsc
theorem DD{b:xl}{f:zv}(F:Fun K "check_folder" "check_folder" Dr f b)(T:Txt mg)(CN:Has P w K mg base 1 "node_of" ["nodes","number"] spNof):aE P w K mg base CX0 2 f b ["nodes","number"] spCFk:=by
 let(n,g):=T.top;show F.okA FR λcdv A outer s H vs Q E m h=>?_
 .let(d,k,zs,rfl,i,e,l,j,q):=h;show{_,am<|aQ (PW.pt<|pw_and (aq eG (pv 1) (ce (v:=.int 0) rfl g ⟨_,rfl⟩)<|av _) (pw_and1<|aq oZ (ixT K (aw CN m<|aa (pv 0) (aa (pv 1) ae)) ai) cW (av _))) aA ax,_,rfl,rfl,_,rfl,?_}
  by_cases a:k=0
  .rw[show(!decide (V.int k=V.int 0))=false by simp[a]];show aM<|aM q
  .let(z,c,rfl,hs):=j.resolve_left a;rw[show(!decide (V.int z.2.num=V.int 0))=true by simp[a]];show cp {_,rfl,_,rfl,d,zs,z,rfl,i,l,c,z.1,_,_,_,rfl,rfl,SqT.of<|e z c,at3 z.2,rfl,_,rfl,?_};rw[hs];show aM q
inductive spCPl(vs:List V)(H:Hp)(Q:VK)(E:XK):Prop
 |mk t k p nm zs (_:vs=[.ref t,.int k,.int p,.str nm]) (_:H t=some (.tup<|aI zs)) (_:At H zs) (_:∀z∈zs,z.2.num≠k->¬(z.2.par=p/\z.2.nm=nm)) (_:Q .non H)
theorem BQ:FnScope ["tree","number","parent","name","node"] ["tree","number","parent","name"] (ak Dw):=fsc
theorem DE{f:zv}{c:xl}(F:Fun K "check_place" "check_place" Dw f c):aE P w K mg base CX0 1 f c ["tree","number","parent","name"] spCPl:=by
 show F.okA BQ λcdv A outer s H vs Q E r h=>?_
 .let(t,k,p,nm,zs,rfl,d,l,n,q):=h;show{_,am (fZ PassesOwn.never rfl (bE<|pv 0) (bf (i:=4) BQ.nd rfl<|Or.inl rfl)
   (am<|aQ (PW.pt<|pw_and (aq eG (ixT K (pv 4) ai) (pv 1)<|av _) (pw_and (aq cT (ixT K (pv 4) ai) (pv 2)<|av _)<|pw_and1 (aq cT (ixT K (pv 4) ai) (pv 3)<|av _))) aA ax)),?_}
  show{_,rfl,t,rfl,⟨_,SqT.of d⟩,oX (xs:=aI zs) (λi σ H'=>(∃g,σ=[some<|.ref t,some<|.int k,some<|.int p,some<|.str nm,g])/\H'=H) ⟨⟨none,rfl⟩,rfl⟩ (λi σ H' _ h=>by rw[h.2];show SqT.of d) (λi x σ H' o h=>?_) (λσ H' h=>by rw[h.2];show q)};let((g,rfl),rfl):=h;let(z,j,rfl):=db o;have e:=C3 j;have a:SqT K H' z.1 (vals z.2):=SqT.of<|l z e;have:=n z e;show{_,rfl,z.1,_,_,_,rfl,rfl,a,at0 z.2,_,rfl,rfl,_,rfl,?_}
  by_cases b:z.2.num=k
  .rw[show(!decide (V.int z.2.num=V.int k))=false by simp[b]];show aM<|aM ⟨⟨_,rfl⟩,rfl⟩
  .rw[show(!decide (V.int z.2.num=V.int k))=true by simp[b]];show cp {_,rfl,z.1,_,_,_,rfl,rfl,a,at1 z.2,_,rfl,rfl,_,rfl,?_}
   by_cases hp:z.2.par=p
   .rw[show decide (V.int z.2.par=V.int p)=true by simp[hp]];show cp {_,rfl,z.1,_,_,_,rfl,rfl,a,at2 z.2,_,rfl,rfl,_,rfl,?_};rw[show decide (V.str z.2.nm=V.str nm)=false by simpa using λm=>this b ⟨hp,m⟩]
    show aM ⟨⟨_,rfl⟩,rfl⟩
   .rw[show decide (V.int z.2.par=V.int p)=false by simp[hp]];show aM<|aM ⟨⟨_,rfl⟩,rfl⟩
inductive spWith(vs:List V)(H:Hp)(Q:VK)(E_:XK):Prop
 |mk t c n zs (_:vs=[.ref t,.ref c]) (_:H t=some (.tup<|aI zs)) (_:At H zs) (_:H c=some (.tup<|vals n)) (_:zs.length<=100) (_:∀us t' H',Same H H'->H' t'=some (.tup<|aI us)->At H' us->nds us=(nds zs).map (TW.put n)->Q (.ref t') H')
theorem DF:FnScope ["tree","changed"] ["tree","changed"] (ak xY):=fsc
theorem AS{f:zv}{g:xl}(F:Fun K "with_node" "with_node" xY f g)(T:Txt mg):aE P w K mg base CX0 1 f g ["tree","changed"] spWith:=by
 show F.okA DF λcdv A outer s H vs Q E B h=>?_
 .let(t,c,n,zs,rfl,o,i,j,x,q):=h;show{_,am<|ap (aD aS rfl T.tuple rfl<|aa (bH (fs:=["changed"]) (js:=[1]) lcF (bE<|pv 0)
    (λs H fp=>fF (aq cT (ixT K (pv 0) ai) (ixT K (pv 1) ai)<|av _) (pv 1)<|pv 0)) ae),{_,rfl,t,rfl,⟨_,SqT.of o⟩,λp hp=>?_}}
  show bq (fr:=[some<|.ref c]) zs (λz=>V.ref z.1) (by lia) hp (bx (by rw[aN];show SqT.of o)) rfl (λz y H'=>y=.ref (if z.2.num=n.num then c else z.1)) (λz y H H' h _=>h) (λz H' k d s1 _ m=>?_) λys H' s1 u v=>?_
  .show{_,rfl,z.1,_,_,_,rfl,rfl,SqT.of<|s1 _ _ (i z d),at0 z.2,_,rfl,c,_,_,_,rfl,rfl,SqT.of<|s1 _ _ j,at0 n,rfl,_,rfl,?_}
   by_cases e:z.2.num=n.num
   .have a:decide (V.int z.2.num=V.int n.num)=true:=by simp[e]
    rw[a];show cp {_,rfl,m _ H' (Same.refl _) (by rw[A6 e])}
   .have a:decide (V.int z.2.num=V.int n.num)=false:=by simp[e]
    rw[a];show aM {_,rfl,m _ H' (Same.refl _) (by rw[A4 e])}
  .show{p,_,rfl,.inl {SqL.of u,λl b=>?_}};have r:aI (zs.map λz=>if z.2.num=n.num then (c,n)else z)=ys:=by
    rw[aG (f:=λz:zv×Nd=>V.ref (if z.2.num=n.num then c else z.1)) v λz y _ h=>h,<-aN,A7];apply D4;intro z _;change V.ref (if z.2.num=n.num then (c,n)else z).1=_
    by_cases e:z.2.num=n.num
    .rw[A6 e,A6 e]
    .rw[A4 e,A4 e]
   show q _ l _ (s1.trans<|ag b) (by rw[r];show ac) (λy hy=>?_) ?_
   .let(z,d,rfl):=A3.mp hy
    by_cases e:z.2.num=n.num
    .rw[A6 e];show(s1.trans<|ag b) _ _ j
    .rw[A4 e];show(s1.trans<|ag b) _ _ (i z d)
   .unfold nds;rw[A7,A7];apply D4;intro z _;change(if z.2.num=n.num then (c,n)else z).2=TW.put n z.2
    unfold TW.put
    by_cases e:z.2.num=n.num
    .rw[A6 e,A6 e]
    .rw[A4 e,A4 e]
inductive spMake(vs:List V)(H:Hp)(Q:VK)(E:XK):Prop
 |mk t n p nm st zs u (_:vs=[.ref t,.int n,.int p,.str nm,stV st]) (_:Tre H t zs) (_:zs.length<=29) (_:zs≠[]) (_:TW.Told (nds zs) (.make n p nm st)<|.inr u) (_:Res H u Q)
theorem yA:FnScope ["tree","number","parent","name","stamp","nodes"] ["tree","number","parent","name","stamp"] (ak xZ):=fsc
theorem AT{f:zv}{C:xl}(F:Fun K "make" "make" xZ f C)(T:Txt mg)(S:Has P w K mg base 1 "by_number" ["tree"] spByn)(U:Has P w K mg base 2 "check_folder" ["nodes","number"] spCFk)(V:Has P w K mg base 1 "check_place" ["tree","number","parent","name"] spCPl):aE P w K mg base CX0 3 f C ["tree","number","parent","name","stamp"] spMake:=by
 show F.okA yA λcdv A outer s H vs Q E v h=>?_
 .let(t,n,p,nm,st,zs,u,rfl,g,b3,a9,b2,o):=h;obtain⟨L,Y,a1,a4,a6⟩:¬TW.gQ (nds zs) n/\TW.Fold (nds zs) p/\(∀m∈nds zs,¬(m.par=p/\m.nm=nm))/\u.Perm (⟨n,p,nm,st⟩::nds zs)/\TW.bV u:=by
   cases b2 with
   |made a b c d e=>show⟨a,b,c,d,e⟩
  have M:Room 1 _:=v.mono (by decide);have k:=bi g.tr;show{_,af (ar (i:=5) yA.nd rfl (Or.inl rfl)<|aw S M (aa (pv 0) ae))
   (af (aQ (iB<|xb (bv v) (pv 1) (pv 5)) aA ax)
   (af (aZ<|aw U v (aa (pv 5)<|aa (pv 2) ae))
   (af (aZ<|aw V M (aa (pv 0)<|aa (pv 1) (aa (pv 2)<|aa (pv 3) ae)))
   (am<|ap (aD aS rfl T.tuple rfl<|aa (ay cY rfl T.sorted Ee<|aa (aO (r:=rCatT K) ij (pv 0)<|aK (aa (aK<|aa (pv 1) (aa (pv 2)<|aa (pv 3) (aa (pv 4) ae))) ae)) ae) ae))))),{_,rfl,t,zs,rfl,g.tup,g.nod,by lia,k,λd H1 s1 N=>?_}}
  have I:=g.nod.same s1;show{_,rfl,_,rfl,d,_,rfl,N.not λz j e=>L ⟨z.2,bK j,e⟩,_,rfl,aM ?_};show{_,rfl,_,rfl,d,p,zs,rfl,N,I,k,ux Y,_,rfl,_,rfl,_,rfl,_,rfl,t,n,p,nm,zs,rfl,s1 _ _ g.tup,I,λz j _=>a1 z.2<|bK j,?_};show{_,rfl,_,rfl,_,rfl,_,rfl,_,rfl,(show 4<=sizeLine from aF (by decide)),λq a5=>{(show 1<=sizeLine from aF (by decide)),λc J=>?_}};have y:Same H1 (upd (upd H1 q<|.tup [.int n,.int p,.str nm,stV st]) c<|.tup [.ref q]):=(ag a5).trans (ag J);have G:upd (upd H1 q<|.tup [.int n,.int p,.str nm,stV st]) c (.tup [.ref q]) q=some (.tup<|vals ⟨n,p,nm,st⟩):=bh J ac;have D:upd (upd H1 q<|.tup [.int n,.int p,.str nm,stV st]) c (.tup [.ref q]) c=some (.tup [.ref q]):=ac;generalize upd _ c (.tup [.ref q])=H2 at y G D|-;show{t,c,_,_,rfl,rfl,SqT.of<|(s1.trans y) _ _ g.tup,SqT.of D,λe=>a9<|xQ e,aF (by rw[ba];change zs.length+1<=1000;lia),λh=>absurd h<|cons_ne_nil _ _,λ_ l a2=>?_};have R:=ag (o:=.tup<|aI zs++[.ref q]) a2;have O:=(s1.trans y).trans R;have B:nds (zs++[(q,(⟨n,p,nm,st⟩:Nd))])=nds zs++[⟨n,p,nm,st⟩]:=by unfold nds;rw[CG];rfl
  show kN (zs:=zs++[(q,⟨n,p,nm,st⟩)]) (.inr (by rw[jQ];show SqT.of ac)) (λz j=>?_) ?_ (by rw[B0];change zs.length+1<64;lia) λus b1 H' s' a8 X hp a7=>?_
  .rcases C6.mp j with h|h
   .show O _ _<|g.nod z h
   .rw[B8.mp h];show R _ _ G
  .rw[B,CG,nodup_append];show{k,E7.mpr ⟨CU,nodup_nil⟩,λa Z b a0 e=>?_};let(m,a3,W):=A3.mp Z;show L {m,a3,by rw[W,e,B8.mp a0]}
  .show o us b1 H' (O.trans s') a8 X<|TW.eP a7 a6 λx=>?_;have:(nds us).Perm (nds<|zs++[(q,⟨n,p,nm,st⟩)]):=hp.map _;rw[this.mem_iff,a4.mem_iff,B,C6,B8,B3,or_comm]
inductive spWrite(vs:List V)(H:Hp)(Q:VK)(E:XK):Prop
 |mk t n st zs u (_:vs=[.ref t,.int n,.int st]) (_:Tre H t zs) (_:TW.Told (nds zs) (.write n st)<|.inr u) (_:Res H u Q)
theorem uy:FnScope ["tree","number","stamp","node"] ["tree","number","stamp"] (ak sM):=fsc
theorem yB{f:zv}{p:xl}(F:Fun K "write" "write" sM f p)(r:Has P w K mg base 1 "by_number" ["tree"] spByn)(CN:Has P w K mg base 1 "node_of" ["nodes","number"] spNof)(v:Has P w K mg base 1 "with_node" ["tree","changed"] spWith):aE P w K mg base CX0 2 f p ["tree","number","stamp"] spWrite:=by
 show F.okA uy λcdv A outer s H vs Q E l h=>?_
 .let(t,n,st,zs,u,rfl,g,G,o):=h;obtain⟨z,j,rfl,hs,rfl⟩:∃z∈zs,z.2.num=n/\z.2.st≠none/\u=(nds zs).map (TW.put ⟨n,z.2.par,z.2.nm,some st⟩):=by
   cases G with
   |wrote a b c =>
    let(z,j,rfl):=bZ a;show⟨z,j,b,c,rfl⟩
  have q:=bi g.tr;have I:=g.len;show{_,af (ar (i:=3) uy.nd rfl (Or.inl rfl)<|aw CN l (aa (aw r l<|aa (pv 0) ae)<|aa (pv 1) ae))
   (af (aQ (aq iC (ixT K (pv 3) ai) cW<|av _) aA ax)
   (am<|ap (aw v l<|aa (pv 0) (aa (aK<|aa (pv 1) (aa (ixT K (pv 3) ai)<|aa (ixT K (pv 3) ai) (aa (pv 2) ae))) ae)))),?_}
  show{_,rfl,t,zs,rfl,g.tup,g.nod,by lia,q,λd H1 s1 C=>{_,rfl,d,zs,z,rfl,C,q,j,?_}};have k:SqT K H1 z.1 (vals z.2):=SqT.of<|s1 _ _ (g.nod z j);show{_,rfl,z.1,_,_,_,rfl,rfl,k,at3 z.2,rfl,_,rfl,?_};cases e:z.2.st with
  |none=>show absurd e hs
  |some i =>
   show aM {_,rfl,_,rfl,_,rfl,z.1,_,_,_,rfl,rfl,k,at1 z.2,_,rfl,z.1,_,_,_,rfl,rfl,k,at2 z.2,_,rfl,(show 4<=sizeLine from aF (by decide)),λc y=>?_};have m:=s1.trans<|ag (o:=.tup [.int z.2.num,.int z.2.par,.str z.2.nm,.int st]) y;show{t,c,⟨z.2.num,z.2.par,z.2.nm,some st⟩,zs,rfl,m _ _ g.tup,g.nod.same m,ac,by lia,λus D H' s' B x e=>o us D H' (m.trans s') B x e}
inductive spMove(vs:List V)(H:Hp)(Q:VK)(E:XK):Prop
 |mk t n p nm zs u (_:vs=[.ref t,.int n,.int p,.str nm]) (_:Tre H t zs) (_:TW.Told (nds zs) (.move n p nm)<|.inr u) (_:Res H u Q)
theorem sP:FnScope ["tree","number","parent","name","nodes","node"] ["tree","number","parent","name"] (ak ya):=fsc
theorem AU{f:zv}{C:xl}(F:Fun K "move" "move" ya f C)(I:Has P w K mg base 1 "by_number" ["tree"] spByn)(CN:Has P w K mg base 1 "node_of" ["nodes","number"] spNof)(J:Has P w K mg base 2 "check_folder" ["nodes","number"] spCFk)(CE:Has P w K mg base 2 "below" ["tree","number"] spBel)(L:Has P w K mg base 1 "check_place" ["tree","number","parent","name"] spCPl)(M:Has P w K mg base 1 "with_node" ["tree","changed"] spWith):aE P w K mg base CX0 3 f C ["tree","number","parent","name"] spMove:=by
 show F.okA sP λcdv A outer s H vs Q E x h=>?_
 .let(t,n,p,nm,zs,u,rfl,g,a3,o):=h;obtain⟨z,j,rfl,O,hi,Y,rfl⟩:∃z∈zs,z.2.num=n/\TW.Fold (nds zs) p/\(p≠0->¬TW.Und (nds zs) n p)/\(∀m∈nds zs,m.num≠n->¬(m.par=p/\m.nm=nm))/\u=(nds zs).map (TW.put ⟨n,p,nm,z.2.st⟩):=by
   cases a3 with
   |moved a b c d e =>
    let(z,j,rfl):=bZ a;show⟨z,j,b,c,d,e,rfl⟩
  have v:=bi g.tr;have a4:=g.len;have r:=g.tr;have h1:=r.pos z.2<|bK j;have k:Room 1 _:=x.mono (by decide);show{_,af (ar (i:=4) sP.nd rfl (Or.inl rfl)<|aw I k (aa (pv 0) ae))
   (af (ar (i:=5) sP.nd rfl (Or.inl rfl)<|aw CN k (aa (pv 4)<|aa (pv 1) ae))
   (af (aZ<|aw J x (aa (pv 4)<|aa (pv 2) ae))
   (af (aQ (PW.pt<|pw_or (aq cT (pv 2) (pv 1)<|av _) (pw_or1<|aq vk (pv 2) (aw CE x<|aa (pv 0) (aa (pv 1) ae)) rfl)) aA ax)
   (af (aZ<|aw L k (aa (pv 0)<|aa (pv 1) (aa (pv 2)<|aa (pv 3) ae)))
   (am<|ap (aw M k<|aa (pv 0) (aa (aK<|aa (pv 1) (aa (pv 2)<|aa (pv 3) (aa (ixT K (pv 5) ai) ae))) ae))))))),?_}
  show{_,rfl,t,zs,rfl,g.tup,g.nod,by lia,v,λd H1 s1 G=>{_,rfl,_,rfl,d,zs,z,rfl,G,v,j,_,rfl,_,rfl,d,p,zs,rfl,G,g.nod.same s1,v,ux O,?_}};have a0:p≠z.2.num:=λe=>hi (by lia) (by rw[e];show .here);show{_,rfl,_,rfl,rfl,_,rfl,?_};rw[show decide (V.int p=V.int z.2.num)=false by simp[a0]];show aM {_,rfl,_,rfl,_,rfl,t,z.2.num,zs,rfl,g.same s1,.inr ⟨z,j,rfl⟩,λms l H2 a1 a5 _ U T=>{l,_,rfl,.inl<|SqL.of T,rfl,oo ms,_,rfl,?_}};change if (inV (.int p)<|ms.map V.int)=true then _ else _
  rw[uh,B9 (λS=>by
   let(m,D,W,X):=(U p).mp S;have:=r.pos m D;show hi (by lia) (by rw[<-W];show((TW.eE r h1 D).mp X).2))]
  have q:=s1.trans a1;show aM {_,rfl,_,rfl,_,rfl,_,rfl,t,z.2.num,p,nm,zs,rfl,q _ _ g.tup,g.nod.same q,λy hy=>Y y.2<|bK hy,{_,rfl,_,rfl,_,rfl,_,rfl,_,rfl,z.1,_,_,_,rfl,rfl,SqT.of<|q _ _ (g.nod z j),at3 z.2,(show 4<=sizeLine from aF (by decide)),λc R=>?_}};have B:=q.trans<|ag (o:=.tup [.int z.2.num,.int p,.str nm,stV z.2.st]) R;show{t,c,⟨z.2.num,p,nm,z.2.st⟩,zs,rfl,B _ _ g.tup,g.nod.same B,ac,by lia,λus a2 H' s' Z N e=>o us a2 H' (B.trans s') Z N e}
inductive spDrop(vs:List V)(H:Hp)(Q:VK)(E:XK):Prop
 |mk t n zs u (_:vs=[.ref t,.int n]) (_:Tre H t zs) (_:TW.Told (nds zs) (.drop n)<|.inr u) (_:Res H u Q)
theorem yC:FnScope ["tree","number","gone"] ["tree","number"] (ak yb):=fsc
theorem AV{f:zv}{S:xl}(F:Fun K "drop" "drop" yb f S)(T:Txt mg)(a6:Has P w K mg base 1 "by_number" ["tree"] spByn)(CN:Has P w K mg base 1 "node_of" ["nodes","number"] spNof)(CE:Has P w K mg base 2 "below" ["tree","number"] spBel):aE P w K mg base CX0 3 f S ["tree","number"] spDrop:=by
 show F.okA yC λcdv A outer s H vs Q E J h=>?_
 .let(t,n,zs,u,rfl,j,d2,o):=h;obtain⟨z,x,rfl,g,b3,rfl⟩:∃z∈zs,z.2.num=n/\∃g:Nd->Bool,(∀m∈nds zs,g m=true↔¬TW.Und (nds zs) n m.num)/\u=(nds zs).filter g:=by
   cases d2 with
   |dropped a b =>
    let(m,M,e):=a;let(z,x,rfl):=bZ M;show{z,x,e,_,b,rfl}
  have Y:=bi j.tr;have d6:=j.len;have I:=j.tr;have h1:=I.pos z.2<|bK x;have a0:Room 1 _:=J.mono (by decide);show{_,af (aZ<|aw CN a0 (aa (aw a6 a0<|aa (pv 0) ae)<|aa (pv 1) ae))
   (af (ar (i:=2) yC.nd rfl (Or.inr rfl)<|aD (cx rfl) rfl T.dict boot_dict (aa (bH lcS (bw<|aw CE J (aa (pv 0)<|aa (pv 1) ae))
    (λs H fp=>aK<|aa (pv 0) (aa kD ae))) ae))
   (af (jg (bv J) (pv 2) (pv 1) kD rfl)
   (am<|ap (aD aS rfl T.tuple rfl<|aa (cN (fs:=["gone"]) (cl:=[("gone",s.heap.objs.size+1)]) (js:=[2]) lcF (bE<|pv 0)
    (λs H fp=>iB<|fJ (bv J) (ixT K (pv 0) ai) (pv 1)) (λs H fp=>pv 0)) ae)))),{_,rfl,t,zs,rfl,j.tup,j.nod,by lia,Y,λd H1 s1 d0=>?_}}
  show{_,rfl,d,zs,z,rfl,d0,Y,x,_,rfl,_,rfl,t,_,zs,rfl,j.same s1,.inr ⟨z,x,rfl⟩,λms l H2 d1 c2 d7 M X=>?_};show{l,rfl,⟨_,SqL.of X⟩,λp hp=>?_};show bq (fr:=[]) ms V.int (by lia) hp (cr<|SqL.of X) rfl (CpR (λm=>Sum.inl m) (λ_=>.bl true) p) (λ_ _ _ _ h e=>h.ext e) (λm H' k _ a4 c6 r=>{_,rfl,le2,λq Z=>r _ _ (ag Z)<|CpR.new c6 Z}) λys L a4 c4 N=>?_;let(b1,a7,a8,d5,a9,R):=CpR.dct c4 N;have a2:=gC (show ms.Nodup from c2.imp λh e=>by lia);show{p,b1,rfl,a7,a8,by lia,by rw[a9];show a2,λc U=>?_};rw[R];have a3:=(s1.trans d1).trans a4;have G:(ms.map λm=>((Sum.inl m:Key),V.bl true)).map (·.1)=ms.map (Sum.inl:Int->Key):=by rw[A7];rfl
  have a1:∀m∈nds zs,(!(bu (bW (ms.map λm=>((Sum.inl m:Key),V.bl true)) (Sum.inl z.2.num:Key)<|.bl true) (Sum.inl m.num:Key)).isSome)=g m:=λm B=>by
   rw[eI,D3,b3 m B,not_eq_true']
   by_cases e:m.num=z.2.num
   .rw[A6 (by rw[e]),e];show{λh=>(by cases h),λh=>absurd .here h}
   .rw[A4 λh=>e (by injection h)];have c7:TW.Und (nds zs) z.2.num m.num↔m.num∈ms:=by
     rw[M];constructor
     .show λh=>{m,B,rfl,(TW.eE I h1 B).mpr ⟨e,h⟩}
     .rintro⟨y,hy,b2,h⟩;obtain rfl:=I.inj hy B b2;show((TW.eE I h1 B).mp h).2
    rw[c7]
    by_cases h:m.num∈ms
    .rw[fR (v:=.bl true) (by rw[G];show a2)<|A3.mpr ⟨_,h,rfl⟩];show{λh=>(by cases h),λn=>absurd h n}
    .rw[lu (by
      rw[G];intro q;let(d8,c0,e):=A3.mp q;injection e with e
      show h (e ▸ c0))]
     show{λ_=>h,λ_=>rfl}
  generalize ms.map (λm=>((Sum.inl m:Key),V.bl true))=kvs at R a1 G|-;have c8:kvs.length<1000:=by have:=congrArg length G;rw[A1,A1]at this;lia
  have C:Same H (upd (upd L c<|.dK kvs) c<|.dK (bW kvs (Sum.inl z.2.num:Key)<|.bl true)):=aV (a3.free U)<|a3.trans (ag (o:=.dK kvs) U);show{_,rfl,_,rfl,c,_,rfl,qp.k (k:=Sum.inl z.2.num) ac<|aU (F1 c8),?_};have W:(upd (upd L c<|.dK kvs) c<|.dK (bW kvs (Sum.inl z.2.num:Key)<|.bl true)) c=some (.dK<|bW kvs (Sum.inl z.2.num:Key) (.bl true)):=ac;generalize upd (upd L c<|.dK kvs) c (.dK<|bW kvs (Sum.inl z.2.num:Key) (.bl true))=d3 at C W|-;show{_,rfl,t,rfl,{_,SqT.of<|C _ _ j.tup},λp2 c3=>?_};show cZ (fr:=[some<|.ref c]) zs (λz=>V.ref z.1) (by lia) c3 (bx (by rw[aN];show SqT.of<|C _ _ j.tup)) rfl (λz=>g z.2) (λz y _=>y=.ref z.1) (λz y H H' h _=>h) (λz H' k O D _ r=>?_) (λz H' k O _ D _ r=>{_,rfl,r _ H' (Same.refl _) rfl}) λys d4 D c5 N=>?_
  .show{_,rfl,z.1,_,_,_,rfl,rfl,SqT.of<|D _ _ (C _ _<|j.nod z O),at0 z.2,_,rfl,c,_,rfl,dM.k (k:=Sum.inl z.2.num)<|D _ _ W,_,rfl,?_};rw[a1 z.2<|bK O];show r H'<|Same.refl _
  show{p2,_,rfl,.inl {SqL.of c5,λc9 c1=>?_}};have a5:=(C.trans D).trans (ag (o:=.tup ys) c1);show o (zs.filter λz=>g z.2) c9 _ a5 (by rw[ac,aG (f:=λz:zv×Nd=>V.ref z.1) N λz y _ h=>h,aN]) (λy hy=>a5 _ _<|j.nod y (CF.mp hy).1) (by unfold nds;rw[filter_map];rfl)
inductive spDone(vs:List V)(H:Hp)(Q:VK)(E:XK):Prop
 |mk t d dd zs u (_:vs=[.ref t,.ref d]) (_:Tre H t zs) (_:zs.length<=29) (_:zs≠[]) (_:H d=some (.tup<|aT dd)) (_:TW.Told (nds zs) dd<|.inr u) (_:Res H u Q)
theorem yD:FnScope ["tree","deed","word"] ["tree","deed"] (ak yc):=fsc
theorem AW{f:zv}{g:xl}(F:Fun K "done" "done" yc f g)(k:Has P w K mg base 3 "make" ["tree","number","parent","name","stamp"] spMake)(m:Has P w K mg base 2 "write" ["tree","number","stamp"] spWrite)(l:Has P w K mg base 3 "move" ["tree","number","parent","name"] spMove)(j:Has P w K mg base 3 "drop" ["tree","number"] spDrop):aE P w K mg base CX0 4 f g ["tree","deed"] spDone:=by
 show F.okA yD λcdv A outer s H vs Q E b h=>?_
 .let(t,d,dd,zs,u,rfl,e,r,v,q,c,o):=h;show{_,af (ar (i:=2) yD.nd rfl (Or.inl rfl)<|ixT K (pv 1) ai)
   (af (aQ (aq cT (pv 2) aJ<|av _) (am<|ap (aw k b<|aa (pv 0) (aa (ixT K (pv 1) ai)<|aa (ixT K (pv 1) ai) (aa (ixT K (pv 1) ai)<|aa (ixT K (pv 1) ai) ae)))) ax)
   (af (aQ (aq cT (pv 2) aJ<|av _) (am<|ap (aw m (b.mono (by decide))<|aa (pv 0) (aa (ixT K (pv 1) ai)<|aa (ixT K (pv 1) ai) ae))) ax)
   (af (aQ (aq cT (pv 2) aJ<|av _) (am<|ap (aw l b<|aa (pv 0) (aa (ixT K (pv 1) ai)<|aa (ixT K (pv 1) ai) (aa (ixT K (pv 1) ai) ae)))) ax)
   (af (aQ (aq cT (pv 2) aJ<|av _) (am<|ap (aw j b<|aa (pv 0) (aa (ixT K (pv 1) ai) ae))) ax)
   aA)))),?_}
  have a:SqT K H d (aT dd):=SqT.of q;cases dd with
  |make n p nm st =>
   show{_,rfl,d,_,_,_,rfl,rfl,a,rfl,⟨_,rfl,rfl,_,rfl,cp ⟨_,rfl,_,rfl,d,_,_,_,rfl,rfl,a,rfl,_,rfl,d,_,_,_,rfl,rfl,a,rfl,_,rfl,d,_,_,_,rfl,rfl,a,rfl,_,rfl,d,_,_,_,rfl,rfl,a,rfl,t,n,p,nm,st,zs,u,rfl,e,r,v,c,o⟩⟩}
  |write n st =>
   show{_,rfl,d,_,_,_,rfl,rfl,a,rfl,⟨_,rfl,rfl,_,rfl,aM ⟨_,rfl,rfl,_,rfl,cp ⟨_,rfl,_,rfl,d,_,_,_,rfl,rfl,a,rfl,_,rfl,d,_,_,_,rfl,rfl,a,rfl,t,n,st,zs,u,rfl,e,c,o⟩⟩⟩}
  |move n p nm =>
   show{_,rfl,d,_,_,_,rfl,rfl,a,rfl,⟨_,rfl,rfl,_,rfl,aM ⟨_,rfl,rfl,_,rfl,aM ⟨_,rfl,rfl,_,rfl,cp ⟨_,rfl,_,rfl,d,_,_,_,rfl,rfl,a,rfl,_,rfl,d,_,_,_,rfl,rfl,a,rfl,_,rfl,d,_,_,_,rfl,rfl,a,rfl,t,n,p,nm,zs,u,rfl,e,c,o⟩⟩⟩⟩}
  |drop n =>
   show{_,rfl,d,_,_,_,rfl,rfl,a,rfl,⟨_,rfl,rfl,_,rfl,aM ⟨_,rfl,rfl,_,rfl,aM ⟨_,rfl,rfl,_,rfl,aM ⟨_,rfl,rfl,_,rfl,cp ⟨_,rfl,_,rfl,d,_,_,_,rfl,rfl,a,rfl,t,n,zs,u,rfl,e,c,o⟩⟩⟩⟩⟩}
end
open PySem L2
theorem AX(o:Option Int):dP (stV o)=true:=by cases o<;>rfl
theorem sQ(H:Hp)(n:Nd)(k:Nat):∀(i:Nat) x y,(vals n)[i]?=some x->(vals n)[i]?=some y->qN H k x y:=λi x y h1 h2=>by
 have e:=Option.some.inj<|h1.symm.trans h2;subst e;show mw {rfl,?_}
 match i,h1 with
 |0,h=>cases h;rfl
 |1,h=>cases h;rfl
 |2,h=>cases h;rfl
 |3,h=>cases h;show AX _
 |i+4,h=>simp[vals]at h
theorem cz{H:Hp}{c ws:ZN}(g:nds c=nds ws)(h:At H c)(j:At H ws):fM H (aI c) (aI ws):=by
 show{by rw[ba,ba,<-au c,<-au ws,g],λi x y k hy=>?_};let(a,d,rfl):=db k;let(b,f,rfl):=db hy;have e:a.2=b.2:=by
  have h1:(nds c)[i]?=some a.2:=by unfold nds;rw[B7,d];rfl
  have h2:(nds ws)[i]?=some b.2:=by unfold nds;rw[B7,f];rfl
  rw[g,h2]at h1;show(Option.some.inj h1).symm
 show .inr {a.1,b.1,_,_,rfl,rfl,h a<|C3 d,j b<|C3 f,rfl,?_};rw[e];show sQ H b.2 2
end TK
namespace L2
open PySem PySem.Spec PyProof.Rows
theorem yE{xs:List V}{k:Nat}(h:k<=xs.length):iu xs (some k) none=xs.drop k:=by
 unfold iu;rw[HT.iY,HT.lc,Nat.min_eq_left h,E4 (by rw[G1];show A8 _)]
open PySem PyProof PyProof.Rows
section
variable{X:Cx}{pos:Pos}
def FS(K:Frag)(e:TE)(i j:Nat):TS:=λd σ H=>e σ H λv H1=>∃a b c,v=.ref a/\SqT K H1 a [b,c]/\d.nx ((σ.set j<|some c).set i (some b)) H1
theorem rk{c d:Str}{m n r:Pos}{k:Nat}{g:Expr}{u:TE}{i j:Nat}(z:X.calm=true)(t:X.N.Nodup)(D:X.N[i]?=some c)(E:X.N[j]?=some d)(O:Loc X.env.scope c)(P:Loc X.env.scope d)(B:X.env.scope.names.lookup c=some .local)(C:X.env.scope.names.lookup d=some .local)(A:PE X g u)(G:swapsWithSole [.Tuple [.Name c m,.Name d n] k r] g pos.line X.env=pure false:=by rfl)(L:swappedStores [.Tuple [.Name c m,.Name d n] k r] g X.env=pure (some [c,d]):=by rfl):PS X (.Assign [.Tuple [.Name c m,.Name d n] k r] g pos) (FS X.K u i j):=by
 intro pins s σ H R I h;show Assign_Tuple_swapped (thn (A pins s σ H _ I h) λv s1 ⟨x,H1,l,p,Q⟩=>?_) G L;let(a,V,W,rfl,F,q):=Q;cases p;let(its,f,J,S):=l.tuple F;cases f with
 |@cons _ u1 _ _ p f=>cases f with
  |@cons _ u2 _ _ r2 f=>cases f with
   |nil =>
    show unpackItems_tuple (items:=#[u1,u2]) (l.ok.hd z) J λh' M=>?_;change wpAny _ _ _ _ _ _;show assignInOrder_cons<|wpAny_bindName (iX (l.kept (t':=s1.toks) λb o e=>M b o (C2<|B5 e) e) t E P r2 (λT w=>(assignInOrder_cons<|wpAny_bindName (iX w t D O p (λU y=>?_)<|.inr B)))<|.inr C);show assignInOrder_nil ⟨_,H1,y,q⟩
end
open PySem PySem.Spec PyProof.Rows
def AY(CX:CXT)(P:zi)(w:xr)(K:Frag)(mg:Str->Option zy)(base:qq)(N:List Str)(qual:Str)(b:Scope)(f:zv)(a:zy)(cl:List<|Str×zv)(A:xx)(outer:List Env)(s:zn)(H:Hp)(E:XK):Cx where
 prog:=P
 w:=w
 K:=K
 mg:=mg
 base:=base
 A:=A.deeper<|envX qual b s.heap.objs.size f a cl
 N:=N
 s₀:=s
 H₀:=H
 env:=envX qual b s.heap.objs.size f a cl
 outer:=outer
 stack:=envX qual b s.heap.objs.size f a cl::outer
 ex:=[]
 calm:=true
 fn:=λ_=>false
 pn:=[]
 xe:=λe s'=>wpAny (model P w) (A.deeper<|envX qual b s.heap.objs.size f a cl) (leaving (envX qual b s.heap.objs.size f a cl) e) (λ_ c=>CX outer H s E e c) (λd c=>CX outer H s E d c) s'
structure LaScope(ps:List Str)(scope:Scope)(cl:List<|Str×zv):Prop where
 kind:scope.kind=.function
 co:scope.isCoroutine=false
 gen:scope.isGenerator=false
 nocell:∀x∈scope.names,x.2≠.cell
 par:∀x∈ps,scope.names.lookup x=some .local
 nd:ps.Nodup
 has:∀x,scope.names.lookup x=some .free->∃c,cl.lookup x=some c
 inj:∀x y c,cl.lookup x=some c->cl.lookup y=some c->x=y
structure Capt(base:qq)(scope:Scope)(cl:List<|Str×zv)(fs:List Str)(fv:List V):Prop where
 cell:∀x c,cl.lookup x=some c->∃v,base.IsCell c v
 len:fs.length=fv.length
 val:∀(i:Nat) x v,fs[i]?=some x->fv[i]?=some v->scope.names.lookup x=some .free/\∃c u,cl.lookup x=some c/\base.IsCell c (some u)/\aH v u
theorem uz:∀(ps:List Str)(us:List zy),((ps.zip us).map (·.1)).Sublist ps
 |[],_=>by simp
 |_::_,[]=>by simp
 |p::ps,u::us=>by rw[List.zip_cons_cons,CM];show(uz ps us).cons₂ _
theorem rn{ps:List Str}{b:List zy}{i:Nat}{x:Str}{u:zy}(j:ps.Nodup)(f:ps[i]?=some x)(h2:b[i]?=some u):(ps.zip b).reverse.lookup x=some u:=by
 have d:(x,u)∈(ps.zip b).reverse:=by
  rw[List.mem_reverse];show C3 (i:=i) (by rw[List.getElem?_zip_eq_some];show⟨f,h2⟩)
 have c:((ps.zip b).reverse.map (·.1)).Nodup:=by
  rw[List.map_reverse];unfold Nodup;rw[List.pairwise_reverse];show(j.sublist<|uz ps b).imp λh=>CD h
 generalize (ps.zip b).reverse=l at d c
 induction l with
 |nil=>cases d
 |cons a r g =>
  let(y,w):=a;rw[CM,E7]at c;rcases B3.mp d with e|e
  .cases e;rw[lookup_cons,beq_self_eq_true]
  .have k:x≠y:=λz=>c.1 (by rw[<-z];show A3.mpr {(x,u),e,rfl});rw[lookup_cons,show(x==y)=false by simpa using k]
   show g e c.2
section
variable{CX:CXT}{P:zi}{w:xr}{K:Frag}{mg:Str->Option zy}{base:qq}{k:Nat}{f c:zv}{name qual:Str}{params:Arguments}{body:Expr}{scope:Scope}{cl:List (Str×zv)}{pm ctv:zy}{ps fs:List Str}{fv:List V}{sp:Sp}
theorem yF{A:xx}{outer:List Env}{s:zn}{H:Hp}{E:XK}{t:List zy}{vs:List V}{h₁:qq}{tk:Nat}(S:LaScope ps scope cl)(C:Capt base scope cl fs fv)(I:A.handled=none)(g:Env0 P w K mg base A outer s H)(q:vs.length=ps.length)(r:aB vs t)(J:h₁.Ns s.heap.objs.size λx=>(ps.zip t).reverse.lookup x)(k:∀b o,s.heap.get? b=some o->h₁.get? b=some o):
  Inv (AY CX P w K mg base (ps++fs) qual scope f (.ref c) cl A outer s H E) [] (vs.map some++fv.map some) H {s with heap:=h₁,toks:=tk}:=by
 have m:∀b:zv,b∉(AY CX P w K mg base (ps++fs) qual scope f (.ref c) cl A outer s H E).ex:=λb z=>absurd (show b∈([]:List zv)from z) (by simp);have j:∀c v,base.IsCell c v->h₁.IsCell c v/\H c=none/\c≠s.heap.objs.size:=λc v ⟨o,e,d⟩=>{{o,k c o (g.bs _ _ e).1,d},(g.bs _ _ e).2,C2<|B5 (g.bs _ _ e).1};show{{g.mod,S.kind,rfl,rfl,A8 _,S.inj,λy hy=>?_,λy c h _=>absurd h (by simp[AY]),λ_=>I,Around.frames_deeper g.frames,.inr ⟨rfl,rfl⟩,λb z=>absurd z<|m b,g.bs,g.bsz,λb _ _=>m b,λb z=>absurd z<|m b,g.funs,g.frf},
  rfl,g.bare,Un.kept k,{_,J,λi y v h1 h2 h3=>?_},λy c h=>?_,g.hok.fresh<|A8 _,λy c h=>?_,λp hp=>absurd (show p∈([]:List<|zv×Obj)from hp) (by simp),g.hok.kept k,?_}
 .have hy:scope.names.lookup y=some .cell\/scope.names.lookup y=some .free:=hy;rcases hy with hy|hy
  .show absurd rfl<|S.nocell _ (CK hy)
  .show S.has y hy
 .have h1:(ps++fs)[i]?=some y:=h1
  by_cases hi:i<ps.length
  .rw[E9 hi]at h1;rw[E9 (by rw[A1];lia),B7]at h2;cases e:vs[i]? with
   |none=>rw[e]at h2;cases h2
   |some a =>
    rw[e]at h2;cases h2;let(u,L,n):=r.get e;show{u,n,.inl {S.par y<|C3 h1,rn S.nd h1 L}}
  .rw[D8 (by lia)]at h1;rw[D8 (by rw[A1];lia),A1,q,B7]at h2;cases e:fv[i-ps.length]? with
   |none=>rw[e]at h2;cases h2
   |some a =>
    rw[e]at h2;cases h2;let(D,B,u,F,G,n):=C.val _ _ _ h1 e;show{u,n,.inr {.inr D,B,F,(j _ _ G).1}}
 .let(v,l):=C.cell y c h;show{v,(j _ _ l).1}
 .let(v,l):=C.cell y c h;show(j _ _ l).2.1
 .change _=(ps++fs).length;rw[B0,B0,A1,A1,q,C.len]
end
def cdφ(c:zv)(qual:Str)(h:qq):Prop:=h.CodeRec (.ref c) qual
theorem ro{c:zv}{qual:Str}:∀h1 h2:qq,cdφ c qual h1->(∀o,h1.get? c=some o->h2.get? c=some o)->cdφ c qual h2:=λh1 h2 h k=>by
 let(g,e,vs,f,a,b,d):=h;cases a;show{c,e,vs,f,rfl,k _ b,d}
theorem yG{c:zv}{qual:Str}{a:qq}(x:cdφ c qual a):∃o,a.get? c=some o:=by
 let(f,e,vs,h,b,d,g):=x;cases b;show⟨e,d⟩
def dY(H:Hp)(P:zv)(qual:Str):Prop:=∃ps:Array zy,H P=some (.tbl ps)/\TriplesOk ps.toList/\∀pos a,codeAmong pos ps.toList=some a->∃c,a=.ref c/\H c=some (.ext<|cdφ c qual)
theorem dY.start{H:Hp}{P:zv}{qual:Str}(a:H P=some (.tbl #[])):dY H P qual:={#[],a,trivial,λpos b e=>by cases e}
theorem oH{pos:Pos}{a b:Int}{t u:Tok}{v cv:zy}:∀{l:List zy},TriplesOk l->codeAmong pos (l++[.int a t,.int b u,v])=some cv->codeAmong pos l=some cv\/cv=v
 |[],_,h=>by
  have h:(if a==pos.line&&b==pos.col then some v else codeAmong pos [])=some cv:=h
  split at h
  .show .inr (Option.some.inj h).symm
  .cases h
 |.int x t1::.int y t2::c::rest,ht,h=>by
  have h:(if x==pos.line&&y==pos.col then some c else codeAmong pos (rest++[.int a t,.int b u,v]))=some cv:=h
  change(if x==pos.line&&y==pos.col then some c else codeAmong pos rest)=some cv\/cv=v
  split at h
  .rename_i e;rw[A6 e];show .inl h
  .rename_i e;rw[A4 e];show oH (show TriplesOk rest from ht) h
theorem kQ{a b:Int}{t u:Tok}{v:zy}:∀{l:List zy},TriplesOk l->TriplesOk (l++[.int a t,.int b u,v])
 |[],_=>trivial
 |.int x t1::.int y t2::c::rest,ht=>kQ (l:=rest) ht
def fz(P:zv)(H a:Hp):Prop:=∀b o,b≠P->H b=some o->a b=some o
theorem fz.refl(P:zv)(H:Hp):fz P H H:=λ_ _ _ h=>h
theorem fz.trans{P:zv}{c d H3:Hp}(a:fz P c d)(b:fz P d H3):fz P c H3:=λx o n h=>b x o n<|a x o n h
def BmB(base:qq)(mg:Str->Option zy):Prop:=∃bm o,mg "__builtins__"=some (.ref bm)/\bm≠builtinsNs/\base.get? bm=some o/\o.cls=.type "module"/\o.dict=some builtinsNs/\o.data=.plain
section
variable{X:Cx}{pins:List (zv×Obj)}{σ:St}{H:Hp}{s:zn}
theorem Inv.tab{P:zv}{ps more:Array zy}{h':qq}{t':Nat}(h:Inv X pins σ H s)(d:H P=some (.tbl ps))(k:∀b o,b≠P->s.heap.get? b=some o->h'.get? b=some o)(i:h'.get? P=some {cls:=.none,data:=.fields (ps++more)}):Inv X pins σ (upd H P<|.tbl (ps++more)) {s with heap:=h',toks:=t'}:=by
 have g:∀b,H b=none->b≠P:=λb n z=>by rw[z,d]at n;cases n
 show h.un (t':=t') {λb o e n _ _=>k b o (g b n) e,λb o e n _ _=>{o.slots,k b o (g b n) e},λb o e n _=>by rw[aj<|g b n];show n,λb o e _=>?_,λb xs e=>?_,λb o u e=>?_,λb j e=>?_} λb u e=>?_
 .by_cases a:b=P
  .rw[a];show{_,i}
  .show{o,k b o a e}
 .rw[aj (λz=>by rw[z,d]at e;cases e)];show e
 .rw[aj (λz=>by rw[z,d]at e;cases e)];show e
 .by_cases a:b=P
  .subst a;rw[d]at e;cases e;show⟨more,ac⟩
  .show{#[],by rw[aj a,e];simp}
 .by_cases a:b=P
  .subst a;rw[ac]at e;cases e;show i
  .rw[aj a]at e;show(h.hok b u e).stay (λc v f q=>k c v (λz=>?_) q) (λc q=>?_) λc xs q=>?_
   .rcases f with f|f
    .show a<|f.symm.trans z
    .rw[z,d]at f;cases f
   .rw[aj (λz=>by rw[z,d]at q;cases q)];show q
   .rw[aj (λz=>by rw[z,d]at q;cases q)];show q
theorem uA{O P:zv}{k:Arguments}{r:Expr}{l:Scope}{pos:Pos}{cl:List (Str×zv)}{Q:zy->zn->Prop}{E:zy->zn->Prop}(a:Inv X pins σ H s)(a6:CodeHd X.base O P)(U:X.env.code=.ref O)(a5:BmB X.base X.mg)(T:dY H P<|X.env.qual++"<lambda>")(c6:defaultsOf k X.env=([],[]))(V:closureFor l X.env=pure cl)(R:∀f c pm ctv H' s',fz P H H'->dY H' P (X.env.qual++"<lambda>")->H' c=some (.ext<|cdφ c (X.env.qual++"<lambda>"))->Inv X pins σ H' s'->s'.heap.get? f=some (kla_obj "<lambda>" (X.env.qual++"<lambda>") k r l cl pm c ctv)->s.heap.objs.size<=f->H' f=none->(∀b v,s.heap.IsCell b v->H b=none->s'.heap.IsCell b v)->Q (.ref f) s'):
  wpAny (model X.prog X.w) X.A (eval (.Lambda k r l pos) X.env) Q E s:=by
 let(ps,g,D,M):=T;have S:s.heap.get? P=some (tabObj ps):=a.hok P _ g;have Y:s.heap.Ns mainGlobals X.mg:=a.ok.mod.glob.keeps a.bk;have c7:mainGlobals≠P:=λq=>by
  let(o,es,b3,e,j,_):=a.ok.mod.glob;have:=(a.bs _ _ e).2;rw[q,g]at this;cases this
 have h:s.heap.BuiltinsAt X.mg P:=by
  let(bm,d3,a8,a9,F,b4,b5,b6):=a5;show{bm,d3,a8,a9,λq=>?_,λq=>?_,a.bk _ _ F,b4,b5,b6}
  .let(o,es,b3,e,j,_):=a.ok.mod.glob;rw[q,e]at F;cases F;rw[j]at b6;cases b6
  .have:=(a.bs _ _ F).2;rw[q,g]at this;cases this
 have C:=a6.keeps a.bk;have b1:∀b v,s.heap.IsCell b v->H b=none->b≠P:=λb v _ n z=>by rw[z,g]at n;cases n
 show PySem.W.kla_eval c6 ?_;cases L:codeAmong pos ps.toList with
 |none =>
  show PySem.W.kla_makeFunction (mg:=X.mg) V a.ok.glob Y U C S D L c7 h λc' ctv h' tk i t a0 c8 c9=>?_;have d:=a.tab (t':=tk) (more:=#[rawInt pos.line,rawInt pos.col,.ref c']) (h':=h'.push<|kla_obj "<lambda>" (X.env.qual++"<lambda>") k r l cl ((X.mg "__name__").getD .none) c' ctv) g (λb o n e=>A0 _<|i b o n e)<|A0 _ c9;have G:H c'=none:=a.hok.fresh t;have a3:c'≠P:=λz=>by rw[z,g]at G;cases G
  have B:upd H P (.tbl<|ps ++ #[rawInt pos.line,rawInt pos.col,.ref c']) c'=none:=by rw[aj a3];show G
  have a1:cdφ c' (X.env.qual++"<lambda>") (h'.push<|kla_obj "<lambda>" (X.env.qual++"<lambda>") k r l cl ((X.mg "__name__").getD .none) c' ctv):=ro _ _ c8 λo e=>A0 _ e;have N:fz P H (upd (upd H P<|.tbl (ps ++ #[rawInt pos.line,rawInt pos.col,.ref c'])) c'<|.ext (cdφ c'<|X.env.qual++"<lambda>")):=λb o n e=>by
   rw[aj<|ao e G,aj n];show e
  have a4:s.heap.objs.size<=h'.objs.size:=CL t<|F1 a0;have d2:h'.objs.size≠c':=F8 a0;have K:H h'.objs.size=none:=a.hok.fresh a4;have d1:h'.objs.size≠P:=λz=>by rw[z,g]at K;cases K
  have a7:Inv X pins σ (upd (upd H P<|.tbl (ps ++ #[rawInt pos.line,rawInt pos.col,.ref c'])) c'<|.ext (cdφ c'<|X.env.qual++"<lambda>")) {s with heap:=h'.push<|kla_obj "<lambda>" (X.env.qual++"<lambda>") k r l cl ((X.mg "__name__").getD .none) c' ctv,toks:=tk}:=by
   show{d.ok,d.os,d.bare,{λb o e n h i=>d.base.keep b o e n h i,λb o e n h i=>d.base.slot b o e n h i,λb o e n i=>?_,d.base.there,λb xs e=>?_,λb o u e=>?_,λb d4 e=>?_},d.loc,d.cell,?_,λx c e=>?_,λp hp=>?_,λb u e=>?_,d.len}
   .have h1:=d.base.free b o e n i;have:b≠c':=C2<|C5 (C5 (B5 e) a.sz) t;rw[aj this];show h1
   .have h1:=d.base.tups b xs e;rw[aj<|ao h1 B];show h1
   .have h1:=d.base.frzs b o u e;rw[aj<|ao h1 B];show h1
   .let(m,h1):=d.base.tbls b d4 e;show{m,by rw[aj<|ao h1 B];show h1}
   .rw[aj<|C2 (C5 a.lt t)];show d.free
   .have h1:=d.freeC x c e;let(v,o,y,_):=a.cell x c e;rw[aj<|C2 (C5 (B5 y) t)];show h1
   .let(c0,c1,c2,c3,c4):=d.pin p hp;let(d0,_):=a.pin p hp;show{c0,by rw[aj<|C2 (C5 (B5 d0) t)];show c1,c2,c3,c4}
   .by_cases h:b=c'
    .subst h;rw[ac]at e;cases e;show{a1,yG a1,ro}
    .rw[aj h]at e;show(d.hok b u e).stay (λ_ _ _ q=>q) (λc q=>by rw[aj<|ao q B];show q) λc xs q=>by rw[aj<|ao q B];show q
  show R h'.objs.size c' _ ctv _ _ N {_,by rw[aj<|CD a3];show ac,?_,λpos' I e=>?_} ac a7 (A5 _ rfl) a4 ?_ λb v ⟨o,y,j⟩ n=>{o,A0 _<|i b o (b1 b v ⟨o,y,j⟩ n) y,j}
  .rw[toList_append];show kQ D
  .rw[toList_append]at e;rcases oH D e with e|e
   .let(c,b2,J):=M pos' I e;show{c,b2,N c _ (λz=>?_) J};rw[z,g]at J;cases J
   .show⟨c',e,ac⟩
  .rw[aj d2,aj d1];show K
 |some I =>
  let(c,rfl,c5):=M pos I L;show PySem.W.kla_makeFunctionHit (mg:=X.mg) V a.ok.glob Y U C S D L h λctv h' tk Z a2=>?_;have d:=a.kept (t':=tk) (h':=h'.push<|kla_obj "<lambda>" (X.env.qual++"<lambda>") k r l cl ((X.mg "__name__").getD .none) c ctv) λb o e=>A0 _<|Z b o e;show R h'.objs.size c _ ctv H _ (fz.refl _ _) ⟨ps,g,D,M⟩ c5 d (A5 _ rfl) a2 (a.hok.fresh a2) λb v ⟨o,y,j⟩ _=>{o,A0 _<|Z b o y,j}
end
def bB(X:Cx)(H:Hp)(s:zn):qq:=hideAll s.heap<|trk s.heap H++frs X.stack
section
variable{X:Cx}{pins:List (zv×Obj)}{σ:St}{H:Hp}{s:zn}
theorem sR{b:zv}{o:Obj}(e:s.heap.get? b=some o)(n:H b=none)(c:b∉frs X.stack):(bB X H s).get? b=some o :=
 hideAll_get _ e λa=>by
  rcases C6.mp a with a|a
  .have q:(H b).isSome=true:=(CF.mp a).2;rw[n]at q;simp at q
  .show c a
theorem yH{b:zv}{o:Obj}(e:(bB X H s).get? b=some o):s.heap.get? b=some o/\H b=none/\b∉frs X.stack:=by
 have c:s.heap.get? b=some o:=of_hideAll (trk s.heap H++frs X.stack) e;have d:b∉trk s.heap H++frs X.stack:=λa=>by
  have z:(bB X H s).get? b=none:=hideAll_none _ a;rw[z]at e;cases e
 show{c,?_,λa=>d<|CH _ a};cases q:H b with
 |none=>rfl
 |some x=>show absurd (CT _<|CF.mpr {FW.mpr<|B5 c,by simp[q]}) d
theorem fU{c base a:qq}:∀{l:List Env},c.FunFrames base l->(∀b∈frs l,a.get? b=none)->c.FunFrames a l
 |[],_,_=>trivial
 |env::rest,⟨k,⟨L,o,hf,d,ho,hd⟩,r⟩,hn=>by
  have e:frs (env::rest)=L::frs rest:=by unfold frs;rw[filterMap_cons,hf]
  rw[e]at hn;show{k,⟨L,o,hf,hn L B4,ho,hd⟩,fU r λb d=>hn b<|B1 _ d}
theorem Inv.bsub(a:Inv X pins σ H s):∀b o,X.base.get? b=some o->(bB X H s).get? b=some o:=λb o e=>by
 let(h1,h2):=a.bs b o e;show sR h1 h2 λc=>?_;have:=(a.stack.mem c).1;rw[e]at this;cases this
theorem Inv.env0B(a:Inv X pins σ H s):Env0 X.prog X.w X.K X.mg (bB X H s) X.A X.stack s H:=by
 have c:=a.bsub;let(g,d,f):=a.ok.mod.blt;show{a.ok.frames,⟨a.ok.mod.kin.keeps c,a.ok.mod.glob.keeps c,⟨g,d.keeps c,f⟩,a.ok.mod.nolimit.keeps c⟩,λb o e=>{(yH e).1,(yH e).2.1},le_of_eq<|hideAll_size _ _,fU a.stack λb d=>?_,a.stkFree,a.hok,a.bare};cases q:(bB X H s).get? b with
 |none=>rfl
 |some o=>show absurd d (yH q).2.2
end
section
variable{CX:CXT}{P:zi}{w:xr}{K:Frag}{mg:Str->Option zy}{base:qq}{k:Nat}{f c:zv}{name qual:Str}{params:Arguments}{body:Expr}{scope:Scope}{cl:List (Str×zv)}{pm ctv:zy}{ps fs:List Str}{fv:List V}{sp:Sp}
theorem uB(F:base.get? f=some (kla_obj name qual params body scope cl pm c ctv))(y:∀vs H Q E,sp vs H Q E->H c=some (.ext<|cdφ c qual))(S:LaScope ps scope cl)(C:Capt base scope cl fs fv)(m:∀vs H Q E,sp vs H Q E->vs.length=ps.length)(p:∀(A:xx) (outer:List Env) (s:zn) (H:Hp) (vs:List V) (Q:VK) (E:XK),Room k (A.deeper<|envX qual scope s.heap.objs.size f (.ref c) cl)->sp vs H Q E ->
   ∃t,PE (AY CX P w K mg base (ps++fs) qual scope f (.ref c) cl A outer s H E) body t/\t (vs.map some++fv.map some) H Q):
  aE P w K mg base CX (k+1) f (kla_fn name qual params body scope cl pm (.ref c) ctv) ps sp:=by
 show{m,λA outer s H T us vs Q E g d n r i=>?_};have B:=m _ _ _ _ i;have l:∀b o,base.get? b=some o->s.heap.get? b=some o:=λb o e=>(d.bs b o e).1;have O:s.heap.NoLimit:=d.mod.nolimit.keeps l;have z:s.heap.CodeRec (.ref c) qual:=(d.hok c _<|y _ _ _ _ i).1;show PySem.W.kla_callFunE g.depth (l _ _ F) rfl S.co S.gen rfl z<|n _ _ _ _ ?_;show wpAny_newFunctionEnv S.nocell (λx M=>S.par _ (of_mem_zip M).1) (λN D J=>?_) S.kind;have j:∀b o,s.heap.get? b=some o->N.get? b=some o:=λb o e=>J.extBut b o (C2<|B5 e)<|A0 _ e;show{O.keeps j,PySem.W.kla_codeExpr ?_};let(t,L,G):=p A outer s H vs Q E (g.deeper _) i;have I:=yF (CX:=CX) (P:=P) (w:=w) (K:=K) (mg:=mg) (qual:=qual) (f:=f) (c:=c) (E:=E) (tk:=s.toks+(ps.zip us).length) S C g.hd d B r D j;show wpAny_mono (L [] _ _ H _ I G) (λu s' ⟨v,H',a,R,q⟩=>⟨v,H',a.os,a.bare,a.base,a.hok,R,q⟩) λe s' h=>h
end
structure KSt(P:zi)(w:xr)(H:Hp)(fs:List zv)(s s':zn):Prop where
 os:s'.os=s.os
 bare:AllBare s'.gens
 hok:HOk P w H s'.heap
 un:Un fs [] H H s.heap s'.heap
section
variable{P:zi}{w:xr}{H:Hp}{fs:List zv}{s s1:zn}
theorem KSt.low(g:HOk P w H s.heap)(a:KSt P w H fs s s1){h2:qq}{t:Nat}(k:∀b o,b<s.heap.objs.size->s1.heap.get? b=some o->h2.get? b=some o):KSt P w H fs s {s1 with heap:=h2,toks:=t}:=by
 show{a.os,a.bare,λb u e=>(a.hok b u e).stay (λc v h q=>k c v ?_ q) (λ_ q=>q) λ_ _ q=>q,{λb o e n f d=>k b o (B5 e)<|a.un.keep b o e n f d,λb o e n f d=>?_,a.un.free,λb o e d=>?_,a.un.tups,a.un.frzs,a.un.tbls}}
 .rcases h with z|z
  .rw[z];show g.lt e
  .show g.lt z
 .let(i,q):=a.un.slot b o e n f d;show{i,k b _ (B5 e) q}
 .let(o',q):=a.un.there b o e d;show{o',k b o' (B5 e) q}
theorem jw{base c h':qq}{ex:List zv}:∀{l:List Env},c.FunFrames base l->Un fs [] H H c h'->(∀b∈frs l,H b=none)->h'.FunFrames base l
 |[],_,_,_=>trivial
 |env::rest,⟨k,⟨L,o,hf,a,ho,hd⟩,r⟩,u,hn=>by
  have e:frs (env::rest)=L::frs rest:=by unfold frs;rw[filterMap_cons,hf]
  rw[e]at hn;let(d,q):=u.any ho (hn L B4) (by simp);show{k,⟨L,_,hf,a,q,hd⟩,jw (ex:=ex) r u λb a=>hn b<|B1 _ a}
variable{K:Frag}{mg:Str->Option zy}{base:qq}{A:xx}{outer:List Env}{k:Nat}{f:zv}{fd:xl}{y:Str}{spK:Sp}{key:V->Str}
theorem yI(F:aE P w K mg base CX0 k f fd [y] spK)(h:br K fd [y] [])(B:Room k A)(a:Env0 P w K mg base A outer s H)(c:KSt P w H (frs outer) s s1)(hsz:s.heap.objs.size<=s1.heap.objs.size){x:V}{u:zy}(r:aH x u)(C:spK [x] H (λv H'=>v=.str (key x)/\H'=H) E0):
  wpAny (model P w) A (call (.ref f) [u]) (λv j=>KSt P w H (frs outer) s j/\(∃t,v=.str (key x) t)/\∀b o,s.heap.objs.size<=b->s1.heap.get? b=some o->j.heap.get? b=some o) (λ_ _=>False) s1:=by
 have D:∀b∈frs outer,b<s.heap.objs.size:=λb h=>by
  let(_,o,q,_):=a.funs.mem h;show B5 q
 have bs:∀b o,base.get? b=some o->s1.heap.get? b=some o/\H b=none:=λb o e=>by
  let(h1,h2):=a.bs b o e;show{c.un.keep b o h1 h2 (λi=>?_) (by simp),h2};have:=(a.funs.mem i).1;rw[e]at this;cases this
 have g:=h s1 [u] (a.mod.kin.keeps λb o e=>(bs b o e).1) rfl;show wpAny_call<|codeAny_mono (F.run A _ s1 H _ [u] [x] _ E0 B ({a.frames,a.mod,bs,CL a.bsz hsz,jw (ex:=[]) a.funs c.un a.frf,a.frf,c.hok,c.bare}) g (.cons r .nil) C) λE j d=>?_;cases E with
 |error e=>show d
 |ok p =>
  cases p with
  |next=>show False.elim d
  |brk=>show False.elim d
  |cont=>show False.elim d
  |ret v =>
   let(I,H',os,l,un,z,G,n,m):=d;subst n m;show{⟨os.trans c.os,l,z,c.un.trans un⟩,G,λb o g e=>un.keep b o e (a.hok.fresh g) (λi=>(absurd (D b i)<|not_lt.mpr g)) (by simp)}
def dj(key:V->Str)(xs:List V)(a:List zy):Prop:=Paired (λ(x:V) (u:zy)=>∃t,u=.str (key x) t) xs a
theorem dj.length:∀{xs:List V}{us:List _},dj key xs us->us.length=xs.length
 |_,_,.nil=>rfl
 |_,_,.cons _ r=>by rw[CC,CC,dj.length r]
theorem dj.get:∀{xs:List V}{us:List _}{i:Nat},dj key xs us->i<xs.length->∃t,us.getD i Value.none=.str (key<|xs.getD i .non) t
 |_,_,i,.nil,h=>absurd h<|Nat.not_lt_zero _
 |_,_,0,.cons r _,_=>r
 |_,_,i+1,.cons _ r,h=>dj.get (i:=i) r<|Nat.lt_of_succ_lt_succ h
theorem dj.all:∀{xs:List V}{us:List _},dj key xs us->∀u∈us,∃z t,u=.str z t
 |_,_,.nil,u,h=>by cases h
 |_,_,.cons r q,u,h=>by
  rcases B3.mp h with e|e
  .rw[e];let(t,e):=r;show{_,t,e}
  .show dj.all q u e
def iU(key:V->Str)(xs:List V)(i j:Nat):Bool:=HT.eV (key<|xs.getD i .non)<|key (xs.getD j .non)
theorem uC{xs:List V}(h:(xs.map key).Nodup):SRT.Ord (iU key xs) xs.length:=by
 show{λi _=>HT.nX _,λi a l _ _ _ h1 h2=>HT.qL h1 h2,λi a hi d j=>HT.nY λe=>j ?_};have c:i<(xs.map key).length:=by rw[A1];show hi
 have f:a<(xs.map key).length:=by rw[A1];show d
 have b:(xs.map key)[i]=(xs.map key)[a]:=by
  rw[getElem_map,getElem_map];rw[Bm,Bm,A2 hi,A2 d]at e;show e
 have g:=D2.mp h;rcases lt_trichotomy i a with z|z|z
 .show absurd b<|g i a c f z
 .show z
 .show absurd b.symm<|g a i f c z
theorem yJ(F:aE P w K mg base CX0 k f fd [y] spK)(a0:br K fd [y] [])(e0:Room k A)(L:Env0 P w K mg base A outer s H){a:zv}{vs:List zy}{xs:List V}{n:Nat}(d3:KSt P w H (frs outer) s s1)(M:s.heap.objs.size<=a)(S:s1.heap.get? a=some (seqObj "list" vs.toArray n))(c4:aB xs vs)(e7:xs.length<64)(c1:(xs.map key).Nodup)(e1:∀x∈xs,spK [x] H (λv H'=>v=.str (key x)/\H'=H) E0){Q:PySem.Fin->zn->Prop}{E:zy->zn->Prop}(q:∀(p:Array Nat) s2 c,SRT.Row xs.length p->SRT.Up (iU key xs) p xs.length->KSt P w H (frs outer) s s2->s2.heap.get? a=some (seqObj "list" (toArray<|p.toList.map λi=>vs.getD i Value.none) c)->Q (.done<|.ret .none) s2):
  wpAny (model P w) A (ksk_tree a (.ref f) false) Q E s1:=by
 have f0:=c4.length;have c5:=CA s1.heap a<|Obj.mapSeq λ_=>(#[]:Array zy);obtain⟨h,a4⟩:∃h,(s1.heap.update a<|Obj.mapSeq λ_=>(#[]:Array zy)).get? a=some (seqObj "list" #[] h):={_,get?_update_seq S λ_=>#[]};have a9:a<s1.heap.objs.size:=B5 S;unfold ksk_tree;show Wb<|listItems_at S rfl (Wb<|listUpdate_at S rfl (Wb<|seqEpoch_at a4 rfl (Wb<|wpAny_newTuple ?_ (by change vs.length<=_;rw[sizeLine_eq];lia))) (by rw[B2,sizeLine_eq];lia) (CI _));show Wb<|wpAny_newList (wpAny_holding ?_) (CI _);have a2:((s1.heap.update a<|Obj.mapSeq λ_=>(#[]:Array zy)).push (seqObj "tuple" vs.toArray 0)).objs.size=s1.heap.objs.size+1:=by rw[size_push',size_update]
 have c2:(((s1.heap.update a<|Obj.mapSeq λ_=>(#[]:Array zy)).push (seqObj "tuple" vs.toArray 0)).push (seqObj "list" #[] 0)).get? a=some (seqObj "list" #[] h):=A0 _<|A0 _ a4;have b2:(((s1.heap.update a<|Obj.mapSeq λ_=>(#[]:Array zy)).push (seqObj "tuple" vs.toArray 0)).push (seqObj "list" #[] 0)).get? (s1.heap.objs.size+1)=some (seqObj "list" #[] 0):=by rw[<-a2];show A5 _ rfl
 have a7:KSt P w H (frs outer) s {s1 with heap:=((s1.heap.update a<|Obj.mapSeq λ_=>(#[]:Array zy)).push (seqObj "tuple" vs.toArray 0)).push (seqObj "list" #[] 0),toks:=s1.toks}:=d3.low L.hok λb o a0 e=>A0 _<|A0 _ ((c5.2 b<|C2 (C5 a0 M)).trans e)
 change wpAny (model P w) A _ Q E _;rw[a2];have a3:s1.heap.objs.size+1≠a:=F8<|F5 a9;have m:s.heap.objs.size<=s1.heap.objs.size+1:=Nat.le_succ_of_le<|CL M (F1 a9);generalize O:({s1 with heap:=((s1.heap.update a<|Obj.mapSeq λ_=>(#[]:Array zy)).push (seqObj "tuple" vs.toArray 0)).push (seqObj "list" #[] 0)}:zn)=s2
 have d8:s2.heap.get? a=some (seqObj "list" #[] h):=by rw[<-O];show c2
 have b3:s2.heap.get? (s1.heap.objs.size+1)=some (seqObj "list" #[] 0):=by rw[<-O];show b2
 have c7:KSt P w H (frs outer) s s2:=by rw[<-O];show a7
 generalize s1.heap.objs.size+1=D at a3 m b3|-;clear a7 b2 c2 a2 a4 c5 O;unfold ksk_rest;show Wb<|wpAny_rule ?_;rw[<-forIn_toList];show Wb<|ksk_fold (λi s'=>KSt P w H (frs outer) s s'/\s'.heap.get? a=some (seqObj "list" #[] h)/\∃d c,s'.heap.get? D=some (seqObj "list" d c)/\dj key (xs.take i) d.toList) vs.toArray.toList 0 s2 {c7,d8,#[],0,b3,by rw[List.take_zero];show .nil} ?step ?done
 case step =>
  rintro g u s' B ⟨Y,a5,d,c,l,j⟩;rw[toList_toArray]at B;rw[zero_add]at j|-;have b1:g<vs.length:=(A9.mp B).1;have a1:g<xs.length:=by lia
  have e5:aH xs[g] u:=by
   let(f3,h1,h2):=c4.get<|A2 a1;rw[B]at h1;cases h1;show h2
  have e9:d.size<=vs.length:=by
   have h1:=j.length;rw[B6,D6]at h1
   lia
  show Wb<|wpAny_attempt (wpAny_mono (yI F a0 e0 L Y (F1<|FC m (B5 l)) e5<|e1 _ (F6 a1)) (λv c6 e2=>?_) λ_ _ z=>z.elim);let(c8,(t,rfl),c3):=e2;have c0:=c3 _ _ m l;have I:=CA c6.heap D<|Obj.mapSeq (·.push (Value.str (key xs[g]) t));dsimp only;show Wb<|listUpdate_at c0 rfl ?_ (by rw[sizeLine_eq];lia) (CL (le_of_eq<|Array.size_push ..) (by rw[sizeLine_eq];lia));show Wp {rfl,c8.low (t:=c6.toks) L.hok λb o N e=>(I.2 b<|C2 (C5 N m)).trans e,(I.2 a<|CD a3).trans (c3 _ _ M a5),d.push<|.str (key xs[g]) t,_,get?_update_seq c0 (·.push (Value.str (key xs[g]) t)),?_};rw[take_add_one,A2 a1,toList_push];show Paired.snoc j ⟨t,rfl⟩
 case done =>
  rintro s' ⟨Y,a5,d,c,l,j⟩;have R:dj key xs d.toList:=by
   rw[zero_add,toList_toArray,E4 (by lia)]at j;show j
  have X:d.toList.length=vs.length:=by rw[R.length];lia
  have e3:d.size=vs.length:=by rw[<-B6];show X
  show Wb<|listItems_at l rfl ?_;have a8:∀(st:SortSt)(p:Array Nat),SRT.Row xs.length p->SRT.Up (iU key xs) p xs.length->(arrOf st).map (·.2)=toArray (p.toList.map λi=>vs.getD i Value.none)->failedOf st=none->wpAny (model P w) A (ksk_tail a false h (.ref D) st) Q E s':=λst p r U d9 d7=>by
   have I:=CA s'.heap D<|Obj.mapSeq λ_=>(#[]:Array zy);have a6:=(I.2 a<|CD a3).trans a5;unfold ksk_tail;dsimp only;rw[d9];simp only[C9,CO];show Wb<|listUpdate_at l rfl (Wb<|wpAny_letGo (Wb<|seqEpoch_at a6 rfl (Wb<|listUpdate_at a6 rfl ?_ (CI _) (by rw[B2,A1,B6,r.size,sizeLine_eq];lia)))) (by rw[e3,sizeLine_eq];lia) (CI _);rw[d7];simp only[G2,C9,CO];show Wp<|q p _ _ r U (Y.low (t:=s'.toks) L.hok λb o N e=>?_) (get?_update_seq a6 _);show((CA (s'.heap.update D<|Obj.mapSeq λ_=>(#[]:Array zy)) a<|Obj.mapSeq λ_=>toArray<|p.toList.map λi=>vs.getD i Value.none).2 b (C2<|C5 N M)).trans ((I.2 b<|C2 (C5 N m)).trans e)
  unfold ksk_end;dsimp only;simp only[C9,CO]
  by_cases h2:vs.toArray.size<2
  .rw[A6 h2,A6 h2];show Wb<|Wp ?_;rw[StateT.run_pure];show Wb (Wp<|a8 _ (toArray<|List.range xs.length) ⟨by simp⟩ (λi g e8 b1=>?_) ?_ rfl)
   .rw[B2]at h2;lia
   .change(d.zip vs.toArray).map (·.2)=_;rw[B2]at h2;apply toList_inj.mp;rw[show xs.length=vs.length by lia];have Z:d=d.toList.toArray:=by simp
    rw[Z]
    match vs,d.toList,X,h2 with
    |[],[],_,_=>simp
    |[v],[w],_,_=>simp
    |_::_::_,_,_,h2=>show absurd h2 (by simp)
  .rw[A4 h2,A4 h2];rw[B2]at h2;have Z:d=d.toList.toArray:=by simp
   rw[Z];show Wb<|PySem.W.kas_kind (T:=.type "str") (by lia) (λu B=>?_) (by rfl) (by rfl) ?_
   .let(z,t,rfl):=R.all u B;show Looks.now
   .let(r,U):=SRT.uc (uC c1) (by lia:1<=xs.length);rw[show xs.length=vs.length by lia]at r U;show Wb (wpAny_mono (PySem.W.kat_run (κ:=oneType') (ks:=d.toList) (vs:=vs) (Q:=λJ G=>∃p:Array Nat,arrOf J=p.map (PySem.W.kas_item<|d.toList.toArray.zip vs.toArray)/\failedOf J=none/\p=SRT.run (iU key xs) (PySem.W.kas_sort vs.length)/\G=s')
     X (by lia) (by lia) (λe4 J G e6 c9 d0 d1=>⟨e4,c9,d0,d1⟩) (SRT.pz (n:=vs.length) (f:=iU key xs) (λi g C hi b1 d4=>?_) (λp G=>p=SRT.run (iU key xs) (PySem.W.kas_sort vs.length)/\G=s') _ (by rw[show vs.length=xs.length by lia];show SRT.nP (uC c1) (by lia)) ⟨rfl,rfl⟩)) ?_ λ_ _ e=>e)
    .let(f1,k1):=R.get (i:=i) (by lia);let(f2,k2):=R.get (i:=g) (by lia);change wpAny (model P w) A (keyLt' oneType' (d.toList.getD i Value.none)<|d.toList.getD g Value.none) C _ s';rw[k1,k2];show PySem.W.kas_lt_str d4
    .rintro⟨⟨⟩,J⟩ G ⟨p,d5,d6,d2,es⟩;subst es d2;show a8 J _ (by rw[show xs.length=vs.length by lia];show r) (by rw[show xs.length=vs.length by lia];show U) (PySem.W.kat_snds (ks:=d.toList) (vs:=vs) X d5) d6
end
theorem sS{α:Type}(xs:List α)(d:α):(List.range xs.length).map (λi=>xs.getD i d)=xs:=by
 apply ext_getElem?;intro i
 by_cases h:i<xs.length
 .rw[B7,getElem?_range h,A2 h];change some (xs.getD i d)=_;rw[Bm,A2 h];rfl
 .rw[F7 (by rw[A1,F4];lia),F7 (by lia)]
theorem oJ{xs:List V}{a:List _}(r:aB xs a):∀(p:List Nat),(∀i∈p,i<xs.length)->aB (p.map λi=>xs.getD i .non) (p.map λi=>a.getD i Value.none)
 |[],_=>.nil
 |i::p,h=>by
  have hi:=h i B4;let(u,c,e):=r.get<|A2 hi;show .cons ?_<|oJ r p λd b=>h d<|B1 _ b;change aH (xs.getD i _) (a.getD i _);rw[Bm,Bm,c,A2 hi];show e
theorem yK{α:Type}{xs:List α}{d:α}{p:Array Nat}(r:SRT.Row xs.length p):(p.toList.map λi=>xs.getD i d).Perm xs:=by
 have:=r.perm.map λi=>xs.getD i d;rw[sS]at this;show this
theorem DG{key:V->Str}{xs:List V}{p:Array Nat}(r:SRT.Row xs.length p)(u:SRT.Up (iU key xs) p xs.length):(p.toList.map λi=>xs.getD i .non).Pairwise λa b=>HT.eV (key a) (key b)=true:=by
 rw[C0,D2];intro i e hi d c;have hs:=r.size;rw[B6]at hi d;have:=u i e c (by lia);rw[CB,CB,C1 (by lia),C1 (by lia)]at this;show this
def yL(P:zv)(qual:Str)(spK:zv->zv->Sp)(key:Hp->V->Str)(Q:VK):List V->Hp->Prop
 |[v],H1=>∃l xs,v=.ref l/\H1 l=some (.lst xs)/\xs.length<64/\dY H1 P qual/\∀f c H',fz P H1 H'->dY H' P qual->H' c=some (.ext<|cdφ c qual) ->
  (xs.map<|key H').Nodup/\(∀x∈xs,spK f c [x] H' (λv H2=>v=.str (key H' x)/\H2=H') E0)/\∀D ys,ys.Perm xs->ys.Pairwise (λa b=>HT.eV (key H' a) (key H' b)=true)->H' D=none->Q (.ref D) (upd H' D<|.lst ys)
 |_,_=>False
def DH(P:zv)(qual:Str)(spK:zv->zv->Sp)(key:Hp->V->Str)(a:TE):TE:=λσ H Q=>a σ H λv H1=>yL P qual spK key Q [v] H1
section
variable{X:Cx}
theorem yM{P R:zv}{k:Nat}{y:Str}{p d6 d4 pos:Pos}{x:Arguments}{D:Expr}{B:Scope}{qual:Str}{spK:zv->zv->Sp}{key:Hp->V->Str}{e:Expr}{a1:TE}(a3:CodeHd X.base R P)(b2:X.env.code=.ref R)(a2:BmB X.base X.mg)(d0:X.env.qual++"<lambda>"=qual)(c1:defaultsOf x X.env=([],[]))(c0:closureFor B X.env=pure [])(a8:∀(G:qq) (f c:zv) (pm ctv:zy),(∀b o,X.base.get? b=some o->G.get? b=some o)->G.get? f=some (kla_obj "<lambda>" qual x D B [] pm c ctv)->aE X.prog X.w X.K X.mg G CX0 k f (kla_fn "<lambda>" qual x D B [] pm (.ref c) ctv) [y] (spK f c))(b1:∀(pm ctv:zy) (c:zv),br X.K (kla_fn "<lambda>" qual x D B [] pm (.ref c) ctv) [y] [])(d1:Room (k+2) X.A)(c4:Gl X "sorted")(L:X.mg "sorted"=none)(c2:PE X e a1)(U:starEach [e] X.env=(false,eval e X.env)::starEach [] X.env:=by rfl)(c9:(backTo pos<|starEach [e] X.env).any (·.1)=false:=by rfl):
  PE X (.Call (.Name "sorted" p) [e] [{some "key",.Lambda x D B d6,d4}] pos) (DH P qual spK key a1):=by
 intro pins s σ H Q I h;subst d0;show wpAny_Call_Name_kw<|fe I c4 L Ee ?_ (by decide) (by decide);show callWith_kw (thn (aa c2 ae U pos pins s σ H (yL P (X.env.qual++"<lambda>") spK key Q) I h) λus s1 ⟨vs,H1,C,r,a0⟩=>?_) (by rw[U];rfl) c9 rfl rfl;obtain⟨v,rfl⟩:∃v,vs=[v]:=by
  match vs,a0 with
  |[v],_=>show⟨v,rfl⟩
 let(l,xs,rfl,J,a6,T,q):=a0;let(u,rfl,e0):=cD r;cases e0;change wpAny _ _ _ _ _ s1;show wpAny_evalAll_cons<|Wb (uA C a3 b2 a2 T c1 c0 λf c pm ctv H' s2 Z e1 b3 a c6 Y c3 e2=>Wb<|wpAny_standAt (Wp<|wpAny_evalAll_nil ?_));let(c5,d2,d9):=q f c H' Z e1 b3;have d7:f∉frs X.stack:=λL=>by
  rcases B3.mp (C.stkSub f L)with z|z
  .have:=C.lt;rw[<-z]at this;show absurd this<|not_lt.mpr Y
  .show C.nofs Y z
 let(_,its,n,N,c8):=a.hok l _<|Z l _ (λz=>by let(ps,a9,_):=T;rw[z,a9]at J;cases J) J;have e3:=N.length;change wpAny _ _ (call (.builtin "sorted") [.ref l] [("key",.ref f)]) _ _ s2;show call_function_entry_kw kind_sorted plain_sorted entry_sorted (ksk_s1 _ _) ?_;unfold Builtin.«sorted»;show Wb (m:=checkCount "sorted" 1 1 _)<|Wp (Wb<|collect_list ⟨_,c8,rfl,n,rfl⟩ (Wb<|wpAny_newList ?_ (by rw[sizeLine_eq];lia)) (by rw[sizeLine_eq];lia));have M:((s2.heap.push<|seqObj "list" #[] 0).update s2.heap.objs.size (Obj.mapSeq (· ++ its.toArray))).objs.size=s2.heap.objs.size+1:=by
  rw[size_update,size_push']
 have S:(((s2.heap.push<|seqObj "list" #[] 0).update s2.heap.objs.size (Obj.mapSeq (· ++ its.toArray))).push (seqObj "list" its.toArray 0)).get? (s2.heap.objs.size+1)=some (seqObj "list" its.toArray 0):=by
  rw[<-M];show A5 _ rfl
 have d5:∀b o,b<s2.heap.objs.size->s2.heap.get? b=some o->(((s2.heap.push<|seqObj "list" #[] 0).update s2.heap.objs.size (Obj.mapSeq (· ++ its.toArray))).push (seqObj "list" its.toArray 0)).get? b=some o:=λb o j e=>by
  rw[get?_push_ne _ _ _ (by rw[M];show C2<|F5 j),get?_update_ne _ _ _ _<|C2 j,get?_push_ne _ _ _<|C2 j];show e
 have a4:KSt X.prog X.w H' (frs X.stack) s2 s2:=⟨rfl,a.bare,a.hok,Un.refl⟩;change wpAny _ _ _ _ _ _;rw[M];show Wb<|wpAny_holding (wpAny_call_entry_kw slot_list_sort ⟨_,S,rfl⟩ entry_list_sort ?_<|ksk_l1 _ _);change wpAny _ _ _ _ _ _;rw[ksk_t1];show yJ (key:=key H') (a8 _ f c pm ctv a.bsub<|sR c6 c3 d7) (b1 pm ctv c) d1.in1.in1 a.env0B.in1.in1 (a4.low (t:=s2.toks) a.hok d5) (le_succ _) S N a6 c5 d2 λF O a5 E d3 d a7=>{_,rfl,Wp {_,rfl,?_}};have g:H' (s2.heap.objs.size+1)=none:=a.hok.fresh<|le_succ _;have d8:(F.toList.map λi=>xs.getD i V.non).length=xs.length:=by rw[A1,B6];show E.size
 have un:Un (frs X.stack) [] H' (upd H' (s2.heap.objs.size+1)<|.lst (F.toList.map λi=>xs.getD i .non)) s2.heap O.heap:=by
  show{d.un.keep,d.un.slot,λb o e n _=>?_,d.un.there,λb xs e=>?_,λb o u e=>?_,λb ps e=>?_}
  .rw[aj<|C2 (F5<|B5 e)];show n
  .rw[aj<|ao e g];show e
  .rw[aj<|ao e g];show e
  .show{#[],by rw[aj<|ao e g,e];simp}
 have c7:HOk X.prog X.w (upd H' (s2.heap.objs.size+1)<|.lst (F.toList.map λi=>xs.getD i .non)) O.heap:=λb u e=>by
  by_cases j:b=s2.heap.objs.size+1
  .subst j;rw[ac]at e;cases e;show{by rw[d8,sizeLine_eq];lia,_,a5,oJ N F.toList λi hi=>(FW.mp<|E.perm.mem_iff.mp hi),a7}
  .rw[aj j]at e;show(d.hok b u e).stay (λ_ _ _ z=>z) (λc z=>by rw[aj<|ao z g];show z) λc xs z=>by rw[aj<|ao z g];show z
 show{.ref<|s2.heap.objs.size+1,_,(a.call' (s':=O) (ch:=[]) d.os un c7 d.bare λb z=>absurd z (by simp)),rfl,d9 _ _ (yK E) (DG E d3) g}
end
theorem Inv.freeze{X:Cx}{e:List _}{f:St}{H:Hp}{s:zn}{d:zv}{kvs:List _}(b:Inv X e f H s)(c:H d=some (.dK kvs)):∃o,Inv X e f (upd H d<|.frz o (.dK kvs)) s:=by
 let(m,k,vs,n,o,es,g,a,l,h,i,hp,j):=b.hok d _ c;show{o,b.write (by rw[c];trivial) (.inl rfl) (λ_ _ _ q=>q) ⟨o,a⟩ ⟨a,m,k,vs,n,o,es,g,a,l,h,i,hp,j⟩}
inductive tFrz(t:TS)(D:Ends)(σ:St)(H:Hp):Prop
 |mk d kvs (_:H d=some (.dK kvs)) (_:∀o,t D σ<|upd H d (.frz o<|.dK kvs))
theorem wc{X:Cx}{st:Stmt}{t:TS}(c:PS X st t):PS X st (tFrz t):=λpins s σ H a I ⟨d,kvs,h,e⟩=>by
 let(o,b):=I.freeze h;show c _ s σ _ a b<|e o
end L2
namespace TK
open PySem L2
section
variable{P:zi}{w:xr}{K:Frag}{mg:Str->Option zy}{base:qq}
inductive spPup(vs:List V)(H:Hp)(Q:VK)(E_:XK):Prop
 |mk d k zs p (_:vs=[.ref d,.int k]) (_:Nods H d zs) (_:At H zs) (_:TW.Tree1<|nds zs) (_:zs.length<=100) (_:TW.PathTo (nds zs) k p) (_:∀t H',Same H H'->H' t=some (.tup<|p.map V.str)->Q (.ref t) H')
theorem uD:FnScope ["nodes","number","names","at"] ["nodes","number"] (ak Ds):=fsc
theorem DI{f:zv}{B:xl}(F:Fun K "path_up" "path_up" Ds f B)(T:Txt mg):aE P w K mg base CX0 1 f B ["nodes","number"] spPup:=by
 let(a3,R):=T.top;show F.okA uD λcdv A outer s H vs Q E L h=>?_
 .let(d,k,zs,p,rfl,D,C,l,a0,hp,q):=h;have G:=bi l;have a1:p.length<=100:=by have:=hp.len l;rw[au]at this;lia
  show{_,af (ar (i:=2) uD.nd rfl (Or.inl rfl)<|cP ae) (af (ar (i:=3) uD.nd rfl (Or.inl rfl)<|pv 1)
   (af (qd PassesOwn.never (aq eG (pv 3) (ce (v:=.int 0) rfl R ⟨_,rfl⟩)<|av _)
    (af (aZ<|cE CW CP CS ck (pv 2) (aa (ixT K (cB (bv L) (pv 0) (pv 3) λ_ _=>rfl) ai) ae))
    (am<|ar (i:=3) uD.nd rfl (Or.inl rfl) (ixT K (cB (bv L) (pv 0) (pv 3) λ_ _=>rfl) ai))))
   (am<|ap (vJ rfl rfl T.tuple rfl T.reversed<|pv 2)))),{CI _,λa I=>{_,rfl,?_}}}
  dsimp only[cg,vb];show qf (λσ H'=>∃c o r,σ=[some<|.ref d,some<|.int k,some<|.ref a,some<|.int c]/\TW.PathTo (nds zs) c o/\p=o++r/\H' a=some (.lst<|r.reverse.map V.str)/\Same H H')
   (λσ H'=>p.length-jp H' a) {k,p,[],rfl,hp,by simp,ac,ag I} (λσ H' h=>?_) ?_
  .let(c,o,r,rfl,J,j,g,s1):=h;show{_,rfl,rfl,_,rfl,?_}
   by_cases x:c=0
   .subst x;have M:o=[]:=J.zero l rfl;subst M;show aM {_,rfl,a,_,rfl,g,λt W=>q t _ (s1.trans<|ag W) ?_};rw[ac,j,List.nil_append,<-List.map_reverse,List.reverse_reverse]
   .have S:decide (V.int c=V.int 0)=false:=by simp[x]
    rw[S];show cp ?_;let(z,n,N,X,u,U):=AI l J x;subst N;have a2:r.length<100:=by
     have:=congrArg length j;rw[u]at this;simp at this
     lia
    show{_,rfl,.inl ⟨rfl,_,SqL.of g⟩,_,rfl,_,rfl,d,_,rfl,((D.same s1).get G n),z.1,_,_,_,rfl,rfl,SqT.of<|s1 _ _ (C z n),at2 z.2,a,_,_,rfl,rfl,g,aU (by rw[A1,List.length_reverse];lia),?_};have y:Same H (upd H' a<|.lst (r.reverse.map V.str++[.str z.2.nm])):=aV I s1;show{_,rfl,_,rfl,d,_,rfl,(D.same y).get G n,z.1,_,_,_,rfl,rfl,SqT.of<|y _ _ (C z n),at1 z.2,{{z.2.par,X,z.2.nm::r,rfl,U,by rw[j,u];simp,by rw[ac];simp,y},?_}};change p.length-jp _ a<p.length-jp H' a;rw[fQ ac,fQ g,j,u];simp
    lia
  .rintro σ H1 Y Z m ⟨v,e,h2,b,O,q⟩;show{v,e,h2,b,O,m _ _ q}
end
theorem wd{α m:Type}{g:α->m}{l:List α}(c:(l.map g).Nodup){a b:α}(f:a∈l)(j:b∈l)(e:g a=g b):a=b:=by
 induction l with
 |nil=>cases f
 |cons x r k =>
  rw[CM,E7]at c;rcases B3.mp f with ea|h<;>rcases B3.mp j with d|i
  .rw[ea,d]
  .show absurd (A3.mpr {b,i,by rw[<-e,ea]}) c.1
  .show absurd (A3.mpr {a,h,by rw[e,d]}) c.1
  .show k c.2 h i
def yN(zs:ZN):List V:=zs.map λz=>V.int z.2.num
theorem bM{H a:Hp}{b:zv}{qual:Str}(h:dY H b qual)(s:Same H a):dY a b qual:=by
 let(ps,h1,h2,h3):=h;show{ps,s _ _ h1,h2,λpos d e=>let⟨c,f,g⟩:=h3 pos d e;⟨c,f,s _ _ g⟩}
section
variable{P:zi}{w:xr}{K:Frag}{mg:Str->Option zy}{base:qq}
def isF(z:zv×Nd):Bool:=z.2.st.isSome
inductive spFil(vs:List V)(H:Hp)(Q:VK)(E_:XK):Prop
 |mk t zs (_:vs=[.ref t]) (_:Tre H t zs) (_:∀l H',Same H H'->H' l=some (.lst<|aI (zs.filter isF))->Q (.ref l) H')
theorem FT:FnScope ["tree"] ["tree"] (ak iQ):=fsc
theorem DJ{f:zv}{c:xl}(F:Fun K "files_of" "files_of" iQ f c):aE P w K mg base CX0 1 f c ["tree"] spFil:=by
 show F.okA FT λcdv A outer s H vs Q E l h=>?_
 .let(t,zs,rfl,b,q):=h;have j:=b.len;show{_,am<|ap (cN lcS (bE<|pv 0) (λs H fp=>aq oZ (ixT K (pv 0) ai) cW<|av _) λs H fp=>pv 0),?_};show{_,rfl,t,rfl,⟨_,SqT.of b.tup⟩,λp hp=>?_};show cZ (fr:=[]) zs (λz=>V.ref z.1) (by lia) hp (bx (by rw[aN];show SqT.of b.tup)) rfl isF (λz y _=>y=.ref z.1) (λ_ _ _ _ h _=>h) (λz H' k d s1 _ a=>?_) (λz H' k d _ s1 _ a=>{_,rfl,a _ H' (Same.refl _) rfl}) λys H' s1 g i=>q p H' s1 (by rw[g,aG (f:=λz:zv×Nd=>V.ref z.1) i λz y _ h=>h,aN]);show{_,rfl,z.1,_,_,_,rfl,rfl,SqT.of<|s1 _ _ (b.nod z d),at3 z.2,rfl,_,rfl,?_};have e:(!decide (stV z.2.st=V.non))=isF z:=by
   unfold isF;cases z.2.st<;>simp[stV]
  rw[<-e]at a;show a H'<|Same.refl _
def inS(a b:Int)(z:zv×Nd):Bool:=match z.2.st with
 |some i=>decide (a<=i)&&decide (i<=b)
 |none=>false
inductive spSta(vs:List V)(H:Hp)(Q:VK)(E_:XK):Prop
 |mk t zs a b (_:vs=[.ref t,.int a,.int b]) (_:Tre H t zs) (_:∀l H',Same H H'->H' l=some (.lst<|yN ((zs.filter isF).filter (inS a b)))->Q (.ref l) H')
theorem FU:FnScope ["tree","low","high"] ["tree","low","high"] (ak kd):=fsc
theorem DK{f:zv}{m:xl}(F:Fun K "stamped" "stamped" kd f m)(o:Has P w K mg base 1 "files_of" ["tree"] spFil):aE P w K mg base CX0 2 f m ["tree","low","high"] spSta:=by
 show F.okA FU λcdv A outer s H vs Q E u h=>?_
 .let(t,zs,a,b,rfl,g,q):=h;have D:=g.len;show{_,am<|ap (cN (fs:=["high","low"]) (js:=[2,1]) lcF (bw<|aw o u (aa (pv 0) ae))
    (λs H fp=>lG kF kF (pv 2) (ixT K (pv 0) ai)<|pv 1) (λs H fp=>ixT K (pv 0) ai)),?_}
  show{_,rfl,t,zs,rfl,g,λl H1 s1 n=>?_};have G:(zs.filter isF).length<=zs.length:=D0 _ _;show{l,rfl,⟨_,SqL.of n⟩,λp hp=>?_};show cZ (fr:=[some<|.int b,some<|.int a]) (zs.filter isF) (λz=>V.ref z.1) (by lia) hp (cr (by rw[aN];show SqL.of n)) rfl (inS a b) (λz y _=>y=.int z.2.num) (λ_ _ _ _ h _=>h) (λz H' k j d _ c=>?_) (λz H' k j _ d _ c=>?_) λys H' d r v=>q p H' (s1.trans d) (by rw[r,aG (f:=λz:zv×Nd=>V.int z.2.num) v λz y _ h=>h];rfl)
  .let(B,C):=CF.mp j;obtain⟨i,hi⟩:∃i,z.2.st=some i:=isSome_iff_exists.mp C;have x:atI (vals z.2) 3=some (.int i):=by rw[at3,hi];rfl
   show{_,rfl,_,rfl,z.1,_,_,_,rfl,rfl,SqT.of<|d _ _ (s1 _ _<|g.nod z B),x,_,_,rfl,rfl,_,rfl,?_};have e:inS a b z=(decide (a<=i)&&decide (i<=b)):=by unfold inS;rw[hi]
   rw[e]at c
   by_cases h1:a<=i
   .rw[C7 h1]at c|-;rw[Bool.true_and]at c;show cp {_,rfl,_,_,rfl,rfl,_,rfl,c H'<|Same.refl _}
   .rw[B9 h1]at c|-;show aM {_,rfl,c H'<|Same.refl _}
  .show{_,rfl,z.1,_,_,_,rfl,rfl,SqT.of<|d _ _ (s1 _ _<|g.nod z (CF.mp j).1),at0 z.2,c _ H' (Same.refl _) rfl}
end
end TK
namespace L2
open PySem PySem.Spec PyProof.Rows
theorem we(a d:zy):argsOk "max" {[a],[(ofString "default",d)]}:=by unfold argsOk;kernel_rfl
section
variable{P:zi}{w:xr}{A:xx}{s:zn}{l I S:zv}{ns:List Int}{its:List zy}
theorem wf(D:A.handled=none)(a2:s.heap.IsList l its.toArray)(N:aB (ns.map V.int) its)(c5:ns.Pairwise (· < ·))(G:l≠I)(T:s.heap.objs.size<=I)(Y:s.heap.objs.size<=S)(u:S≠I){c1:List (Str×zy)}{R:Result->zn->Prop}(X:∀b t h tk,ns[ns.length-1]?=some b->(∀x o,s.heap.get? x=some o->h.get? x=some o)->R (.ok<|.ret (.int b t)) {s with heap:=h,toks:=tk}):
  ∀(r j:Nat)(h:qq)(tk:Nat)(b:Int)(tb:Tok)(c:Nat),ns.length-(j+1)=r->j+1<=ns.length->(∀x o,s.heap.get? x=some o->h.get? x=some o)->h.get? S=some (seqObj "list" #[.int b tb,.int b tb] c)->h.IsListIter I l (j+1)->ns[j]?=some b ->
   codeAny (model P w) A (.builtin "max.loop" {[.ref I,.none,.ref S],c1}) R {s with heap:=h,toks:=tk}:=by
 have a4:(toString "max"++toString ".loop":String)="max.loop":=by decide
 have a3:its.length=ns.length:=by rw[<-N.length,A1]
 have J:its.toArray.size=ns.length:=by rw[B2];show a3
 have L:∀{h h':qq},(∀x o,s.heap.get? x=some o->h.get? x=some o)->(∀b o,b∉[I]->h.get? b=some o->h'.get? b=some o)->∀x o,s.heap.get? x=some o->h'.get? x=some o:=λk b3 x o e=>b3 x o (by simpa using C2 (C5 (B5 e) T))<|k x o e
 have M:∀{h:qq}{g:Array zy->Array zy},(∀x o,s.heap.get? x=some o->h.get? x=some o)->∀x o,s.heap.get? x=some o->(h.update S<|Obj.mapSeq g).get? x=some o:=λ{h g} k x o e=>((CA h S<|Obj.mapSeq g).2 x (C2<|C5 (B5 e) Y)).trans (k x o e);have H:∀{h:qq},(∀x o,s.heap.get? x=some o->h.get? x=some o)->h.IsList l its.toArray:=λk=>let⟨o,e,r⟩:=a2;⟨o,k _ _ e,r⟩;intro r
 induction r with
 |zero =>
  intro j h tk b tb c a8 a1 f m z y;have E:j+1=ns.length:=by lia
  have W:=Walks.list (prog:=P) (w:=w) (A:=A.in1) D I l G its.toArray;show codeAny_builtin entry_max_loop ?_;rw[Around.under_plainId plain_max_loop _];change wpAny _ A.in1 (seqItems? (.ref S) >>= _) _ _ _;show Wb<|wpAny_seqItems m rfl ?_;change wpAny _ A.in1 (tryCatch (pyNext<|.ref I) _ >>= _) _ _ _;show Wb<|wpAny_tryCatch (W.done _ _ _ {by rw[J,<-E];show z,H f} λh' c4 d=>?_);have n:=d S _ (by simpa using u) m;change wpAny _ A.in1 (updateSeq S (λ_=>#[]) >>= _) _ _ _;show Wb ?_;show wpAny_updateSeq n rfl<|Wb (wpAny_letGo<|Wp ?_);show X b tb _ _ (by rw[<-E];show y)<|M (L f d)
 |succ r b2 =>
  intro j h tk b tb c a8 a1 f m z y;have p:j+1<ns.length:=by lia
  have W:=Walks.list (prog:=P) (w:=w) (A:=A.in1) D I l G its.toArray;show codeAny_builtin entry_max_loop ?_;rw[Around.under_plainId plain_max_loop _];change wpAny _ A.in1 (seqItems? (.ref S) >>= _) _ _ _;show Wb<|wpAny_seqItems m rfl ?_;change wpAny _ A.in1 (tryCatch (pyNext<|.ref I) _ >>= _) _ _ _;show Wb<|wpAny_tryCatch (W.item (j+1) _ _ _ (by rw[J];show p) ⟨z,H f⟩ λv h' c4 U a9 d=>?_);have b1:its[j+1]?=some v:=by simpa using U
  have B:ns[j+1]?=some ns[j+1]:=A2 p;have C:ns[j+1]>b:=by
   have:=D2.mp c5 j (j+1) (by lia) p<|lt_succ_self j
   rwa [(A9.mp y).2]at this
  let(c6,K,t2,Q):=N.get (i:=j+1) (x:=.int ns[j+1]) (by rw[B7,B];rfl);have O:v=.int ns[j+1] t2:=by rw[b1]at K;rw[<-Q];show Option.some.inj K
  subst O;generalize ns[j+1]=a at B C;let(c2,a5,a6,a7):=id a9.1;have n:=d S _ (by simpa using u) m;have c0:=L f d;change wpAny _ A.in1 ((pure (Value.int a t2):Sem zy) >>= _) _ _ _;show Wb<|Wp ?_;change wpAny _ A.in1 (tryCatch (holding [.int a t2,.int a t2]<|richCompare .Gt (.int a t2) (.int b tb) >>= _) _ >>= _) _ _ _;show Wb<|wpAny_tryCatch (wpAny_holding<|Wb (CmpOf.ints_gt (prog:=P) (w:=w) (A:=A.in1) (P:=λi v=>∃t,v=.int (if i=0 then a else b) t) (λi=>if i=0 then a else b) (λi v h=>h) 0 1 _ _ _ _ _ ⟨t2,rfl⟩ ⟨tb,rfl⟩ ?_));show Wb<|wpAny_holding (wpAny_truthy_bool ?_);show Wb<|wpAny_letGo (Wp ?_);have c3:=CA h' S<|Obj.mapSeq λ_=>#[.int a t2,.int a t2];obtain⟨q,Z⟩:∃q,(h'.update S<|Obj.mapSeq λ_=>#[.int a t2,.int a t2]).get? S=some (seqObj "list" #[.int a t2,.int a t2] q):={_,get?_update_seq n λ_=>#[.int a t2,.int a t2]};have a0:((λi j:Nat=>decide<|(if i=0 then a else b)>(if j=0 then a else b)) 0 1)=true:=C7 (by simpa using C);rw[A6 a0];show Wb ?_;show wpAny_updateSeq n rfl<|Wb (wpAny_letGo ?_);rw[a4];show Wp {plainId_quiet plain_max_loop _,b2 (j+1) _ _ a t2 q (by lia) p (M c0) Z {c2,(c3.2 I u.symm).trans a5,a6,a7} B}
end
def BR(a:TE)(c:St)(Q:VK):List V->Hp->Prop
 |[v],H1=>∃l b,∃ns:List Int,v=.ref l/\H1 l=some (.lst<|ns.map V.int)/\ns.Pairwise (· < ·)/\ns[ns.length-1]?=some b/\a c H1 λd H2=>H2 l=some (.lst<|ns.map V.int)/\Q (.int b) H2
 |_,_=>False
def FV(b a:TE):TE:=λσ H Q=>b σ H λv H1=>BR a σ Q [v] H1
section
variable{X:Cx}
theorem AZ{p V pos:Pos}{e j:Expr}{T B:TE}(a4:X.calm=true)(a7:Gl X "max")(b2:X.mg "max"=none)(a6:PE X e T)(a5:PE X j B)(O:starEach [e] X.env=(false,eval e X.env)::starEach [] X.env:=by rfl)(c2:(backTo pos<|starEach [e] X.env).any (·.1)=false:=by rfl):
  PE X (.Call (.Name "max" p) [e] [{some "default",j,V}] pos) (FV T B):=by
 intro pins s σ H Q I h;show wpAny_Call_Name_kw<|fe I a7 b2 boot_max ?_ (by decide) (by decide);show callWith_kw ?_ (by rw[O];rfl) c2 rfl rfl;show thn (aa a6 ae O pos pins s σ H (BR B σ Q) I h) λus s1 c3=>?_;let(vs,H1,U,r,R):=c3;obtain⟨v,rfl⟩:∃v,vs=[v]:=by
  match vs,R with
  |[v],_=>show⟨v,rfl⟩
 let(l,b,ns,rfl,d6,d4,G,q):=R;let(u,rfl,d3):=cD r;cases d3;change wpAny _ _ (evalAll [(do let v <- eval j X.env;standAt pos;pure v)]) _ _ s1;show wpAny_evalAll_cons<|Wb (thn (a5 _ s1 σ H1 _ U q) λd a ⟨d5,H2,f,d7,a8,d2⟩=>Wb<|wpAny_standAt (Wp<|wpAny_evalAll_nil ?_));change wpAny _ _ (call (.builtin "max") [.ref l] [("default",d)]) _ _ a;have M:(toString "max"++toString ".loop":String)="max.loop":=by decide
 have J:=f.ok.hd a4;let(_,its,n,z,N):=f.hok l _ a8;have y:a.heap.IsList l its.toArray:=⟨_,N,rfl,n,rfl⟩;have b1:l<a.heap.objs.size:=B5 N;show kmk_tree PySem.F.kind_max PySem.F.plain_max PySem.F.entry_max (we _ _) ?_;change wpAny _ X.A.in1 (Builtin.Builtins.bindParams "max" ["key","default"] 0 {[],[(ofString "default",d)]} >>= _) _ _ a;show Wb<|wpAny_of_eq (show Builtin.Builtins.bindParams "max" ["key","default"] 0 {[],[(ofString "default",d)]}=pure [none,some d]from rfl) ?_;show Wb<|Wp ?_;show Wb<|wpAny_pyIter_list y ?_;show Wb<|wpAny_newList ?_ (CI _);rw[M];have D:(a.heap.push {cls:=.type "list_iterator",data:=.fields #[.ref l,.int 0 0]}).objs.size=a.heap.objs.size+1:=size_push' ..;rw[D];have a0:((a.heap.push {cls:=.type "list_iterator",data:=.fields #[.ref l,.int 0 0]}).push (seqObj "list" #[] 0)).get? a.heap.objs.size=some {cls:=.type "list_iterator",data:=.fields #[.ref l,.int 0 0]} :=
  A0 _ (A5 _ rfl)
 have C:((a.heap.push {cls:=.type "list_iterator",data:=.fields #[.ref l,.int 0 0]}).push (seqObj "list" #[] 0)).get? (a.heap.objs.size+1)=some (seqObj "list" #[] 0):=by
  rw[<-D];show A5 _ rfl
 have c9:∀b o,a.heap.get? b=some o->((a.heap.push {cls:=.type "list_iterator",data:=.fields #[.ref l,.int 0 0]}).push (seqObj "list" #[] 0)).get? b=some o:=λb o e=>A0 _<|A0 _ e;have L:l≠a.heap.objs.size:=C2 b1;have m:a.heap.objs.size+1≠a.heap.objs.size:=F8<|lt_succ_self _;show Wp {plainId_quiet plain_max_loop _,?_};have W:=Walks.list (prog:=X.prog) (w:=X.w) (A:=X.A.in1) J a.heap.objs.size l L its.toArray;have a9:its.length=ns.length:=by rw[<-z.length,A1]
 have c6:its.toArray.size=ns.length:=by rw[B2];show a9
 show codeAny_builtin entry_max_loop ?_;rw[Around.under_plainId plain_max_loop _];change wpAny _ X.A.in1 (seqItems? (.ref _) >>= _) _ _ _;show Wb<|wpAny_seqItems C rfl ?_;change wpAny _ X.A.in1 (tryCatch (pyNext<|.ref a.heap.objs.size) _ >>= _) _ _ _;have c4:((a.heap.push {cls:=.type "list_iterator",data:=.fields #[.ref l,.int 0 0]}).push (seqObj "list" #[] 0)).IsListIter a.heap.objs.size l 0/\((a.heap.push {cls:=.type "list_iterator",data:=.fields #[.ref l,.int 0 0]}).push (seqObj "list" #[] 0)).IsList l its.toArray:={⟨_,a0,rfl,rfl⟩,(y.push _).push _};have d0:∀{h':qq},(∀b o,b∉[a.heap.objs.size]->((a.heap.push {cls:=.type "list_iterator",data:=.fields #[.ref l,.int 0 0]}).push (seqObj "list" #[] 0)).get? b=some o->h'.get? b=some o)->∀b o,a.heap.get? b=some o->h'.get? b=some o:=λk b o e=>k b o (by simpa using C2 (B5 e))<|c9 b o e
 cases ns with
 |nil=>cases G
 |cons c e0 =>
  show Wb<|wpAny_tryCatch (W.item 0 _ _ _ (by rw[c6];simp) c4 λv h' d8 a1 c5 K=>?_);have c7:its[0]?=some v:=by simpa using a1
  let(d9,P,t2,Z):=z.get (i:=0) (x:=.int c) rfl;have Y:v=.int c t2:=by rw[c7]at P;rw[<-Z];show Option.some.inj P
  subst Y;let(d1,b3,c0,c1):=id c5.1;have E:=K (a.heap.objs.size+1) _ (by simpa using m) C;change wpAny _ X.A.in1 ((pure (Value.int c t2):Sem zy) >>= _) _ _ _;show Wb<|Wp ?_;have S:=CA h' (a.heap.objs.size+1)<|Obj.mapSeq λ_=>#[.int c t2,.int c t2];obtain⟨g,a3⟩:∃g,(h'.update (a.heap.objs.size+1)<|Obj.mapSeq λ_=>#[.int c t2,.int c t2]).get? (a.heap.objs.size+1)=some (seqObj "list" #[.int c t2,.int c t2] g):={_,get?_update_seq E λ_=>#[.int c t2,.int c t2]};change wpAny _ X.A.in1 (updateSeq (a.heap.objs.size+1) (λ_=>#[.int c t2,.int c t2]) >>= _) _ _ _;show Wb ?_;show wpAny_updateSeq E rfl ?_;rw[M];show Wp {plainId_quiet plain_max_loop _,wf (s:=a) J y z d4 L (A8 _) (le_succ _) m (λb t h tk a2 c8=>{.int b,H2,f.kept (t':=tk) c8,⟨t,rfl⟩,by rw[Option.some.inj<|a2.symm.trans G];show d2}) _ 0 _ _ c t2 g rfl (by simp) (λb o e=>(S.2 b<|C2 (F5<|B5 e)).trans (d0 K b o e)) a3 {d1,(S.2 _ m.symm).trans b3,c0,c1} rfl}
end
def FX(K:Frag)(H:Hp)(a:zv)(J:It):Prop:=((∃xs,SqT K H a xs)/\J=Itt K a)\/((∃xs,SqL K H a xs)/\J=Itl K a)
def iSq(K:Frag)(c:TE):TI:=λσ H R=>c σ H λx H1=>∃a b,x=.ref a/\FX K H1 a b/\R b H1
theorem FY{X:Cx}{t l:Expr}{g:TE}(i:PE X l g):PI X t l (iSq X.K g):=by
 intro pins s σ H R I h;show thn (i pins s σ H _ I h) λv s1 j=>?_;let(x,H1,c,n,m):=j;let(a,u,rfl,d,q):=m;cases n;have f:∀b∈[s1.heap.objs.size],_:=λb f=>by
  obtain rfl:b=s1.heap.objs.size:=by simpa using f
  show c.fpOk (A8 _)<|c.hok.fresh (A8 _)
 rcases d with⟨⟨xs,d⟩,rfl⟩|⟨⟨xs,d⟩,rfl⟩
 .let(its,r,p,k):=c.tuple d;show wpAny_pyIter_tuple (show s1.heap.IsTuple a its.toArray from p) {s1.heap.objs.size,[s1.heap.objs.size],_,_,H1,rfl,c.kept (t':=s1.toks) λb o e=>A0 _ e,lF a _,{_,A5 _ rfl,rfl,rfl},f,q}
 .let(its,r,p,k):=c.list d;show wpAny_pyIter_list p.isList {s1.heap.objs.size,[s1.heap.objs.size],_,_,H1,rfl,c.kept (t':=s1.toks) λb o e=>A0 _ e,nA a _,{_,A5 _ rfl,rfl,rfl},f,q}
theorem DM{K:Frag}{H:Hp}{a:zv}{xs:List V}(h:H a=some (.tup xs)\/H a=some (.lst xs)):∃J,FX K H a J/\Src J H xs:=by
 rcases h with h|h
 .show{_,.inl ⟨⟨_,SqT.of h⟩,rfl⟩,bx<|SqT.of h}
 .show{_,.inr ⟨⟨_,SqL.of h⟩,rfl⟩,cr<|SqL.of h}
end L2
namespace TW
section
variable{S:Type}
def grN(k g:Int)(n:Nd S):Nd S:={n.num+g,if n.par=0 then k else n.par+g,n.nm,n.st}
section
variable{t u:List (Nd S)}{k g:Int}
theorem gD{t:List (Nd S)}(T:Tree1 t){n:Nd S}(a:n∈t):n.par=0\/∃m∈t,m.num=n.par:=by
 have:=T.down n a;cases this with
 |base _ e=>show .inl e
 |@step m _ hr _ _ e=>show .inr ⟨m,hr.mem,e.symm⟩
theorem wg(T:Tree1 t)(d:Tree1 u)(B:Fold t k)(v:∀n∈t,n.num<=g)(D:0<=g):bY (t++u.map (grN k g))↔∀m∈u,m.par=0->∀n∈t,n.par=k->n.nm≠m.nm:=by
 have E:k<=g:=by
  rcases B with e|⟨m,c,_,e⟩
  .lia
  .have:=v m c;lia
 unfold bY Nodup;rw[CG,pairwise_append];constructor
 .rintro⟨_,_,h⟩ m c e n j i w;show h (n.par,n.nm) (A3.mpr ⟨n,j,rfl⟩) ((grN k g m).par,(grN k g m).nm) (A3.mpr ⟨_,A3.mpr ⟨m,c,rfl⟩,rfl⟩) ?_;change(n.par,n.nm)=(if m.par=0 then k else m.par+g,m.nm);rw[A6 e,i,w]
 .intro h;show{T.own,?_,λa p b q e=>?_}
  .have s:=d.own;unfold bY Nodup at s;rw[A7,C0];rw[C0]at s;show s.imp_of_mem λ{a b} p q A e=>A ?_;have f:(if a.par=0 then k else a.par+g)=(if b.par=0 then k else b.par+g):=congrArg Prod.fst e;have i:a.nm=b.nm:=congrArg Prod.snd e;have G:a.par=0\/1<=a.par:=(gD d p).imp id λ⟨m,c,e⟩=>by have:=d.pos m c;lia
   have H:b.par=0\/1<=b.par:=(gD d q).imp id λ⟨m,c,e⟩=>by have:=d.pos m c;lia
   have y:a.par=b.par:=by
    by_cases l:a.par=0<;>by_cases o:b.par=0
    .rw[l,o]
    .rw[A6 l,A4 o]at f;lia
    .rw[A4 l,A6 o]at f;lia
    .rw[A4 l,A4 o]at f;lia
   change(a.par,a.nm)=(b.par,b.nm);rw[y,i]
  .let(n,j,rfl):=A3.mp p;let(F,C,rfl):=A3.mp q;let(m,c,rfl):=A3.mp C;have f:n.par=(if m.par=0 then k else m.par+g):=congrArg Prod.fst e;have i:n.nm=m.nm:=congrArg Prod.snd e
   by_cases z:m.par=0
   .rw[A6 z]at f;show h m c z n j f i
   .rw[A4 z]at f;have h1:n.par<=g:=by
     rcases gD T j with e|⟨x,r,e⟩
     .lia
     .have:=v x r;lia
    rcases gD d c with e|⟨x,r,e⟩
    .show z e
    .have:=d.pos x r;lia
theorem Ba(T:Tree1 t)(b:Tree1 u)(p:Fold t k)(o:∀n∈t,n.num<=g)(v:0<=g)(c:bY<|t++u.map (grN k g)):Tree1 (t++u.map (grN k g)):=by
 have key:∀n,n∈u->grN k g n∈t++u.map (grN k g):=λn h=>CH _<|A3.mpr ⟨n,h,rfl⟩;show{{?_,c,λn f=>?_},λn f=>?_}
 .unfold bV;rw[pairwise_append];show{T.rise,?_,λx d y hy=>?_}
  .rw[C0];show b.rise.imp λh=>by change _+g<_+g;lia
  .let(z,s,rfl):=A3.mp hy;have:=o x d;have:=b.pos z s;change x.num<z.num+g
   lia
 .rcases C6.mp f with h|h
  .show(T.down n h).mono λx d=>CT _ d
  .let(m,a,rfl):=A3.mp h;have i:=b.down m a;clear f h a
   induction i with
   |@base n a c =>
    have e:(grN k g n).par=k:=by change(if n.par=0 then k else n.par+g)=k;rw[A6 c]
    rcases p with j|⟨m,q,r,l⟩
    .show .base (key n a) (by rw[e,j])
    .show .step ((T.down m q).mono λx d=>CT _ d) r (key n a) (by rw[e,l])
   |@step m n i hf a c ih =>
    show .step ih hf (key n a) ?_;have h1:=b.pos m i.mem;change(if n.par=0 then k else n.par+g)=m.num+g;rw[A4 (by lia),c]
 .rcases C6.mp f with h|h
  .show T.pos n h
  .let(m,a,rfl):=A3.mp h;have:=b.pos m a;change 1<=m.num+g
   lia
end
theorem DN{t:List (Nd S)}(T:Tree1 t)(k:Int):km (woT t k) k=[]:=by
 have:∀n,n∉km (woT t k) k:=λn c=>by
  let(m,a,_):=dG.mp c;have b:=(dX.mp a.mem).2;show b<|a.mono λx d=>(dX.mp d).1
 show List.eq_nil_iff_forall_not_mem.mpr this
end
end TW
namespace TK
open PySem L2
def nums(zs:ZN):List Int:=zs.map λz=>z.2.num
theorem lx{zs:ZN}(T:TW.Tree1<|nds zs):(nums zs).Pairwise (· < ·):=by
 have:=T.rise;unfold TW.bV nds at this;unfold nums;rw[C0]at this|-;show this
theorem fV{ms:List Int}(h:ms.Pairwise λa b=>a<b):ms.Nodup:=h.imp λh e=>by lia
def isB(zs:ZN)(k:Int)(z:zv×Nd):Bool:=@decide (TW.Reach (nds zs) k z.2)<|Classical.propDecidable _
theorem uE{zs:ZN}{k:Int}{z:zv×Nd}:isB zs k z=true↔TW.Reach (nds zs) k z.2:=@decide_eq_true_iff _<|Classical.propDecidable _
def bel(zs:ZN)(k:Int):ZN:=zs.filter<|isB zs k
theorem uF{zs:ZN}{k:Int}{z:zv×Nd}(h:z∈bel zs k):z∈zs:=(CF.mp h).1
theorem uG(zs:ZN)(k:Int):(bel zs k).length<=zs.length:=D0 _ _
def reN(g:Int->Int)(n:Nd):Nd:=⟨g n.num,g n.par,n.nm,n.st⟩
section
variable{P:zi}{w:xr}{K:Frag}{mg:Str->Option zy}{base:qq}
inductive spGre(vs:List V)(H:Hp)(Q:VK)(E_:XK):Prop
 |mk t zs b (_:vs=[.ref t]) (_:Tre H t zs) (_:(nums zs)[(nums zs).length-1]?=some b) (_:∀H',Same H H'->Q (.int b) H')
theorem FZ:FnScope ["tree"] ["tree"] (ak di):=fsc
theorem DO{f:zv}{d:xl}(F:Fun K "greatest_number" "greatest_number" di f d)(T:Txt mg):aE P w K mg base CX0 1 f d ["tree"] spGre:=by
 show F.okA FZ λcdv A outer s H vs Q E m h=>?_
 .let(t,zs,b,rfl,a,g,q):=h;have l:=a.len;show{_,am<|ap (AZ rfl rfl T.max (bH lcS (bE<|pv 0) λs H fp=>ixT K (pv 0) ai) ai),?_};show{_,rfl,t,rfl,⟨_,SqT.of a.tup⟩,λp hp=>?_};show bq (fr:=[]) zs (λz=>V.ref z.1) (by lia) hp (bx (by rw[aN];show SqT.of a.tup)) rfl (λz y _=>y=.int z.2.num) (λ_ _ _ _ h _=>h) (λz H' n k s1 _ i=>?_) (λys H1 s1 c j=>?_)
  .show{_,rfl,z.1,_,_,_,rfl,rfl,SqT.of<|s1 _ _ (a.nod z k),at0 z.2,i _ H' (Same.refl _) rfl}
  .have e:ys=(nums zs).map V.int:=by rw[aG (f:=λz:zv×Nd=>V.int z.2.num) j λz y _ h=>h];unfold nums;rw[A7];rfl
   rw[e]at c;show{p,b,nums zs,rfl,c,lx a.tr,g,c,q H1 s1}
inductive spWNu(vs:List V)(H:Hp)(Q:VK)(E_:XK):Prop
 |mk t d zs kvs g (_:vs=[.ref t,.ref d]) (_:H t=some (.tup<|aI zs)\/H t=some (.lst<|aI zs)) (_:At H zs) (_:zs.length<=60) (_:H d=some (.dK kvs)) (_:∀z∈zs,bu kvs (Sum.inl z.2.num:Key)=some (.int<|g z.2.num)/\bu kvs (Sum.inl z.2.par:Key)=some (.int<|g z.2.par)) (_:(zs.map λz=>g z.2.num).Nodup)
  (_:∀us t' H',Same H H'->H' t'=some (.tup<|aI us)->At H' us->(nds us).Perm ((nds zs).map (reN g))->TW.bV (nds us)->Q (.ref t') H')
theorem Ga:FnScope ["tree","numbers"] ["tree","numbers"] (ak eO):=fsc
theorem DP{f:zv}{v:xl}(F:Fun K "with_numbers" "with_numbers" eO f v)(T:Txt mg):aE P w K mg base CX0 1 f v ["tree","numbers"] spWNu:=by
 show F.okA Ga λcdv A outer s H vs Q E D h=>?_
 .let(t,d,zs,kvs,g,rfl,b2,Y,c3,a2,a3,a5,q):=h;show{_,am<|ap (aD aS rfl T.tuple rfl<|aa (ay cY rfl T.sorted Ee<|aa (bH (fs:=["numbers"]) (js:=[1]) lcF (FY<|pv 0)
    (λs H fp=>aO (r:=rCatT K) ij (aK<|aa (cB (bv D) (pv 1) (ixT K (pv 0) ai) λ_ _=>rfl) (aa (cB (bv D) (pv 1) (ixT K (pv 0) ai) λ_ _=>rfl) ae))<|cH (r:=rSlT K) lL (pv 0) (cX ai) dR)) ae) ae),?_}
  let(L,a0,S):=DM (K:=K) b2;show{_,rfl,t,L,rfl,a0,λp hp=>?_};show bq (fr:=[some<|.ref d]) zs (λz=>V.ref z.1) (by lia) hp (by rw[aN];show S) rfl (λz y H'=>∃q,y=.ref q/\q≠p/\H' q=some (.tup<|vals (reN g z.2))) (λz y H H' ⟨q,e,I,h⟩ ex=>⟨q,e,I,ex q _ I h⟩) (λz H' k G s1 a7 a4=>?_) λys H' s1 a6 c0=>?_
  .let(W,X):=a3 z G;have B:=s1 _ _ a2;have j:=s1 _ _<|Y z G;have M:dM H' d (.int z.2.num) (some<|.int (g z.2.num)):=by rw[<-W];show dM.k (k:=Sum.inl z.2.num) B
   have N:dM H' d (.int z.2.par) (some<|.int (g z.2.par)):=by rw[<-X];show dM.k (k:=Sum.inl z.2.par) B
   show{_,rfl,_,rfl,z.1,_,_,_,rfl,rfl,SqT.of j,at0 z.2,d,_,rfl,M,?_};show{_,rfl,_,rfl,z.1,_,_,_,rfl,rfl,SqT.of j,at1 z.2,d,_,rfl,N,le2,λc a1=>?_};have i:=ag (o:=.tup [.int<|g z.2.num,.int<|g z.2.par]) a1;have U:iu (vals z.2) (some 2) none=[.str z.2.nm,stV z.2.st]:=rfl;show{_,rfl,_,rfl,z.1,_,rfl,SqT.of<|i _ _ j,(by intro h;show absurd h.1 (show ¬HT.sIx 4 0 (some 2)=0 by decide)),λm b=>?_};rw[U];have J:=i.trans<|ag (o:=.tup [.str z.2.nm,stV z.2.st]) b;show{c,m,_,_,rfl,rfl,SqT.of<|bh b ac,SqT.of ac,by simp,(show 4<=sizeLine from aF (by decide)),λh=>absurd h<|cons_ne_nil _ _,λ_ q C=>?_};show a4 _ _ (J.trans<|ag C) {q,rfl,fi (let⟨ys,e⟩:=a7;⟨ys,J _ _ e⟩) C,ac}
  .let(a,n,O,R):=dD (val:=V.ref) (S:=λ(z:zv×Nd) (q:zv)=>H' q=some (.tup<|vals (reN g z.2))) c0 λz y _ ⟨q,e,_,h⟩=>⟨q,e,h⟩;have u:nds (a.map λx=>(x.2,reN g x.1.2))=(nds zs).map (reN g):=by rw[<-n];unfold nds;rw[A7,A7,A7];rfl
   have c2:a.length=zs.length:=by rw[<-n,A1]
   have b1:SqL K H' p (aI<|a.map λx=>(x.2,reN g x.1.2)):=SqL.of (by rw[a6,O,<-aN,A7];rfl);show kN (K:=K) (H:=H') (l:=p) (zs:=a.map λx=>(x.2,reN g x.1.2)) (Q:=Q) (.inl b1) (λz c1=>?_) ?_ (by rw[A1];lia) λus m H2 i b Z a8 a9=>?_
   .let(x,b3,rfl):=A3.mp c1;show R x b3
   .rw[u,A7];unfold nds;rw[A7];show a5
   .show q us m H2 (s1.trans i) b Z (by
     have:(nds us).Perm (nds<|a.map λx=>(x.2,reN g x.1.2)):=a8.map _
     rwa [u]at this) a9
def inK(ms:List Int):List (Key×V):=ms.map λm=>((Sum.inl m:Key),V.bl true)
inductive spInn(vs:List V)(H:Hp)(Q:VK)(E_:XK):Prop
 |mk t k zs (_:vs=[.ref t,.int k]) (_:Tre H t zs) (_:Fold zs k) (_:∀(ms:List Int) d H',Same H H'->H d=none->H' d=some (.dK<|inK ms)->ms.Nodup->ms.length<=zs.length->(∀x,x∈ms↔∃n∈nds zs,n.num=x/\TW.Reach (nds zs) k n)->Q (.ref d) H')
theorem Gb:FnScope ["tree","number"] ["tree","number"] (ak dN):=fsc
theorem DQ{f:zv}{i:xl}(F:Fun K "inner_numbers" "inner_numbers" dN f i)(T:Txt mg)(y:Has P w K mg base 1 "by_number" ["tree"] spByn)(B:Has P w K mg base 2 "check_folder" ["nodes","number"] spCFk)(C:Has P w K mg base 2 "below" ["tree","number"] spBel):aE P w K mg base CX0 3 f i ["tree","number"] spInn:=by
 show F.okA Gb λcdv A outer s H vs Q E c h=>?_
 .let(t,k,zs,rfl,a,b,q):=h;have S:Room 1 _:=c.mono (by decide);have a1:=a.len;have r:=bi a.tr;show{_,af (aZ<|aw B c (aa (aw y S<|aa (pv 0) ae)<|aa (pv 1) ae))
   (am<|ap (aD (cx rfl) rfl T.dict boot_dict<|aa (bH lcS (bw<|aw C c (aa (pv 0)<|aa (pv 1) ae))
    (λs H fp=>aK<|aa (pv 0) (aa kD ae))) ae)),?_}
  show{_,rfl,t,zs,rfl,a.tup,a.nod,by lia,r,λd H1 s1 X=>{_,rfl,d,k,zs,rfl,X,a.nod.same s1,r,b,?_}};show{_,rfl,_,rfl,t,k,zs,rfl,a.same s1,b.imp id λ⟨z,W,e,_⟩=>⟨z,W,e⟩,λms l H2 Y o N M n=>?_};show{l,rfl,⟨_,SqL.of n⟩,λp hp=>?_};show bq (fr:=[]) ms V.int (by lia) hp (cr<|SqL.of n) rfl (CpR (λm=>Sum.inl m) (λ_=>.bl true) p) (λ_ _ _ _ h e=>h.ext e) (λm H' k _ x R b=>{_,rfl,le2,λq u=>b _ _ (ag u)<|CpR.new R u}) λys Z x O U=>?_;let(L,D,G,a0,I,J):=CpR.dct O U;have v:=(s1.trans Y).trans x;show{p,L,rfl,D,G,by lia,by rw[I];show gC<|fV o,λg j=>?_};rw[J];show q ms g _ (v.trans<|ag j) (v.free j) ac (fV o) N M
end
def idK(ms:List Int):List (Key×V):=ms.map λm=>((Sum.inl m:Key),V.int m)
theorem uH{H:Hp}{d:zv}{ms:List Int}(b:Rd H d<|.dK (inK ms))(g:ms.Nodup)(k:Int):∃o:Option V,dM H d (.int k) o/\o.isSome=decide (k∈ms):=by
 show{bu (inK ms) (Sum.inl k:Key),.inl ⟨inK ms,Sum.inl k,b,rfl,rfl⟩,?_};have a:(inK ms).map (·.1)=ms.map (Sum.inl:Int->Key):=by unfold inK;rw[A7];rfl
 by_cases h:k∈ms
 .rw[C7 h,fR (v:=.bl true) (by rw[a];show gC g) (by unfold inK;show A3.mpr ⟨k,h,rfl⟩)];rfl
 .rw[B9 h,lu (by
   rw[a];intro f;let(i,c,e):=A3.mp f;injection e with e
   show h (by rw[<-e];show c))]
  rfl
theorem yO{zs:ZN}(T:TW.Tree1<|nds zs){k:Int}{ms:List Int}(b:∀x,x∈ms↔∃n∈nds zs,n.num=x/\TW.Reach (nds zs) k n){z:zv×Nd}(a:z∈zs):decide (z.2.num∈ms)=isB zs k z:=by
 rw[D3,decide_eq_true_iff,uE,b];constructor
 .rintro⟨n,c,e,d⟩;have:=T.inj c (bK a) e;rw[<-this];show d
 .show λh=>⟨z.2,bK a,rfl,h⟩
theorem Bb(zs:ZN)(k:Int):nds (bel zs k)=TW.rh (nds zs) k:=by
 unfold bel TW.rh nds;rw[filter_map]
 congr 1
section
variable{P:zi}{w:xr}{K:Frag}{mg:Str->Option zy}{base:qq}
inductive spCut(vs:List V)(H:Hp)(Q:VK)(E_:XK):Prop
 |mk t k zs (_:vs=[.ref t,.int k]) (_:Tre H t zs) (_:Fold zs k) (_:∀t' us H',Same H H'->Tre H' t' us->nds us=TW.km (nds zs) k->Q (.ref t') H')
theorem yP:FnScope ["tree","number","inner","numbers"] ["tree","number"] (ak jS):=fsc
theorem DR{f:zv}{W:xl}(F:Fun K "cut_out" "cut_out" jS f W)(T:Txt mg)(a8:Has P w K mg base 3 "inner_numbers" ["tree","number"] spInn)(a9:Has P w K mg base 1 "with_numbers" ["tree","numbers"] spWNu):aE P w K mg base CX0 4 f W ["tree","number"] spCut:=by
 let(f4,c5):=T.top;show F.okA yP λcdv A outer s H vs Q E B h=>?_
 .let(t,k,zs,rfl,b,d2,q):=h;have e0:Room 1 _:=B.mono (by decide);have f1:=b.len;show{_,af (ar (i:=2) yP.nd rfl (Or.inr rfl)<|aw a8 B (aa (pv 0)<|aa (pv 1) ae))
   (af (ar (i:=3) yP.nd rfl (Or.inl rfl)<|aD (cx rfl) rfl T.dict boot_dict (aa (bH lcS (FN<|pv 2) λs H fp=>aK<|aa (pv 0) (aa (pv 0) ae)) ae))
   (af (jg (bv B) (pv 3) (pv 1) (ce (v:=.int 0) rfl c5 ⟨_,rfl⟩) rfl)
   (am<|ap (aw a9 e0<|aa (cN (fs:=["inner"]) (cl:=[("inner",s.heap.objs.size+1)]) (js:=[2]) lcF (bE<|pv 0)
    (λs H fp=>iB<|xb (bv B) (ixT K (pv 0) ai) (pv 1)) (λs H fp=>pv 0)) (aa (pv 3) ae))))),?_}
  show{_,rfl,_,rfl,t,k,zs,rfl,b,d2,λms d H1 s1 c8 c7 I f2 G=>?_};show{_,rfl,d,_,rfl,c7,λo p hp=>?_};have a5:Same H (upd H1 d<|.frz o (.dK<|inK ms)):=aV c8 s1;have C:upd H1 d (.frz o<|.dK (inK ms)) d=some (.frz o<|.dK (inK ms)):=ac;generalize upd H1 d (.frz o<|.dK (inK ms))=H2 at a5 C hp|-;have S:(inK ms).map (λp=>kV p.1)=ms.map V.int:=by unfold inK;rw[A7];rfl
  rw[S];show bq (fr:=[]) ms V.int (by lia) hp (by rw[<-S];show qQ C) rfl (CpR (λm=>Sum.inl m) V.int p) (λ_ _ _ _ h e=>h.ext e) (λm H' a4 _ M d9 r=>{_,rfl,_,rfl,le2,λq a2=>r _ _ (ag a2)<|CpR.new d9 a2}) λys u M d7 J=>?_;let(R,b3,c0,f0,c1,c2):=CpR.dct d7 J;have a6:=a5.trans M;show{p,R,rfl,b3,c0,by lia,by rw[c1];show gC I,λg l=>?_};rw[show R.map (·.2)=idK ms from c2];have d0:H g=none:=a6.free l;have e6:=a6.trans<|ag (o:=.dK<|idK ms) l;have X:=M _ _ C;have c9:=ag (o:=.dK<|idK ms) l _ _ X;have e5:d≠g:=λe=>by rw[<-e,X]at l;cases l
  show{_,rfl,_,rfl,g,_,rfl,qp.k (k:=Sum.inl k) (kvs:=idK ms) ac<|aU (by unfold idK;rw[A1];lia),?_};have N:Same H (upd (upd u g<|.dK (idK ms)) g<|.dK (bW (idK ms) (Sum.inl k:Key)<|.int 0)):=aV d0 e6;have Z:(upd (upd u g<|.dK (idK ms)) g<|.dK (bW (idK ms) (Sum.inl k:Key)<|.int 0)) g=some (.dK<|bW (idK ms) (Sum.inl k:Key) (.int 0)):=ac;have Y:(upd (upd u g<|.dK (idK ms)) g<|.dK (bW (idK ms) (Sum.inl k:Key)<|.int 0)) d=some (.frz o<|.dK (inK ms)):=by rw[aj e5];show c9
  generalize upd (upd u g<|.dK (idK ms)) g (.dK<|bW (idK ms) (Sum.inl k:Key) (.int 0))=e9 at N Z Y|-;have O:=b.same N;show{_,rfl,t,rfl,⟨_,SqT.of O.tup⟩,λp2 d6=>?_};show cZ (fr:=[some<|.ref d]) zs (λz=>V.ref z.1) (by lia) d6 (bx (by rw[aN];show SqT.of O.tup)) rfl (isB zs k) (λz y _=>y=.ref z.1) (λ_ _ _ _ h _=>h) (λz H' a4 L j _ r=>?_) (λz H' a4 L _ j _ r=>{_,rfl,r _ H' (Same.refl _) rfl}) λys b1 j d8 J=>?_
  .let(f3,c3,d5):=uH (H:=H') (d:=d) (ms:=ms) (.inr ⟨o,j _ _ Y⟩) I z.2.num;show{_,rfl,z.1,_,_,_,rfl,rfl,SqT.of<|j _ _ (O.nod z L),at0 z.2,_,rfl,d,_,rfl,c3,_,rfl,?_};rw[d5,yO b.tr G L];show r H'<|Same.refl _
  have d3:b1 p2=some (.lst<|aI (bel zs k)):=by rw[d8,aG (f:=λz:zv×Nd=>V.ref z.1) J λz y _ h=>h,<-aN];rfl
  have a7:=N.trans j;have c6:((bel zs k).map λz=>z.2.num).Nodup:=(fV<|lx b.tr).sublist (D1.map _);have D:∀z∈bel zs k,TW.Reach (nds zs) k z.2:=λz c=>uE.mp (CF.mp c).2;have a0:∀x,x∈ms->bu (bW (idK ms) (Sum.inl k:Key)<|.int 0) (Sum.inl x:Key)=some (.int (if x=k then 0 else x)):=λx e4=>by
   rw[eI]
   by_cases e:x=k
   .rw[A6 (by rw[e]),A6 e]
   .rw[A4 λh=>e (by injection h),A4 e];show fR (by
     have:(idK ms).map (·.1)=ms.map (Sum.inl:Int->Key):=by unfold idK;rw[A7];rfl
     rw[this];show gC I) (by unfold idK;show A3.mpr ⟨x,e4,rfl⟩)
  have d1:bu (bW (idK ms) (Sum.inl k:Key)<|.int 0) (Sum.inl k:Key)=some (.int (if k=k then 0 else k)):=by rw[eI,A6 rfl,A6 rfl]
  show{_,rfl,p2,g,bel zs k,_,λx=>if x=k then 0 else x,rfl,.inr d3,λz c=>a7 _ _<|b.nod z (uF c),by have:=uG zs k;lia,j _ _ Z,λz c=>{a0 _<|(G _).mpr {z.2,bK<|uF c,rfl,D z c},?_},?_,λus e8 b2 e7 e2 c4 a1 e1=>?_}
  .have a3:=D z c;generalize z.2=n at a3;cases a3 with
   |base _ e=>rw[e];show d1
   |@step m _ a _ _ e=>rw[e];show a0 _<|(G _).mpr ⟨m,a.mem,rfl,a⟩
  .have:((bel zs k).map λz=>if z.2.num=k then (0:Int)else z.2.num)=(bel zs k).map λz=>z.2.num:=D4 λz c=>A4 (TW.eJ b.tr<|D z c)
   rw[this];show c6
  .have U:nds us=TW.km (nds zs) k:=by
    show TW.eP e1 (TW.iq b.tr.rise k) λn=>?_;rw[a1.mem_iff,Bb,A3,TW.dG];have e:∀m:Nd,TW.Reach (nds zs) k m->reN (λx=>if x=k then 0 else x) m={m.num,if m.par=k then 0 else m.par,m.nm,m.st}:=λm a=>by
     change({if m.num=k then 0 else m.num,_,_,_}:Nd)=_;rw[A4<|TW.eJ b.tr a]
    constructor
    .rintro⟨m,d4,rfl⟩;have a:=TW.fT.mp d4;show{m,a,e m a}
    .rintro⟨m,a,rfl⟩;show{m,TW.fT.mpr a,e m a}
   have e3:us.length<=30:=by
    have:=a1.length_eq;rw[au,A1,au]at this;have:=uG zs k
    lia
   show q e8 us b2 (a7.trans e7) {e2,c4,by rw[U];show TW.wb b.tr k,e3} U
inductive spWo(vs:List V)(H:Hp)(Q:VK)(E_:XK):Prop
 |mk t k zs (_:vs=[.ref t,.int k]) (_:Tre H t zs) (_:Fold zs k) (_:∀t' us H',Same H H'->Tre H' t' us->nds us=TW.woT (nds zs) k->Q (.ref t') H')
theorem Gc:FnScope ["tree","number","inner"] ["tree","number"] (ak jT):=fsc
theorem Gd{f:zv}{l:xl}(F:Fun K "without" "without" jT f l)(T:Txt mg)(p:Has P w K mg base 3 "inner_numbers" ["tree","number"] spInn):aE P w K mg base CX0 4 f l ["tree","number"] spWo:=by
 show F.okA Gc λcdv A outer s H vs Q E m h=>?_
 .let(t,k,zs,rfl,a,v,q):=h;have x:=a.len;show{_,af (ar (i:=2) Gc.nd rfl (Or.inr rfl)<|aw p m (aa (pv 0)<|aa (pv 1) ae))
   (am<|ap (aD aS rfl T.tuple rfl<|aa (cN (fs:=["inner"]) (cl:=[("inner",s.heap.objs.size+1)]) (js:=[2]) lcF (bE<|pv 0)
    (λs H fp=>iB<|fJ (bv m) (ixT K (pv 0) ai) (pv 1)) (λs H fp=>pv 0)) ae)),?_}
  show{_,rfl,_,rfl,t,k,zs,rfl,a,v,λms d H1 s1 S u C U B=>?_};have g:=a.same s1;show{_,rfl,t,rfl,⟨_,SqT.of g.tup⟩,λp2 G=>?_};show cZ (fr:=[some<|.ref d]) zs (λz=>V.ref z.1) (by lia) G (bx (by rw[aN];show SqT.of g.tup)) rfl (λz=>!isB zs k z) (λz y _=>y=.ref z.1) (λ_ _ _ _ h _=>h) (λz H' N e b _ c=>?_) (λz H' N e _ b _ c=>{_,rfl,c _ H' (Same.refl _) rfl}) λys R b I L=>?_
  .let(W,r,D):=uH (H:=H') (d:=d) (ms:=ms) (.inl<|b _ _ u) C z.2.num;show{_,rfl,z.1,_,_,_,rfl,rfl,SqT.of<|b _ _ (g.nod z e),at0 z.2,_,rfl,d,_,rfl,r,_,rfl,?_};rw[D,yO a.tr B e];show c H'<|Same.refl _
  show{p2,_,rfl,.inl {SqL.of I,λO J=>?_}};have n:=(s1.trans b).trans (ag (o:=.tup ys) J);have j:nds (zs.filter λz=>!isB zs k z)=TW.woT (nds zs) k:=by
   unfold TW.woT nds;rw[filter_map]
   congr 1
  show q O (zs.filter λz=>!isB zs k z) _ n {by rw[ac,aG (f:=λz:zv×Nd=>V.ref z.1) L λz y _ h=>h,<-aN],λz M=>n _ _<|a.nod z (CF.mp M).1,by rw[j];show TW.yz a.tr k,CL (D0 _ _) x} j
end
def letters:Str:="abcdefghijklmnopqrstuvwxyz"
def inL(c:Nat):Bool:=!(Builtin.Str.occurrences letters {#[c]} 0 letters.length 1).isEmpty
def uI(x:Str):Bool:=decide (1<=x.length)&&decide (x.length<=5)&&x.cps.toList.all inL
theorem jR.b{x:Str}(h:jR x):uI x=true:=by rcases h with e|e|e|e|e|e|e<;>rw[e]<;>decide +kernel
theorem DT:FnScope ["thing"] ["thing"] (ak xT):=fsc
end TK
namespace TB
open PySem PySem.SetTable
section
variable{prog:zi}{w:xr}{K:Type}[DecidableEq K](knd:KeyKind prog w K)
def wm(z:zv×List K):Int×zy:=(tupleKeyHash knd z.2,.ref z.1)
structure DS(h:qq)(a:zv)(zs:List<|zv×List K):Prop where
 ob:∃o es ep t l,h.get? a=some o/\o.ExactSet/\o.data=.set es ep t/\es.toList=zs.map (wm knd)/\Tb t l/\l.length=zs.length/\Mk t.mask/\zs.length*5<t.mask*3
 keys:∀z∈zs,IsTupleKey knd h z.2 z.1
variable{knd}
variable{A:xx}{E:zy->zn->Prop}{s:zn}
theorem sT{a b:zv}{o:Obj}{g:Array (Int×zy)}{a3:Nat}{t:SetTable}{l:List Nat}{zs:List (zv×List K)}{k:List K}{Q:SetFound->zn->Prop}(b2:A.units<cLine)(Z:s.heap.get? a=some o)(P:o.data=.set g a3 t)(S:g.toList=zs.map (wm knd))(T:Tb t l)(a6:l.length=zs.length)(U:t.fits g.size=true)(a9:t.gaveWay=false)(W:∀z∈zs,IsTupleKey knd s.heap z.2 z.1)(a8:∀z∈zs,z.2≠k)(O:IsTupleKey knd s.heap k b){N:Nat}(M:pos t.mask (tupleKeyHash knd k) N∉l)(c3:N<10*turns t.mask)(a4:∀m,m<N->pos t.mask (tupleKeyHash knd k) m∈l)(q:Q (.free (pos t.mask (tupleKeyHash knd k) N) false) s):
  ∀(d c p:Nat)(I:Option SetTable.Probe),N-c=d->c<=N->d<p->I.getD (t.probeStart<|tupleKeyHash knd k)=nth t.mask (st t.mask<|tupleKeyHash knd k) c ->
   wpAny (model prog w) A (setSearchFrom a (.ref b) (tupleKeyHash knd k) true p I) Q E s:=by
 intro d
 induction d using Nat.strongRecOn with
 |_ d c1 =>
  intro c p I c4 c8 c5 b1;obtain⟨p,rfl⟩:∃f,p=f+1:=⟨p-1,by lia⟩;unfold setSearchFrom;show Wb<|wpAny_setState_of Z P U ?_;dsimp only;rw[a9];simp only[C9,CO];rw[b1];generalize c6:tupleKeyHash knd k=hs at *;have a7:∀m,pos t.mask hs m∈l->∃i z,t.slot (pos t.mask hs m)=.live i/\z∈zs/\g[i]?=some (wm knd z):=λm C=>by
   let(i,hi,e):=G0.mp C;have V:i<zs.length:=by lia
   show{i,zs[i],tW T (by rw[A2 hi,e]),F6 V,by rw[<-F0,S,B7,A2 V];rfl}
  let(n,c7,a5,Y):=lV (λm=>pos t.mask hs (c+m)∉l\/∃i z,t.slot (pos t.mask hs<|c+m)=.live i/\z∈zs/\g[i]?=some (wm knd z)/\tupleKeyHash knd z.2=hs) (N-c)
   (.inl (by rw[show c+(N-c)=N by lia];show M))
  have a0:∀m,m<n->∃i,t.slot (nth t.mask (nth t.mask (st t.mask hs) c) m).j=.live i/\((g[i]?.map (·.1)).getD 0==hs)=false:=λm C=>by
   let(i,z,x,a2,r):=a7 (c+m)<|Classical.byContradiction λz=>Y m C<|.inl z;show{i,by rw[lY];show x,?_};rw[r];change(tupleKeyHash knd z.2==hs)=false;rw[D5];show λF=>Y m C<|.inr ⟨i,z,x,a2,r,F⟩
  by_cases B:pos t.mask hs (c+n)∈l
  .let(i,z,x,a1,r,F):=a5.resolve_left λh=>h B;have X:c+n<N:=by
    rcases lt_or_ge (c+n) N with u|u
    .show u
    .rw[show c+n=N by lia]at B;show(M B).elim
   have hp:=tU t (λi=>(g[i]?.map (·.1)).getD 0) hs i n (nth t.mask (st t.mask hs) c) (10*turns t.mask) (by lia) a0 (by rw[lY];show x)
    (by rw[r];change(tupleKeyHash knd z.2==hs)=true;rw[F];simp)
   generalize G:SetTable.probe t _ hs (nth t.mask (st t.mask hs) c)=H;obtain rfl:H=some (.candidate (nth t.mask (nth t.mask (st t.mask hs) c) n).j i (nth t.mask (nth t.mask (st t.mask hs) c)<|n+1)):=G.symm.trans hp;dsimp only;have J:wpAny (model prog w) A (match g[i]? with
      |some (_,y)=>do
       let L <- holding [y] (eqBool y<|.ref b)
       let(es',_,t') <- setState a
       if (true&&L)=true then return SetFound.there none
       let some same:=t'.sameMemory t.moves t.mask|unsupported "set.changed-during-lookup:is-the-new-block-at-the-old-address"
       let c2 <- match (if same then t'.slot (nth t.mask (nth t.mask (st t.mask hs) c) n).j else .empty)with
        |.live D=>match es'[D]? with
         |some (_,y')=>do pure (if <- isSame y' y then some D else none)
         |none=>pure none
        |_=>pure none
       match c2 with
       |none=>rule "set.search.anew";setSearchFrom a (.ref b) hs true p none
       |some D=>if L then return SetFound.there (some D)else setSearchFrom a (.ref b) hs true p (some<|nth t.mask (nth t.mask (st t.mask hs) c) (n+1))
      | _=>unsupported "internal:set-entry") Q E s:=by
    rw[r];change wpAny _ _ (holding [Value.ref z.1] (eqBool (.ref z.1)<|.ref b) >>= _) _ _ _;show Wb<|wpAny_holding (wpAny_eqBool_tuple b2 (W z a1) O<|Wb (wpAny_setState_of Z P U ?_));dsimp only;rw[B9<|a8 z a1];simp only[Bool.and_false,C9,CO];rw[show t.sameMemory t.moves t.mask=some true by unfold SetTable.sameMemory;simp];simp only[D9];rw[lY,x];dsimp only;rw[r];dsimp only;show Wb<|wpAny_isSame_ref_self ?_;simp only[D9];show Wb<|Wp (c1 (N-(c+n+1)) (by lia) (c+n+1) p _ rfl (by lia) (by lia) (by change nth t.mask (nth t.mask (st t.mask hs) c) (n+1)=_;rw[<-jh];rfl))
   cases a6:t.led with
   |true =>
    simp only[Bool.not_true,C9,CO];show J
   |false =>
    simp only[Bool.not_false,D9];show Wb<|Am O _ ?_ ?_
    .intro v b3;let(e,R,rfl):=A3.mp b3;rw[Array.toList_filter,S]at R;let(u,c0,rfl):=A3.mp (CF.mp R).1;show{u.2,u.1,rfl,W u c0}
    .simp only[C9,CO];show J
  .have X:c+n=N:=by
    rcases lt_or_ge (c+n) N with z|z
    .show(B<|a4 _ z).elim
    .lia
   generalize G:SetTable.probe t _ hs (nth t.mask (st t.mask hs) c)=H;obtain rfl:H=some (.empty (nth t.mask (nth t.mask (st t.mask hs) c) n).j (nth t.mask (st t.mask hs) c).dummy):=G.symm.trans<|lW t (λi=>(g[i]?.map (·.1)).getD 0) hs n (nth t.mask (st t.mask hs) c) (10*turns t.mask) (by lia) a0 (by rw[lY];show qz T B);rw[show(nth t.mask (st t.mask hs) c).dummy=none from jJ _ _ _];dsimp only;rw[lY,X];show Wp q
theorem Bc{a b:zv}{zs:List (zv×List K)}{k:List K}{Q:Bool->zn->Prop}(d3:A.units<cLine)(d2:∀k v,knd.is k v=true->v.scannable=true)(c0:DS knd s.heap a zs)(I:IsTupleKey knd s.heap k b)(c8:∀z∈zs,z.2≠k)(e3:zs.length<60)(U:∀r h' a7,SameBut a s.heap h'->DS knd h' a a7->a7.Perm ((b,k)::zs)->Q r {s with heap:=h'}):
  wpAny (model prog w) A (setAddHashed a (.ref b)<|tupleKeyHash knd k) Q E s:=by
 let((o,es,d7,t,l,f,W,d,J,T,c5,x,d9),Y):=c0;have c6:es.size=zs.length:=by rw[<-B6,J,A1]
 have e0:=x.ge;have M:t.fits es.size=true:=im T (by lia) (by lia);let(e7,c3,c4):=lZ t.mask l (by lia);let(d6,e1,b2):=cover x.cyc (tupleKeyHash knd k) c3;let(N,d8,V,b3):=lV (λm=>pos t.mask (tupleKeyHash knd k) m∉l) d6 (by rw[b2];show c4);have e6:10*turns t.mask<100000:=by unfold turns;lia
 unfold setAddHashed setAddHashedIn;show wpAny_holding<|Wb (wpAny_setState_of f d M ?_);dsimp only;rw[show byScan (.ref b) es=false from rfl];simp only[C9,CO];show Wb ?_;unfold setSearch;show sT d3 f d J T c5 M (by unfold SetTable.gaveWay;rw[x.odd];rfl) Y c8 I V (by lia) (λm c7=>Classical.byContradiction λz=>b3 m c7 z) ?_ N 0 100000 none rfl (by lia) (by lia) rfl;dsimp only;show Wb<|wpAny_setState_of f d M ?_;dsimp only;let(h,c9,n):=xn T V<|xm _ _ _;have a0:(l.take (below l.toArray<|pos t.mask (tupleKeyHash knd k) N)++pos t.mask (tupleKeyHash knd k) N::l.drop (below l.toArray<|pos t.mask (tupleKeyHash knd k) N)).length=zs.length+1:=by
  rw[B0,CC,D6,G1];have:=(cQ T.up<|pos t.mask (tupleKeyHash knd k) N).1
  lia
 generalize l.take (below l.toArray<|pos t.mask (tupleKeyHash knd k) N)++pos t.mask (tupleKeyHash knd k) N::l.drop (below l.toArray<|pos t.mask (tupleKeyHash knd k) N)=d5 at h a0;generalize t.put (pos t.mask (tupleKeyHash knd k) N)=tp at h c9 n|-;let(R,p):=tp;dsimp only at h n|-;let(G,L,d0):=L2.cV (g:=wm knd) (SetTable.insertAt_perm es p (tupleKeyHash knd k,Value.ref b)) (zs:=zs++[(b,k)]) (by rw[toList_push,J,CG];rfl);have C:G.Perm ((b,k)::zs):=d0.trans<|FL _ _;have F:G.length=zs.length+1:=by rw[C.length_eq,CC]
 have Z:∀z∈G,IsTupleKey knd s.heap z.2 z.1:=λz u=>by
  rcases B3.mp (C.mem_iff.mp u)with e|e
  .rw[e];show I
  .show Y z e
 have q:(insertAt es p (tupleKeyHash knd k,Value.ref b)).size=zs.length+1:=by rw[<-B6,<-L,A1,F]
 have tail:∀c:SetTable,Tb c d5->c.mask=t.mask->wpAny (model prog w) A (do
   storeSet a (insertAt es p (tupleKeyHash knd k,Value.ref b)) c
   if (!false&&c.tooFull)=true then do
     setRelay a (SetTable.grown<|es.size+1)
     pure true
    else pure true) Q E s:=by
  intro c H a1;show Wb<|wpAny_storeSet_of f d ?_ (by rw[q];show pq (by lia));have y:=stored f d (insertAt es p (tupleKeyHash knd k,Value.ref b)) c;have D:=CA s.heap a<|Obj.putSet (insertAt es p (tupleKeyHash knd k,Value.ref b)) c;generalize insertAt es p (tupleKeyHash knd k,Value.ref b)=j at *;have c2:c.fill=zs.length+1:=by rw[il H,a0]
  by_cases X:c.tooFull=true
  .rw[X];simp only[Bool.not_false,Bool.and_self,D9];show Wb ?_;unfold setRelay;show Wb<|wpAny_setState_of y rfl (im H (by lia) (by rw[q,a1];lia)) ?_;dsimp only;rw[show SetTable.grown (es.size+1)=(zs.length+1)*4 by rw[c6];unfold SetTable.grown;rw[A4 (by lia)]];let(a3,e4,e5):=jj (w:=(zs.length+1)*4) (by lia);rw[A4 (by rw[sizeLine_eq];lia)];let(a6,S,d1,a2,_,_,a9,P):=jK (t:=c) (hashes:=j.map (·.1)) (wanted:=(zs.length+1)*4) a3.cyc (by rw[size_map,q];lia);rw[size_map]at P;have a4:(((S.map (·.2)).toArray).filterMap (λi=>j[i]?)).toList.Perm j.toList:=by
    rw[Array.toList_filterMap];show(P.filterMap _).trans (by rw[filterMap_getElem?_range])
   let(a8,c1,B):=L2.cV (g:=wm knd) a4 L.symm;have a5:(((S.map (·.2)).toArray).filterMap (λi=>j[i]?)).size=j.size:=by rw[<-B6,a4.length_eq,B6]
   have d4:(S.map (·.1)).length=a8.length:=by
    have:=P.length_eq;rw[A1,F4]at this;rw[A1,this,B.length_eq,F,q]
   show Wb ?_;rw[d1];change wpAny _ _ (@ite _ _ _ _ _) _ _ _;rw[A4 (by rw[a5];simp)];show Wp ?_;dsimp only;show wpAny_storeSet_of y rfl (Wp<|U true _ a8 (D.trans<|CA _ a _) {{_,_,_,a6,_,stored (s:={s with heap:=s.heap.update a (Obj.putSet j c)}) y rfl _ a6,W,rfl,c1.symm,a9,d4,by rw[a2];show a3,by rw[B.length_eq,F,a2];lia},λz u=>IsTupleKey.same (Z z<|B.mem_iff.mp u) f d<|D.trans (CA _ a _)} (B.trans C)) (by rw[a5,q];show pq (by lia))
  .have O:c.tooFull=false:=by simpa using X
   rw[O];simp only[Bool.and_false,C9,CO];show Wp<|U true _ G D {{_,_,_,c,_,y,W,rfl,L.symm,H,by lia,by rw[a1];show x,?_},λz u=>IsTupleKey.same (Z z u) f d D} C;unfold SetTable.tooFull at O;rw[decide_eq_false_iff_not,c2]at O;rw[F];lia
 cases e2:R.plain with
 |true =>
  simp only[D9];show Wb<|vB I d2 λb1=>?_;cases b1 with
  |true =>
   simp only[D9];show tail R h n
  |false =>
   simp only[C9,CO];show tail _ (xt h false) n
 |false =>
  simp only[C9,CO];show Wb<|Wp ?_;simp only[D9];show tail R h n
end
open PySem PySem.SetTable PyProof.Rows
section
variable{prog:zi}{w:xr}{K:Type}[DecidableEq K]{knd:KeyKind prog w K}{A:xx}{R:Result->zn->Prop}{I:zv}{fp wr:List zv}{G:Array GenState->Array GenState->Prop}{n:Nat}{P:Nat->zy->Prop}{St:Nat->zn->Prop}
theorem rq{a:List _}{s s':zn}{S:zv}{zs:List _}(m:Moved a G s s')(e:S∉a)(h:∀z∈zs,z.1∉a)(d:DS knd s.heap S zs):DS knd s'.heap S zs:=by
 let((o,es,c,t,l,g,r),f):=d;show{⟨o,es,c,t,l,m.heap S o e g,r⟩,λz b=>mf m (h z b)<|f z b}
theorem yQ(W:WalksS prog w A.in1 I fp wr G n P St)(S:zv)(D:S∉fp)(M:A.in1.units<cLine)(a4:∀k v,knd.is k v=true->v.scannable=true)(key:Nat->List K)(ad:Nat->zv)(a6:∀i v,P i v->v=.ref (ad i))(H:∀i,i<n->ad i∉S::fp)(b3:n<=60)(X:∀i j,i<j->j<n->key i≠key j):
  ∀(k i:Nat)(s:zn)(zs:List<|zv×List K),n-i=k->i<=n->St i s->DS knd s.heap S zs->zs.length=i->(∀z∈zs,∃j,j<i/\z=(ad j,key j))->(∀j,j<n->IsTupleKey knd s.heap (key j) (ad j)) ->
   (∀s' p,Moved (S::wr) G s s'->DS knd s'.heap S p->p.length=n->R (.ok<|.ret .none) s') ->
   codeAny (model prog w) A (.builtin "set.update.loop" {[.ref S,.ref I],[]}) R s:=by
 have E:S∉wr:=λh=>D<|W.sub _ h;have L:∀b∈wr,b∈S::wr:=λb f=>B1 _ f;have u:∀i,i<n->ad i∉wr:=λi hi h=>H i hi<|B1 _ (W.sub _ h);have V:∀i,i<n->ad i≠S:=λi hi h=>H i hi (by rw[h];show B4);intro k
 induction k with
 |zero =>
  intro i s zs Y hi C t y l J q;obtain rfl:i=n:=by lia
  show codeAny_builtin F.entry_set_update_loop ?_;rw[Around.under_plainId F.plain_set_update_loop _];change wpAny _ A.in1 (pyNext (.ref I) >>= _) _ _ s;show Wb<|W.done s _ _ C λs' d=>?_;change wpAny _ A.in1 (ret Value.none) _ _ s';show Wp<|q s' zs (d.mono L) (rq d E (λz c=>by let(j,a,e):=l z c;rw[e];show u j a) t) y
 |succ k a8 =>
  intro i s zs Y hi C t y l J q;have g:i<n:=by lia
  show codeAny_builtin F.entry_set_update_loop ?_;rw[Around.under_plainId F.plain_set_update_loop _];change wpAny _ A.in1 (pyNext (.ref I) >>= _) _ _ s;show Wb<|W.item i s _ _ g C λv s' O a5 d=>?_;obtain rfl:=a6 i v O;have Q:DS knd s'.heap S zs:=rq d E (λz c=>by let(j,a,e):=l z c;rw[e];show u j (by lia)) t;have x:∀j,j<n->IsTupleKey knd s'.heap (key j) (ad j):=λj a=>mf d (u j a)<|J j a;change wpAny _ A.in1 (holding [Value.ref<|ad i] (setAdd S<|.ref (ad i)) >>= _) _ _ s';show Wb<|wpAny_holding ?_;unfold setAdd;show wpAny_holding<|Wb (wpAny_pyHash_tuple M (x i g) ?_);show Bc (s:={s' with toks:=s'.toks+((key i).length+1)}) M a4 Q (x i g) (λz c=>by let(j,a,e):=l z c;rw[e];show X j i a g) (by lia) λr h' p a3 U hp=>?_
  have B:SameBut S s'.heap h':=a3;have Z:∀j,j<n->IsTupleKey knd h' (key j) (ad j):=λj a=>by
   let(o,a9,m,a2,r):=x j a;show{o,a9,m,(B.2 _<|V j a).trans a2,r}
  have a7:∀z∈p,∃j,j<i+1/\z=(ad j,key j):=λz c=>by
   rcases B3.mp (hp.mem_iff.mp c)with e|e
   .show{i,lt_succ_self i,e}
   .let(j,a,N):=l z e;show{j,by lia,N}
  show Wp {plainId_quiet F.plain_set_update_loop _,a8 (i+1) _ p (by lia) g (W.frame _ s' _ _ a5 (Nat.le_add_right _ _) λb f o e=>?_) U (by rw[hp.length_eq,CC,y]) a7 Z λb1 b2 a1 T a0=>?_}
  .rw[B.2 b λh:b=S=>D (by rw[<-h];show f)];show e
  .show q b1 b2 (Moved.trans W.gtrans ((d.mono L).then_heap (Nat.le_add_right _ _) λb o f e=>?_) a1) T a0;rw[B.2 b λh:b=S=>f (by rw[h];show B4)];show e
end
section
variable{prog:zi}{w:xr}{K:Type}[DecidableEq K]{knd:KeyKind prog w K}{A:xx}{E:zy->zn->Prop}{s:zn}
set_option maxRecDepth 100000 in
set_option maxHeartbeats 3200000 in
theorem Be{l:zv}{items:Array zy}{key:Nat->List K}{ad:Nat->zv}{Q:zy->zn->Prop}(P:A.handled=none)(a8:A.units+4<cLine)(Z:∀k v,knd.is k v=true->v.scannable=true)(V:s.heap.IsList l items)(S:∀(i:Nat) (v:zy),items[i]?=some v->v=Value.ref (ad i))(q:∀i,i<items.size->IsTupleKey knd s.heap (key i) (ad i))(f:items.size<=60)(O:∀i j,i<j->j<items.size->key i≠key j)(a:∀(h':qq) (tk:Nat) (zs:List<|zv×List K),DS knd h' s.heap.objs.size zs->zs.length=items.size->(∀b o,b<s.heap.objs.size->s.heap.get? b=some o->h'.get? b=some o)->Q (.ref s.heap.objs.size) {s with heap:=h',toks:=tk}):
  wpAny (model prog w) A (call (.type "set") [.ref l]) Q E s:=by
 show jt ?_;let(a1,h,n,x,p):=V;let(a9,a0,b1,a3):=a1;simp only at n p;subst n;subst p;generalize (!bt w)=c;have I:(s.heap.push {cls:=.type "set",dict:=none,data:=.set #[] 0 (.fresh 0 0 c)}).get? s.heap.objs.size=some {cls:=.type "set",dict:=none,data:=.set #[] 0 (.fresh 0 0 c)}:=A5 _ rfl;have Y:(s.heap.push {cls:=.type "set",dict:=none,data:=.set #[] 0 (.fresh 0 0 c)}).get? l=some {cls:=.type "list",dict:=a0,data:=.seq items x,slots:=a3}:=A0 _ h;have a7:=F.sub_list_set;have a6:=F.sub_list_frozenset;have a5:(Value.type "list"==Value.type "dict")=false:=by decide
 have t:(s.heap.push {cls:=.type "set",dict:=none,data:=.set #[] 0 (.fresh 0 0 c)}).IsList l items:=⟨_,Y,rfl,x,rfl⟩;unfold Builtin.«set.__init__» noKeywords Builtin.Frozenset.updateFrom;generalize H:pyIter=PI
 wp_walk
 subst H;show wpAny_pyIter_list t ?_;show Wb<|wpAny_runValue ?_;have u:l<s.heap.objs.size:=B5 h;have R:A.in1.in1.in1.handled=none:=by simp[P]
 have X:l≠(s.heap.push {cls:=.type "set",dict:=none,data:=.set #[] 0 (.fresh 0 0 c)}).objs.size:=by
  rw[size_push];show C2<|F5 u
 have L:s.heap.objs.size∉[(s.heap.push {cls:=.type "set",dict:=none,data:=.set #[] 0 (.fresh 0 0 c)}).objs.size,l]:=by
  rw[size_push];simp only[B3,B8,CU,G3,not_or];show{C2<|lt_succ_self _,F8 u}
 have M:∀i,i<items.size->ad i∉s.heap.objs.size::[(s.heap.push {cls:=.type "set",dict:=none,data:=.set #[] 0 (.fresh 0 0 c)}).objs.size,l]:=λi T=>by
  let(o,_,_,d,N,_):=q i T;have y:ad i<s.heap.objs.size:=B5 d;rw[size_push];simp only[B3,B8,CU,G3,not_or];show{C2 y,C2<|F5 y,λe=>?_};rw[e,h]at d;cases d;show absurd (show Value.type "list"=Value.type "tuple" from N) (by intro a;injection a with a;show absurd a (by decide))
 show yQ (knd:=knd) ((Walks.list R _ l X items).toS) s.heap.objs.size
  L (by simp[Around.in1_units];lia) Z key ad S M f O (items.size-0) 0 _ [] (by lia) (CI _)
  {{_,A5 _ rfl,rfl,rfl},(t.push _)} {{_,#[],0,_,[],A0 _ I,⟨rfl,rfl,rfl⟩,rfl,rfl,{rfl,rfl,Pairwise.nil,λ_ a=>nomatch a},rfl,Or.inl rfl,(by change 0<21;decide)},λ_ a=>nomatch a} rfl (λ_ a=>nomatch a) (λj U=>?_) λs' zs g J W=>?_
 .let(o,its,m,d,r):=q j U;show{o,its,m,A0 _<|A0 _ d,r}
 .let(h',G,z,a4,a2):=s';have C:G=s.gens:=g.gens;have B:z=s.drawn:=g.drawn;have D:a2=s.os:=g.os;subst C;subst B;subst D;change wpAny _ _ _ _ _ _;show Wp ?_;change wpAny _ _ (ret Value.none) _ _ _;show Wp {rfl,a h' a4 zs J W λb o f e=>?_};show g.heap b o ?_<|A0 _ (A0 _ e);rw[size_push];simp only[B3,CU,G3,not_or];show{C2 f,C2<|F5 f}
end
end TB
namespace L2
open PySem PySem.Spec PyProof.Rows
section
variable{X:Cx}
theorem nk(F:X.calm=true)(Y:X.A.units+4<cLine):cq X (.type "set") (λxs H Q=>∃p,∃a:List<|zv×List Key,xs=[.ref p]/\SqL X.K H p ((a.map (·.1)).map V.ref)/\(∀z∈a,H z.1=some (.tup<|z.2.map kV))/\a.length<=60/\(a.map (·.2)).Nodup/\∀q,H q=none->Q (.ref q) (upd H q<|.ext (pD q a.length))):=by
 intro pins s σ H xs us Q I r h;let(p,a,rfl,W,O,R,U,q):=h;let(u,rfl,a0):=cD r;cases a0;let(its,a1,pl,a5):=I.list W;obtain rfl:=eD a1;have g:(((a.map (·.1)).map Value.ref).toArray).size=a.length:=by simp
 have f:∀i,i<a.length->a[i]?=some (a.getD i (0,[])):=λi hi=>by
  rw[Bm,A2 hi];rfl
 show TB.Be (knd:=aR X.prog X.w) (key:=λi=>(a.getD i (0,[])).2) (ad:=λi=>(a.getD i (0,[])).1) (I.ok.hd F) Y (xy _ _) pl.isList (λi v Z=>?_) (λi hi=>?_) (by rw[g];show R) (λi B N n e=>?_) λh' tk zs E y P=>?_
 .have c:((a.map (·.1)).map Value.ref)[i]?=some v:=by simpa using Z
  rw[B7,B7]at c;rw[Bm];cases j:a[i]? with
  |none=>rw[j]at c;cases c
  |some z=>rw[j]at c;show(Option.some.inj c).symm
 .show Aq I (O _<|C3 (f i (by lia))) _ _
 .rw[g]at n;have:=D2.mp U i B (by rw[A1];lia) (by rw[A1];lia) N;show this ?_;have k:=f i (by lia);have m:=f B n;rw[A2 (by lia)]at k m;rw[getElem_map,getElem_map,Option.some.inj k,Option.some.inj m];show e
 .rw[g]at y;let((o,es,d,t,l,x,L,G,J,T,a3,a4,a2),_):=E;have S:es.size=a.length:=by rw[<-B6,J,A1,y]
  show{.ref s.heap.objs.size,_,I.laid (t':=tk) (o:=.ext<|pD s.heap.objs.size a.length) (λb o e=>P b o (B5 e) e) (A8 _) {{o,es,d,t,x,L,G,(TB.im T (by lia) (by lia)),S},⟨o,x⟩,?_},rfl,q _<|I.hok.fresh (A8 _)};rintro h1 h2 ⟨o,es,d,t,C,D⟩ M;show{o,es,d,t,M o C,D}
end
end L2
namespace TK
open PySem L2
section
variable{P:zi}{w:xr}{K:Frag}{mg:Str->Option zy}{base:qq}
inductive spWhole(vs:List V)(H:Hp)(Q:VK)(E_:XK):Prop
 |mk i (_:vs=[.int i]) (_:Q (.bl true) H)
theorem Bf:FnScope ["thing"] ["thing"] (ak sK):=fsc
theorem yR{f:zv}{a:xl}(F:Fun K "is_whole" "is_whole" sK f a)(T:Txt mg):aE P w K mg base CX0 1 f a ["thing"] spWhole:=by
 show F.okA Bf λcdv A outer s H vs Q E b h=>?_
 .let(i,rfl,k):=h;show{_,am<|ap (lE (ay cU rfl T.isin boot_isinstance<|aa (pv 0) (aa (ie (v:=.ty _) rfl T.int boot_int rfl) ae))
   (lD<|Cm (ay cU rfl T.isin boot_isinstance<|aa (pv 0) (aa (ie (v:=.ty _) rfl T.bool boot_bool rfl) ae)))),{_,rfl,_,_,_,_,rfl,.int i,(by kernel_rfl),_,rfl,cp {_,rfl,_,_,_,_,rfl,.int i,(by kernel_rfl:_=some false),_,rfl,k}}}
inductive spName(vs:List V)(H:Hp)(Q:VK)(E_:XK):Prop
 |mk x (_:vs=[.str x]) (_:uI x=true) (_:∀H',Same H H'->Q (.bl true) H')
theorem Bg{f:zv}{l:xl}(F:Fun K "is_name" "is_name" xT f l)(T:Txt mg):aE P w K mg base CX0 1 f l ["thing"] spName:=by
 let(tl,y):=T.letters;let(L,z):=T.longest;show F.okA DT λcdv A outer s H vs Q E G h=>?_
 .let(x,rfl,e,k):=h;show{_,af (aQ (PW.pt (pw_or (cm<|cF (ay cU rfl T.isin boot_isinstance<|aa (pv 0) (aa (ie (v:=.ty "str") rfl T.str boot_str rfl) ae)) (λ_=>rfl))
    (pw_or1<|cm (lG kF kF ai (ay jd rfl T.len F3<|aa (pv 0) ae)<|ce (v:=.int 5) rfl z ⟨_,rfl⟩))))
   (am<|ap kD) ax)
   (am<|ap (ay (jl rfl) rfl T.all boot_all<|aa (qw (N:=["sign"]) (k:=1) (js:=[]) rfl (pF rfl (by decide +kernel) (by decide +kernel) (by decide +kernel)) rfl (λi n x h=>by simp at h)
    (xw<|pv 0) (λs H fp=>bf (i:=0) (show(["sign"]:List Str).Nodup by decide +kernel) rfl (Or.inl rfl)<|Or.inr rfl) (λs H fp=>eR nB (pv 0) (ce (v:=.str letters) rfl y ⟨_,rfl⟩) (by with_unfolding_all rfl))) ae)),?_}
  unfold uI at e;rw[D7,D7,C8,C8]at e;let((g,j),o):=e;show{_,rfl,_,_,_,_,rfl,.str x,(by kernel_rfl:_=some true),_,rfl,aM {_,rfl,x,rfl,F1<|aU (by lia),_,_,rfl,rfl,_,rfl,?_}};rw[C7 (by lia)];show cp {_,_,rfl,rfl,_,rfl,?_};rw[C7 (by lia)];show aM ?_;have I:x.cps.size=x.length:=rfl;show{_,rfl,x,rfl,λp hp=>(xE (k:=1) (js:=[]) (J:=Its x) (p:=p) x.cps.size (by lia) (λi ys a H'=>ys=((x.cps.toList.take i).map inL).map V.bl/\a.length=1/\Same H H'/\H' p=some (.lst ys))
   ⟨rfl,rfl,ag hp,ac⟩ (λi ys a H' h=>?_) (λi ys a H' hi h=>hi) (λys a H' h=>?_) (λi ys a H' hi h v H2 hy=>?_) ?_ ?_)}
  .rw[h.1,A1,A1,D6];lia
  .let(b,_,s1,d):=h;have t:ys=(x.cps.toList.map inL).map V.bl:=by rw[b,E4 (by simp)]
   subst t;show{A8 _,_,_,rfl,SqL.of d,?_};have u:(x.cps.toList.map inL).all id=true:=by rw[all_map];show o
   rw[u];show k _ s1
  .let(b,r,s1,d):=h;let(rfl,c,B,rfl):=hy;show{_,List.getElem?_set_self (by lia),_,_,rfl,rfl,d,?_,by simpa using r,aV hp s1,ac}
   have C:x.cps.toList[i]?=some c:=by simpa using B
   rw[b,take_succ,C];simp[inL]
  .intro _ _ _ _ _ m q;show m _ _ q
  .rintro _ _ _ _ m ⟨v,D,i,n,g,j,q⟩;show{v,D,i,n,g,j,m _ _ q}
inductive spStamp(vs:List V)(H:Hp)(Q:VK)(E_:XK):Prop
 |mk o (_:vs=[stV o]) (_:Dm o) (_:Q (.bl true) H)
theorem Bh:FnScope ["thing"] ["thing"] (ak sL):=fsc
theorem yS{f:zv}{a:xl}(F:Fun K "is_stamp" "is_stamp" sL f a)(T:Txt mg)(b:Has P w K mg base 1 "is_whole" ["thing"] spWhole):aE P w K mg base CX0 2 f a ["thing"] spStamp:=by
 let(tg,e):=T.greatest;show F.okA Bh λcdv A outer s H vs Q E j h=>?_
 .let(o,rfl,g,k):=h;show{_,am<|ap (Fs (eR iC (pv 0) cW<|av _)<|lD (lE (aw b j<|aa (pv 0) ae)<|lD (wM kF kF ai (pv 0)<|ce (v:=.int 999) rfl e ⟨_,rfl⟩))),{_,rfl,rfl,_,rfl,?_}};cases o with
  |none=>show cp k
  |some i =>
   let(c,d):=g i rfl;show aM {_,rfl,_,rfl,_,rfl,cp {_,rfl,_,_,rfl,rfl,_,rfl,?_}};rw[C7 c];show cp {_,_,rfl,rfl,?_};change Q _ H;rw[C7 d];show k
inductive spNode(vs:List V)(H:Hp)(Q:VK)(E_:XK):Prop
 |mk a n (_:vs=[.ref a]) (_:H a=some (.tup<|vals n)) (_:iI n) (_:∀H',Same H H'->Q (.bl true) H')
theorem DU:FnScope ["thing"] ["thing"] (ak xU):=fsc
theorem Bi{f:zv}{g:xl}(F:Fun K "is_node" "is_node" xU f g)(T:Txt mg)(d:Has P w K mg base 1 "is_whole" ["thing"] spWhole)(CN:Has P w K mg base 1 "is_name" ["thing"] spName)(j:Has P w K mg base 2 "is_stamp" ["thing"] spStamp):aE P w K mg base CX0 3 f g ["thing"] spNode:=by
 show F.okA DU λcdv A outer s H vs Q E i h=>?_
 .let(a,n,rfl,e,o,k):=h;let(p,q,l,m):=o;have c:Room 1 _:=i.mono (by decide);show{_,af (aQ (PW.pt (pw_or (cm<|cF (ay cU rfl T.isin boot_isinstance<|aa (pv 0) (aa (ie (v:=.ty "tuple") rfl T.tuple boot_tuple rfl) ae)) (λ_=>rfl))
    (pw_or1<|aq eG (ay aP rfl T.len F3<|aa (pv 0) ae) ai (av _)))) (am<|ap kD) ax)
   (af (aQ (PW.pt<|pw_or (cm<|cF (aw d c<|aa (ixT K (pv 0) ai) ae) (λ_=>rfl)) (pw_or1<|aq wK (ixT K (pv 0) ai) ai (av _))) (am<|ap kD) ax)
   (am<|ap (lE (aw d c<|aa (ixT K (pv 0) ai) ae) (lE (aw CN c<|aa (ixT K (pv 0) ai) ae)
    (lD<|aw j i (aa (ixT K (pv 0) ai) ae)))))),{_,rfl,_,_,_,_,rfl,.tup e,(by kernel_rfl:_=some true),_,rfl,aM ?_}}
  show{_,rfl,a,_,rfl,.inr<|SqT.of e,rfl,_,rfl,(FK rfl ?_)};show{_,rfl,a,_,_,_,rfl,rfl,SqT.of e,at0 n,_,rfl,_,rfl,aM {_,rfl,a,_,_,_,rfl,rfl,SqT.of e,at0 n,_,_,rfl,rfl,_,rfl,?_}};rw[B9 (by lia)];show aM ?_;show{_,rfl,a,_,_,_,rfl,rfl,SqT.of e,at1 n,_,rfl,_,rfl,cp {_,rfl,a,_,_,_,rfl,rfl,SqT.of e,at2 n,_,rfl,l.b,λH1 s1=>{_,rfl,cp ?_}}};show{_,rfl,a,_,_,_,rfl,rfl,SqT.of<|s1 _ _ e,at3 n,n.st,rfl,m,k H1 s1}
def ltP(p:Nd×Nd):Bool:=decide<|p.1.num<p.2.num
inductive spRise(vs:List V)(H:Hp)(Q:VK)(E_:XK):Prop
 |mk t zs (_:vs=[.ref t]) (_:H t=some (.tup<|aI zs)) (_:At H zs) (_:zs.length<=100) (_:∀H',Same H H'->Q (.bl<|TW.adj (nds zs)) H')
theorem DV:FnScope ["nodes"] ["nodes"] (ak xV):=fsc
theorem Bj{f:zv}{U:xl}(F:Fun K "are_rising" "are_rising" xV f U)(T:Txt mg):aE P w K mg base CX0 1 f U ["nodes"] spRise:=by
 show F.okA DV λcdv A outer s H vs Q E e2 h=>?_
 .let(t,zs,rfl,c,Y,d9,k):=h;show{_,am<|ap (ay (jl rfl) rfl T.all boot_all<|aa (qw (N:=["one","other"]) (k:=2) (js:=[]) (g:=gTup K 2<|gCons (cg 0) (gCons (cg 1) wG)) rfl (pF rfl (by decide +kernel) (by decide +kernel) (by decide +kernel)) rfl (λi r x h=>by simp at h)
   (Dj rfl T.zip<|aa (pv 0) (aa (cH (SlR.or lL sw) (pv 0) (cX ai) dR) ae))
   (λs H fp=>jD (n:=2) rfl<|bO (bf (i:=0) (show(["one","other"]:List Str).Nodup by decide +kernel) rfl (Or.inl rfl)<|Or.inr rfl) (bO (bf (i:=1) (show(["one","other"]:List Str).Nodup by decide +kernel) rfl (Or.inl rfl)<|Or.inr rfl) ig))
   (λs H fp=>eR wK (ixT K (pv 0) ai) (ixT K (pv 1) ai)<|av _)) ae),?_}
  have a1:∀(B:zv)(H1:Hp),Same H H1->H1 B=some (.tup<|aI (zs.drop 1))->∀p,H1 p=none->∀C:VK,(∀(q:zv)(bs:List Bool)(H':Hp),Same H H'->H' q=some (.lst<|bs.map V.bl)->bs.all id=TW.adj (nds zs)->C (.ref q) H') ->
    LcW 2 [] (gTup K 2<|gCons (cg 0) (gCons (cg 1) wG)) (tOp (rI0 λi r=>.bl<|decide (i<r)) (tOp (rIxT K) (tVar 0)<|tC (.int 0))<|tOp (rIxT K) (tVar 1) (tC<|.int 0)) (start ["nodes"] [.ref t]) C (Itz K t B) H1 p:=by
   intro B H1 s1 M p hp C d2;have e1:H p=none:=s1.free hp;have I:H1 t=some (.tup<|aI zs):=s1 _ _ c;have e3:((nds zs).zip ((nds zs).drop 1)).length=zs.length-1:=by rw[List.length_zip,G1,au];lia
   show xE (k:=2) (js:=[]) (J:=Itz K t B) (p:=p) (zs.length-1) (by lia) (λi ys l H'=>ys=((((nds zs).zip ((nds zs).drop 1)).take i).map ltP).map V.bl/\l.length=2/\Same H1 H'/\H' p=some (.lst ys))
    ⟨rfl,rfl,ag hp,ac⟩ (λi ys l H' h=>?_) (λi ys l H' hi h=>?_) (λys l H' h=>?_) (λi ys l H' hi h v H2 hy=>?_) ?_ ?_
   .rw[h.1,A1,A1,D6];lia
   .let(_,_,b,_):=h;show{_,_,_,_,SqT.of<|b _ _ I,SqT.of<|b _ _ M,jo<|A2 (by lia),jo (z:=zs[i+1]) ?_};rw[List.getElem?_drop,show 1+i=i+1 by lia,A2 (by lia)]
   .let(D,_,b,o):=h;show{{_,_,SqT.of<|b _ _ I,SqT.of<|b _ _ M,.inr (by rw[ba,G1];show A8 _)},?_};rw[D]at o;show d2 p _ H' (s1.trans b) o ?_;rw[E4 (by lia),all_map,TW.uj];rfl
   .let(D,c1,b,o):=h;let(e4,e5,rfl):=sH c1;let(q,x,y,L,rfl,c8,c9,rfl):=hy;let(d,X,rfl):=db<|c8 _ (SqT.of<|b _ _ I);let(j,G,rfl):=db<|c9 _ (SqT.of<|b _ _ M);rw[List.getElem?_drop,show 1+i=i+1 by lia]at G;have a2:Same H (upd H' q<|.tup [.ref d.1,.ref j.1]):=(s1.trans b).trans (ag L);show{q,_,rfl,SqT.of ac,rfl,_,_,rfl,_,_,rfl,rfl,?_};show{_,rfl,d.1,_,_,_,rfl,rfl,SqT.of<|a2 _ _ (Y d<|C3 X),at0 d.2,_,rfl,j.1,_,_,_,rfl,rfl,SqT.of<|a2 _ _ (Y j<|C3 G),at0 j.2,_,_,rfl,rfl,bh L o,?_,rfl,aV hp<|b.trans (ag L),ac};have c4:((nds zs).zip ((nds zs).drop 1))[i]?=some (d.2,j.2):=by
     rw[List.getElem?_zip_eq_some];show{by unfold nds;rw[B7,X];rfl,by unfold nds;rw[List.getElem?_drop,B7,show 1+i=i+1 by lia,G];rfl}
    rw[D,take_succ,c4];simp[ltP]
   .rintro _ _ _ _ _ m ⟨a,xs,h1,h2,h3,O,d3,c5,R,d4,c6,c7,q⟩;show{a,xs,h1,h2,h3,O,d3,c5,R,d4,c6,c7,m _ _ q}
   .rintro _ _ _ _ m ⟨O,a3,u,d7,d0,d5,a5,a6,a7,b4,R,a4,p2,d8,d1,d6,a8,a9,b1,b2,i,r,b3,c0,q⟩;show{O,a3,u,d7,d0,d5,a5,a6,a7,b4,R,a4,p2,d8,d1,d6,a8,a9,b1,b2,i,r,b3,c0,m _ _ q}
  have W:∀(q:zv)(bs:List Bool)(H':Hp),Same H H'->H' q=some (.lst<|bs.map V.bl)->bs.all id=TW.adj (nds zs)->∃a,∃S:List Bool,[V.ref q]=[V.ref a]/\SqL K H' a (S.map V.bl)/\Q (.bl<|S.all id) H':=λq bs H' s' e c2 =>
   {q,bs,rfl,SqL.of e,by rw[c2];show k _ s'}
  show{_,rfl,_,rfl,_,rfl,?_}
  by_cases a0:zs=[]
  .subst a0;show .inr {t,_,rfl,SqT.of c,rfl,rfl,t,t,_,_,rfl,c,c,λp hp=>(a1 t H (Same.refl H) c p hp _ W)}
  .have e0:1<=zs.length:=by
    cases zs with
    |nil=>show absurd rfl a0
    |cons _ _=>simp
   show .inl {t,_,rfl,SqT.of c,?_,λu Z=>?_}
   .rw[ba];intro h;have:HT.sIx zs.length 0 (some ((1:Nat):Int))=min 1 zs.length:=HT.lc _ _ _
    lia
   .have c3:iu (aI zs) (some 1) none=aI (zs.drop 1):=by
     unfold iu;rw[HT.iY,ba,show HT.sIx zs.length 0 (some (1:Int))=min 1 zs.length from HT.lc _ _ 1,show min 1 zs.length=1 by lia];unfold aI;rw[<-List.map_drop,<-List.map_drop,E4 (by simp)]
    rw[c3];show{t,u,_,_,rfl,bh Z c,ac,λp hp=>(a1 u _ (ag Z) ac p hp _ W)}
inductive spOwn(vs:List V)(H:Hp)(Q:VK)(E_:XK):Prop
 |mk t zs (_:vs=[.ref t]) (_:H t=some (.tup<|aI zs)) (_:At H zs) (_:zs.length<=60) (_:TW.bY<|nds zs) (_:∀H',Same H H'->Q (.bl true) H')
theorem Ge:FnScope ["nodes"] ["nodes"] (ak Do):=fsc
theorem DX{f:zv}{j:xl}(F:Fun K "have_own_places" "have_own_places" Do f j)(T:Txt mg):aE P w K mg base CX0 1 f j ["nodes"] spOwn:=by
 show F.okA Ge λcdv A outer s H vs Q E G h=>?_
 .let(t,zs,rfl,d,u,M,v,k):=h;show{_,am<|ap (eR cT (ay qH rfl T.len F3<|aa (aD (nk rfl<|jP G) rfl T.set rfl<|aa (bH lcS (bE<|pv 0)
   (λs H fp=>aK<|aa (ixT K (pv 0) ai) (aa (ixT K (pv 0) ai) ae))) ae) ae)
   (ay aP rfl T.len F3<|aa (pv 0) ae) (av _)),{_,rfl,t,rfl,⟨_,SqT.of d⟩,λp hp=>?_}}
  show bq (fr:=[]) zs (λz=>V.ref z.1) (by lia) hp (bx (by rw[aN];show SqT.of d)) rfl (λz y H'=>∃q,y=.ref q/\q≠p/\H' q=some (.tup<|(plK z.2).map kV)) (λz y H H' ⟨q,e,m,h⟩ ex=>⟨q,e,m,ex q _ m h⟩) (λz H' N L s1 D B=>?_) λys H1 s1 C J=>?_
  .have c:=SqT.of (K:=K)<|s1 _ _ (u z L);show{_,rfl,z.1,_,_,_,rfl,rfl,c,at1 z.2,_,rfl,z.1,_,_,_,rfl,rfl,c,at2 z.2,le2,λq b=>B _ _ (ag b) ⟨q,rfl,fi D b,ac⟩}
  .let(a,i,n,r):=dD (val:=V.ref) J λz y _ ⟨q,e,_,h⟩=>⟨q,e,h⟩;have l:a.length=zs.length:=by rw[<-i,A1]
   show{p,a.map λx=>(x.2,plK x.1.2),rfl,SqL.of (by rw[C,n,A7,A7];rfl),λz c=>?_,by rw[A1];lia,?_,λq b=>?_}
   .let(x,I,rfl):=A3.mp c;show r x I
   .rw[A7,show(a.map ((λx:zv×List Key=>x.2)∘λx:(zv×Nd)×zv=>(x.2,plK x.1.2)))=(nds zs).map plK by rw[<-i];unfold nds;rw[A7,A7];rfl];show(vO _).mpr v
   .show{q,_,rfl,ac,by rw[A1];lia,?_};have g:=s1.trans<|ag (o:=.ext<|pD q (a.map λx=>(x.2,plK x.1.2)).length) b;show{_,rfl,t,_,rfl,.inr<|SqT.of (g _ _ d),rfl,?_};rw[ba,A1,l,C7 rfl];show k _ (by rw[A1,l]at g;show g)
inductive spTree(vs:List V)(H:Hp)(Q:VK)(E_:XK):Prop
 |mk t zs (_:vs=[.ref t]) (_:Tre H t zs) (_:(∀n∈nds zs,iI n)) (_:∀H',Same H H'->Q (.bl true) H')
theorem DY:FnScope ["thing"] ["thing"] (ak xW):=fsc
theorem Bk{f:zv}{c:xl}(F:Fun K "is_tree" "is_tree" xW f c)(T:Txt mg)(CN:Has P w K mg base 3 "is_node" ["thing"] spNode)(CR:Has P w K mg base 1 "are_rising" ["nodes"] spRise)(t:Has P w K mg base 1 "have_own_places" ["nodes"] spOwn)(r:Has P w K mg base 1 "numbers_inside" ["nodes","folder"] spIns):aE P w K mg base CX0 4 f c ["thing"] spTree:=by
 let(Y,G):=T.top;show F.okA DY λcdv A outer s H vs Q E m h=>?_
 .let(a,zs,rfl,b,J,k):=h;have d:Room 1 _:=m.mono (by decide);have U:=b.len;show{_,af (aQ (PW.pt (pw_or (cm<|cF (ay cU rfl T.isin boot_isinstance<|aa (pv 0) (aa (ie (v:=.ty "tuple") rfl T.tuple boot_tuple rfl) ae)) (λ_=>rfl))
    (pw_or1<|cm (cF (ay (jl rfl) rfl T.all boot_all<|aa (bH lcS (bE<|pv 0)
     (λs H fp=>aw (X:=ca _ _ _ _ _ _ _) CN m<|aa (pv 0) ae)) ae) λ_=>rfl)))) (am<|ap kD) ax)
   (af (aQ (PW.pt<|pw_or (cm<|cF (aw CR d<|aa (pv 0) ae) (λ_=>rfl)) (pw_or1<|cm (cF (aw t d<|aa (pv 0) ae) λ_=>rfl))) (am<|ap kD) ax)
   (am<|ap (eR cT (ay aP rfl T.len F3<|aa (aw r d<|aa (pv 0) (aa (ce (v:=.int 0) rfl G ⟨_,rfl⟩) ae)) ae) (ay aP rfl T.len F3<|aa (pv 0) ae)<|av _))),{_,rfl,_,_,_,_,rfl,.tup b.tup,(by kernel_rfl:_=some true),_,rfl,aM ?_}}
  show{_,rfl,a,rfl,⟨_,SqT.of b.tup⟩,λp hp=>(bq (fr:=[]) zs (λz=>V.ref z.1) (by lia) hp (bx (by rw[aN];show SqT.of b.tup)) rfl (λz y _=>y=.bl true) (λz y H H' h _=>h) (λz H' W n s1 _ I=>?_) λys H1 s1 L M=>?_)}
  .show{_,rfl,z.1,z.2,rfl,s1 _ _<|b.nod z n,J z.2<|bK n,λj i=>I _ j i rfl}
  .have x:ys=(zs.map λ_=>true).map V.bl:=by rw[aG (f:=λ_:zv×Nd=>V.bl true) M λz y _ h=>h,A7];rfl
   show{p,zs.map λ_=>true,rfl,SqL.of (by rw[L,x]),_,rfl,?_};have D:(zs.map λ_=>true).all id=true:=by simp
   rw[D];show aM {_,rfl,a,zs,rfl,s1 _ _ b.tup,b.nod.same s1,by lia,λH2 N=>{_,rfl,?_}};have e:=s1.trans N;rw[(TW.ui _).mpr b.tr.rise];show aM {_,rfl,a,zs,rfl,e _ _ b.tup,b.nod.same e,by lia,b.tr.own,λj i=>{_,rfl,?_}};have g:=e.trans i;show aM {_,rfl,a,0,zs,rfl,g _ _ b.tup,b.nod.same g,by lia,λc S l u R C O=>?_};have o:=g.trans O;show{l,_,rfl,.inl<|SqL.of C,_,rfl,a,_,rfl,.inr<|SqT.of (o _ _ b.tup),rfl,?_};have q:=R.all;rw[au]at q;have B:decide (V.int ((eK c).length:Nat)=V.int ((aI zs).length:Nat))=true:=by
    unfold eK;rw[ba,A1,A1,(q.mpr b.tr.down)];simp
   rw[B];show k u o
end
def shf(k a n:Int):Int:=if n=0 then k else n+a
abbrev shT(k a:Int)(t:List Nd):List Nd:=t.map<|reN (shf k a)
theorem ly{k gr n:Int}(h:1<=n):shf k gr n=n+gr:=A4 (by lia)
theorem rA{t:List Nd}(T:TW.Tree1 t){k c:Int}:TW.bV (shT k c t):=by
 have h:=T.rise;unfold TW.bV at h|-;rw[C0];show h.imp_of_mem λ{a b} d e f=>?_;change shf k c a.num<shf k c b.num;rw[ly<|T.pos a d,ly<|T.pos b e]
 lia
def shK(os:ZN)(a:Int):List (Key×V):=os.map λz=>((Sum.inl z.2.num:Key),V.int<|z.2.num+a)
theorem uJ{os:ZN}{a k:Int}(c:(nums os).Nodup){z:zv×Nd}(d:z∈os)(b:1<=z.2.num):bu (bW (shK os a) (Sum.inl 0:Key)<|.int k) (Sum.inl z.2.num:Key)=some (.int<|shf k a z.2.num):=by
 rw[eI,A4 (λh=>by injection h with h;lia),ly b];show fR ?_<|A3.mpr ⟨z,d,rfl⟩;have:(shK os a).map (·.1)=(nums os).map (Sum.inl:Int->Key):=by unfold shK nums;rw[A7,A7];rfl
 rw[this];show gC c
section
variable{P:zi}{w:xr}{K:Frag}{mg:Str->Option zy}{base:qq}
inductive spGra(vs:List V)(H:Hp)(Q:VK)(E_:XK):Prop
 |mk t k o zs os gr (_:vs=[.ref t,.int k,.ref o]) (_:Tre H t zs) (_:Tre H o os) (_:Fold zs k) (_:(nums zs)[(nums zs).length-1]?=some gr) (_:TW.Tree1<|nds zs++shT k gr (nds os)) (_:zs.length+os.length<=30) (_:∀us w H',Same H H'->Tre H' w us->nds us=nds zs++shT k gr (nds os)->Q (.ref w) H')
theorem uK:FnScope ["tree","number","other","greatest","numbers","whole"] ["tree","number","other"] (ak jU):=fsc
theorem DZ{f:zv}{Y:xl}(F:Fun K "grafted" "grafted" jU f Y)(T:Txt mg)(b1:Has P w K mg base 1 "by_number" ["tree"] spByn)(b2:Has P w K mg base 2 "check_folder" ["nodes","number"] spCFk)(b3:Has P w K mg base 1 "greatest_number" ["tree"] spGre)(c1:Has P w K mg base 1 "with_numbers" ["tree","numbers"] spWNu)(c0:Has P w K mg base 1 "have_own_places" ["nodes"] spOwn):aE P w K mg base CX0 3 f Y ["tree","number","other"] spGra:=by
 let(f0,c8):=T.top;show F.okA uK λcdv A outer s H vs Q E O h=>?_
 .let(t,k,o,zs,os,a,rfl,l,u,d0,a2,c9,e7,q):=h;have I:Room 1 _:=O.mono (by decide);have a3:=bi l.tr;show{_,af (aZ<|aw b2 O (aa (aw b1 I<|aa (pv 0) ae)<|aa (pv 1) ae))
   (af (ar (i:=3) uK.nd rfl (Or.inr rfl)<|aw b3 I (aa (pv 0) ae))
   (af (ar (i:=4) uK.nd rfl (Or.inl rfl)<|aD (cx rfl) rfl T.dict boot_dict (aa (bH (fs:=["greatest"]) (cl:=[("greatest",s.heap.objs.size+1)]) (js:=[3]) lcF (bE<|pv 2)
    (λs H fp=>aK<|aa (ixT K (pv 0) ai) (aa (aO bT (ixT K (pv 0) ai)<|pv 1) ae))) ae))
   (af (jg (bv O) (pv 4) (ce (v:=.int 0) rfl c8 ⟨_,rfl⟩) (pv 1) rfl)
   (af (ar (i:=5) uK.nd rfl (Or.inl rfl)<|aO (r:=rCatT K) ij (pv 0) (aw c1 I<|aa (pv 2) (aa (pv 4) ae)))
   (af (aQ (cm<|cF (aw c0 I<|aa (pv 5) ae) (λ_=>rfl)) aA ax)
   (am<|ap (pv 5))))))),?_}
  have N:=fV<|lx u.tr;have a4:∀z∈os,1<=z.2.num:=λz B=>u.tr.pos z.2<|bK B;show{_,rfl,t,zs,rfl,l.tup,l.nod,by lia,a3,λd H1 s1 e1=>{_,rfl,d,k,zs,rfl,e1,l.nod.same s1,a3,d0,?_}};show{_,rfl,t,zs,a,rfl,l.same s1,a2,λH2 e2=>?_};have a8:=s1.trans e2;have S:=u.same a8;show{_,rfl,o,rfl,⟨_,SqT.of S.tup⟩,λp hp=>?_};show bq (fr:=[some<|.int a]) os (λz=>V.ref z.1) (by lia) hp (bx (by rw[aN];show SqT.of S.tup)) rfl (CpR (λz=>Sum.inl z.2.num) (λz=>.int<|z.2.num+a) p) (λ_ _ _ _ h e=>h.ext e) (λz H' e9 e0 R d3 d1=>?_) λys M R d2 d9=>?_
  .have a7:=R _ _<|S.nod z e0;show{_,rfl,z.1,_,_,_,rfl,rfl,SqT.of a7,at0 z.2,_,rfl,z.1,_,_,_,rfl,rfl,SqT.of a7,at0 z.2,_,rfl,_,_,rfl,rfl,le2,λq a5=>d1 _ _ (ag a5)<|CpR.new d3 a5}
  let(U,c2,c3,e6,c4,c5):=CpR.dct d2 d9;have a9:=a8.trans R;show{p,U,rfl,c2,c3,by lia,by rw[c4];have:=gC N;unfold nums at this;rwa [A7]at this,λg a0=>?_};rw[show U.map (·.2)=shK os a from c5];show{_,rfl,_,rfl,g,_,rfl,qp.k (k:=Sum.inl 0) (kvs:=shK os a) ac<|aU (by unfold shK;rw[A1];lia),?_};have J:Same H (upd (upd M g<|.dK (shK os a)) g<|.dK (bW (shK os a) (Sum.inl 0:Key)<|.int k)):=aV (a9.free a0)<|a9.trans (ag (o:=.dK<|shK os a) a0);have a1:(upd (upd M g<|.dK (shK os a)) g<|.dK (bW (shK os a) (Sum.inl 0:Key)<|.int k)) g=some (.dK<|bW (shK os a) (Sum.inl 0:Key) (.int k)):=ac;generalize upd (upd M g<|.dK (shK os a)) g (.dK<|bW (shK os a) (Sum.inl 0:Key) (.int k))=e5 at J a1|-;show{_,rfl,_,rfl,_,rfl,o,g,os,_,shf k a,rfl,.inl<|J _ _ u.tup,u.nod.same J,by lia,a1,λz B=>{uJ N B<|a4 z B,?_},?_,λus e4 G e3 d6 c7 d4 d5=>?_}
  .have:=u.tr.down z.2<|bK B;generalize z.2=n at this;cases this with
   |base _ e =>
    rw[e,eI,A6 rfl];rfl
   |@step m _ hrm _ _ e =>
    let(y,hy,c6):=bZ hrm.mem;rw[e,<-c6];show uJ N hy<|a4 y hy
  .have:=fV (show((shT k a<|nds os).map (·.num)).Pairwise (· < ·)from C0.mpr<|rA u.tr);unfold nds at this
   rwa [A7,A7]at this
  have X:nds us=shT k a (nds os):=TW.eP d5 (rA u.tr) λx=>d4.mem_iff;have e8:us.length=os.length:=by
   have:=congrArg length X
   rwa [A1,au,au]at this
  have L:=J.trans e3;have W:nds (zs++us)=nds zs++shT k a (nds os):=by rw[<-X];unfold nds;rw[CG]
  have a6:aI (zs++us)=aI zs++aI us:=by unfold aI;rw[CG,CG]
  have Z:∀(c:zv)(j:Hp),Same G j->j c=some (.tup<|aI (zs++us))->Tre j c (zs++us):=λc j C d7=>⟨d7,λz B=>by
   rcases C6.mp B with h|h
   .show C _ _ (L _ _<|l.nod z h)
   .show C _ _<|c7 z h,by rw[W];show c9,by rw[B0];lia⟩
  have rest:∀(c:zv)(j:Hp),Same G j->Tre j c (zs++us)->∀H8,Same j H8->Q (.ref c) H8:=λc j C b H8 D=>q (zs++us) c H8 ((L.trans C).trans D) (b.same D) W;show{t,e4,_,_,rfl,rfl,SqT.of<|L _ _ l.tup,SqT.of d6,λh=>?_,aF (by rw[ba,ba];lia),λh=>?_,λ_ c d8=>?_}
  .have:=congrArg length h;rw[ba]at this;have e:=(A9.mp a2).1;unfold nums at e;rw[A1]at e;have:zs.length=0:=this
   lia
  .have b:=Z t G (Same.refl _) (by rw[L _ _ l.tup,a6,h,append_nil]);show{_,rfl,t,zs++us,rfl,b.tup,b.nod,by have:=b.len;lia,b.tr.own,λH8 D=>{_,rfl,aM {_,rfl,rest t G (Same.refl _) b H8 D}}}
  .have C:=ag (o:=.tup<|aI zs++aI us) d8;have b:=Z c _ C (by rw[ac,a6]);show{_,rfl,c,zs++us,rfl,b.tup,b.nod,by have:=b.len;lia,b.tr.own,λH8 D=>⟨_,rfl,aM ⟨_,rfl,rest c _ C b H8 D⟩⟩}
end
end TK
namespace L2
open PySem PySem.Spec PyProof.Rows Builtin.Str
theorem oK:∀l:List<|Str×Tok,aB ((l.map (·.1)).map V.str) (strValues l)
 |[]=>.nil
 |p::l=>.cons ⟨p.2,rfl⟩<|oK l
section
variable{X:Cx}
theorem wp(x y:Str):(Txt.split x y).length<=x.length+2:=by
 have h:=StrLaws.occ_length_le_len x y 0 x.length<|x.length+1;unfold Txt.split
 split
 .change 1<=_;lia
 .split
  .change 1<=_;lia
  .rw[length_partsBetween];lia
def Ea:V->List V->Hp->VK->Prop:=λx vs H Q=>∃y z,x=.str y/\vs=[.str z]/\(z.length==0)=false/\y.length<=5000/\∀p,H p=none->Q (.ref p) (upd H p<|.lst ((Txt.split y z).map V.str))
theorem kq:MtM X "str.split" Ea:=by
 intro pins s σ H x xs v us Q I j i h;let(y,z,rfl,rfl,d,hy,q):=h;let(t,rfl):=j;let(u,rfl,g):=i.one;let(u,rfl):=g;have f:y.length<=sizeLine:=by rw[sizeLine_eq];lia
 have k:=wp y z;have c:∀(l:List<|Str×Tok)(tk:Nat),l.map (·.1)=Txt.split y z->EP X pins σ Q (.ref s.heap.objs.size) {s with heap:=s.heap.push {cls:=.type "list",data:=.seq (strValues l).toArray},toks:=tk}:=λl tk e=>by
  show{.ref s.heap.objs.size,_,I.laid (t':=tk) (o:=.lst<|(Txt.split y z).map V.str) (λb o e=>A0 _ e) (A8 _) ?_,rfl,q _<|I.hok.fresh (A8 _)};show{by rw[A1,sizeLine_eq];lia,strValues l,0,?_,A5 _ rfl};rw[<-e];show oK l
 cases h1:(decide (y.length<z.length)||decide (strKind y<strKind z))
 .cases a:(occurrences y z 0 y.length<|y.length+1).isEmpty
  .have e:Txt.split y z=partsBetween y (occurrences y z 0 y.length<|y.length+1) z.length:=(A4<|ne_true_of_eq_false h1).trans (A4<|ne_true_of_eq_false a);show call_meets F.slot_str_split (typeIs_str _ _ _) F.entry_str_split (F.args_str_split_2 _ _) (meets_str_split_sep y z t u h1 d a f (by rw[<-e,sizeLine_eq];lia)) ?_;change wants (EP X pins σ Q) _ _ {s with toks:=_,heap:=s.heap.push {cls:=.type "list",data:=.seq (strsFrom s.toks<|partsBetween y (occurrences y z 0 y.length<|y.length+1) z.length).toArray}}
   rw[strsFrom_eq];show c _ _<|(numbered_texts _ _).trans e.symm
  .show call_meets F.slot_str_split (typeIs_str _ _ _) F.entry_str_split (F.args_str_split_2 _ _) (meets_str_split_not_found y z t u h1 d a)<|c [(y,t)] s.toks ((A4<|ne_true_of_eq_false h1).trans (A6 a)).symm
 .show call_meets F.slot_str_split (typeIs_str _ _ _) F.entry_str_split (F.args_str_split_2 _ _) (meets_str_split_cannot_occur y z t u h1)<|c [(y,t)] s.toks (A6 h1).symm
theorem Bl:MtM X "str.endswith" (λx vs H Q=>∃y z,x=.str y/\vs=[.str z]/\Q (.bl<|Txt.endswith y z) H):=by
 intro pins s σ H x xs v us Q I c b h;let(y,z,rfl,rfl,q):=h;let(t,rfl):=c;let(u,rfl,a):=b.one;let(u,rfl):=a;show SC.endswith ⟨.bl _,H,I,rfl,q⟩
def iz(y z:Str):List Str:=match lastOccurrence y z 0 y.length with
 |some i=>[strSub y 0 i,z,strSub y (i+z.length) y.length]
 |none=>[empty,empty,y]
theorem yT:MtM X "str.rpartition" (λx vs H Q=>∃y z,x=.str y/\vs=[.str z]/\(z.length==0)=false/\y.length<=5000/\∀p,H p=none->Q (.ref p) (upd H p<|.tup ((iz y z).map V.str))):=by
 intro pins s σ H x xs v us Q I j g h;let(y,z,rfl,rfl,d,hy,q):=h;let(t,rfl):=j;let(u,rfl,f):=g.one;let(u,rfl):=f;have c:y.length<=sizeLine:=by rw[sizeLine_eq];lia
 have a:∀(its:List zy)(tk:Nat),aB ((iz y z).map V.str) its->EP X pins σ Q (.ref s.heap.objs.size) {s with heap:=s.heap.push {cls:=.type "tuple",data:=.seq its.toArray},toks:=tk}:=λits tk r=>by
  show{.ref s.heap.objs.size,_,I.laid (t':=tk) (o:=.tup<|(iz y z).map V.str) (λb o e=>A0 _ e) (A8 _) ?_,rfl,q _<|I.hok.fresh (A8 _)};show{?_,its,r,IsTup.new _ _};unfold iz
  split<;>(change 3<=sizeLine;rw[sizeLine_eq];decide)
 show call_meets F.slot_str_rpartition (typeIs_str _ _ _) F.entry_str_rpartition (F.args_str_rpartition_2 _ _) (meets_str_rpartition y z t u d c) ?_;unfold iz at a;change wants (EP X pins σ Q) _ _ _;cases e:lastOccurrence y z 0 y.length with
 |none =>
  simp only[e]at a|-;show a _ _<|.cons ⟨_,rfl⟩ (.cons ⟨_,rfl⟩<|.cons ⟨_,rfl⟩ .nil)
 |some i =>
  simp only[e]at a|-;show a _ _<|.cons ⟨_,rfl⟩ (.cons ⟨_,rfl⟩<|.cons ⟨_,rfl⟩ .nil)
theorem gZ:MtM X "str.join" (λx vs H Q=>∃z l,∃texts:List Str,x=.str z/\vs=[.ref l]/\H l=some (.lst<|texts.map V.str)/\JoinOk z texts=true/\Q (.str<|Txt.join z texts) H):=by
 intro pins s σ H x xs v us Q I w p h;let(z,l,texts,rfl,rfl,e,g,q):=h;let(t,rfl):=w;let(u,rfl,o):=p.one;cases o;let(y,its,n,r,f):=I.hok l _ e;obtain⟨b,c,d⟩:∃b:List<|Str×Tok,strValues b=its/\b.map (·.1)=texts:=by
  clear f q g e y
  induction texts generalizing its with
  |nil=>cases r;show{[],rfl,rfl}
  |cons a rest i =>
   cases r with
   |cons j m =>
    let(tk,rfl):=j;let(b,c,d):=i _ m;show{(a,tk)::b,by rw[<-c];rfl,by rw[<-d];rfl}
 subst c;show SC.join (l:=b) ⟨_,f,rfl,n,rfl⟩ d g λA k=>⟨.str _,H,I.tok _,⟨_,rfl⟩,q⟩
theorem wq:cq X (.type "int") (λxs H Q=>∃y n,xs=[.str y]/\y.length<=640/\PySem.intText? y=some n/\Q (.int n) H):=by
 intro pins s σ H xs us Q I r h;let(y,n,rfl,a,b,q):=h;let(u,rfl,c):=cD r;let(t,rfl):=c;show PySem.W.KIN.call_text b a ⟨.int n,H,I.tok _,⟨_,rfl⟩,q⟩
theorem Eb:SlR X (λx lo hi H Q=>∃y,x=.str y/\y.length<=5000/\Q (.str<|StrLaws.sliceText y lo hi) H):=by
 intro pins s σ H x v p B lo hi b Q I n hs pl c h;let(y,rfl,hy,q):=h;let(t,rfl):=n;have m:y.length<=sizeLine:=by rw[sizeLine_eq];lia
 have go:∀(l u:Option<|Int×Tok),s.heap.IsSlice b l u none->wpAny (model X.prog X.w) X.A (getItem (.str y t)<|.ref b) (EP X pins σ λv H'=>v=.str (StrLaws.sliceText y (l.map (·.1))<|u.map (·.1))/\H'=H) X.xe s:=λl u h=>by
  show wpAny_getItem_str_slice (l:=l) (u:=u) (st:=none) h rfl<|post_val_or_str {?_,λo k=>⟨.str _,H,I.tok _,⟨o,rfl⟩,rfl,rfl⟩};show CL (Txt.slice_le y _ _) m
 have a:∀{z:Str},wpAny (model X.prog X.w) X.A (getItem (.str y t)<|.ref b) (EP X pins σ λv H'=>v=.str z/\H'=H) X.xe s->Q (.str z) H->wpAny (model X.prog X.w) X.A (getItem (.str y t)<|.ref b) (EP X pins σ Q) X.xe s:=λh q=>wpAny_mono h (λv s' ⟨x,H',d,r,f,g⟩=>{x,H',d,r,by rw[f,g];show q}) λ_ _ e=>e;show{"str",_,F.slot_str_getitem.lookup,typeIs_str _ _ _,?_};cases pl with
 |none=>cases c with
  |none=>show a (go none none hs) q
  |@int j tj=>show a (go none (some (j,tj)) hs) q
 |@int i ti=>cases c with
  |none=>show a (go (some (i,ti)) none hs) q
  |@int j tj=>show a (go (some (i,ti)) (some (j,tj)) hs) q
abbrev TFX:=Str->St->Hp->VK->Prop
def PFX(X:Cx)(ps:List Expr)(t:TFX):Prop :=
 ∀(a:Str)(pins:List<|zv×Obj)(s:zn)(σ:St)(H:Hp)(Q:VK),Inv X pins σ H s->t a σ H Q->wpAny (model X.prog X.w) X.A (joinParts a<|evalEach ps X.env) (EP X pins σ Q) X.xe s
theorem yU:PFX X [] (λa σ H Q=>a.length<=sizeLine/\Q (.str a) H):=by
 intro a pins s σ H Q I h;show joinParts_nilE<|joinParts_nil ⟨.str _,H,I.tok _,⟨_,rfl⟩,h.2⟩ h.1
theorem mK{x:Str}{j:Nat}{p:Pos}{ps:List Expr}{t:TFX}(c:PFX X ps t):PFX X (.Constant (.str x) j p::ps) (λa σ H Q=>(a++x).length<=sizeLine/\t (a++x) σ H Q):=by
 intro a pins s σ H Q I b;show joinParts_cons<|Calls.Constant_str ?_;show{b.1,c _ pins _ σ H Q (I.tok _) b.2}
theorem yV{e:Expr}{b:TE}{p:Pos}{ps:List Expr}{t:TFX}(f:PE X e b)(d:PFX X ps t):PFX X (.FormattedValue e (-1) none p::ps) (λa σ H Q=>b σ H λv H1=>∃x:Str,v=.str x/\x.length<=sizeLine/\(a++x).length<=sizeLine/\t (a++x) σ H1 Q):=by
 intro a pins s σ H Q I h;show joinParts_cons<|FormattedValue_plain (thn (f pins _ σ H _ I h) λv s1 g=>?_);let(y,H1,c,j,i):=g;let(x,rfl,h1,h2,q):=i;let(tk,rfl):=j;show formatField_str (λk tk=>{h2,d _ pins _ σ H1 Q (c.tok _) q}) h1
theorem sU{e:Expr}{b:TE}{p:Pos}{ps:List Expr}{t:TFX}(f:PE X e b)(d:PFX X ps t):PFX X (.FormattedValue e (-1) none p::ps) (λa σ H Q=>b σ H λv H1=>∃i:Int,v=.int i/\i.natAbs.log2<1920/\(a++ofString (toString i)).length<=sizeLine/\t (a++ofString (toString i)) σ H1 Q):=by
 intro a pins s σ H Q I h;show joinParts_cons<|FormattedValue_plain (thn (f pins _ σ H _ I h) λv s1 g=>?_);let(y,H1,c,k,j):=g;let(i,rfl,h1,h2,q):=j;let(tk,rfl):=k;show formatField_int_small h1 {h2,d _ pins _ σ H1 Q (c.tok _) q}
def tFx(t:TFX):TE:=λσ H Q=>t empty σ H Q
theorem BS{a b:Expr}{ps:List Expr}{pos:Pos}{t:TFX}(c:PFX X (a::b::ps) t):PE X (.JoinedStr (a::b::ps) pos) (tFx t):=by
 intro pins s σ H Q I d;show JoinedStr_many<|c empty pins s σ H Q I d
end
end L2
namespace TK
open PySem L2
abbrev Wt:=List Str×Nd
structure Wk(t:List Nd)(ws:List Wt):Prop where
 up:ws.Pairwise λa b=>HT.cJ a.1 b.1=true
 mem:∀p n,(p,n)∈ws↔n∈t/\TW.PathTo t n.num p
theorem Ec{α:Type}{R:α->α->Prop}(g:∀a,¬R a a)(j:∀a b,R a b->¬R b a):∀{l m:List α},l.Pairwise R->m.Pairwise R->(∀x,x∈l↔x∈m)->l=m
 |[],[],_,_,_=>rfl
 |[],b::m,_,_,h=>absurd ((h b).mpr B4) CU
 |a::l,[],_,_,h=>absurd ((h a).mp B4) CU
 |a::l,b::m,h1,h2,h=>by
  let(i,n):=E1.mp h1;let(k,o):=E1.mp h2;have e:a=b:=by
   rcases B3.mp ((h a).mp B4)with e|p
   .show e
   .rcases B3.mp ((h b).mpr B4)with e|q
    .show e.symm
    .show absurd (i b q)<|j b a (k a p)
  subst e;rw[Ec g j n o λx=>?_];have f:=h x;rw[B3,B3]at f;constructor
  .intro c;rcases f.mp (.inr c)with e|d
   .subst e;show absurd (i x c)<|g x
   .show d
  .intro d;rcases f.mpr (.inr d)with e|c
   .subst e;show absurd (k x d)<|g x
   .show c
section
variable{t u:List Nd}{ws vs:List Wt}
theorem Bn(a:Wt):¬HT.cJ a.1 a.1=true:=by rw[HT.ci];simp
theorem Bo(a b:Wt)(c:HT.cJ a.1 b.1=true):¬HT.cJ b.1 a.1=true:=λh2=>by
 have:=HT.jn c h2;rw[HT.ci]at this;cases this
theorem Wk.one(h:Wk t ws)(h':Wk t vs):ws=vs:=Ec (R:=λa b:Wt=>HT.cJ a.1 b.1=true) Bn Bo h.up h'.up λx=>by rw[show x=(x.1,x.2)from rfl,h.mem,h'.mem]
theorem Wk.node(T:TW.Tree1 t)(f:Wk t ws){a b:Wt}(j:a∈ws)(k:b∈ws)(e:a.2.num=b.2.num):a=b:=by
 let(g,c):=(f.mem a.1 a.2).mp j;let(h,i):=(f.mem b.1 b.2).mp k;have d:=T.inj g h e;rw[d]at c;show Prod.ext (c.uniq T i) d
theorem Wk.path(g:Wk t ws){a b:Wt}(c:a∈ws)(d:b∈ws)(e:a.1=b.1):a=b:=by
 have key:∀{l:List Wt},l.Pairwise (λa b=>HT.cJ a.1 b.1=true)->∀{a b:Wt},a∈l->b∈l->a.1=b.1->a=b:=by
  intro l h
  induction h with
  |nil=>intro a b c;show(CU c).elim
  |@cons x l hx _ ih =>
   intro a b c d e;rcases B3.mp c with ea|c<;>rcases B3.mp d with f|d
   .rw[ea,f]
   .have:=hx b d;rw[<-ea,e,HT.ci]at this;cases this
   .have:=hx a c;rw[<-f,<-e,HT.ci]at this;cases this
   .show ih c d e
 show key g.up c d e
theorem Wk.nums(T:TW.Tree1 t)(c:Wk t ws):(ws.map (·.2.num)).Nodup:=by
 unfold Nodup;rw[C0];show Pairwise.imp_of_mem (R:=λa b=>HT.cJ a.1 b.1=true) (λ{a b} f g d e=>?_) c.up;have:=c.node T f g e;rw[this,HT.ci]at d;cases d
end
section
variable{t u v:List Nd}{wo wn:List Wt}{G:Int}{g:Int->Int}
theorem yW{a b:List Nd}(d:TW.bV a)(e:TW.bV b)(c:∀x,x∈a↔x∈b):a=b :=
 Ec (R:=λa b:Nd=>a.num<b.num) (λa=>Int.lt_irrefl _) (λa b h1 h2=>Int.lt_asymm h1 h2) d e c
end
abbrev sg(x:Str):List Nat:=x.cps.toList
def ch(c:Nat):Str:={#[c]}
theorem kr{x y:Str}(h:sg x=sg y):x=y:=Str.ext'<|toList_inj.mp h
theorem cR(x y:Str):sg (x++y)=sg x++sg y:=by change(x.cps++y.cps).toList=_;rw[toList_append]
theorem dk(x:Str):(sg x).length=x.length:=rfl
theorem bc(x y:Str):(x++y).length=x.length+y.length:=Str.length_append x y
theorem uL{c:Nat}:∀{a b r s:List Nat},c∉a->c∉b->a++c::r=b++c::s->a=b/\r=s
 |[],[],_,_,_,_,h=>⟨rfl,by injection h⟩
 |[],x::b,_,_,_,hb,h=>by
  injection h with h1 _
  show absurd (h1 ▸ B4) hb
 |x::a,[],_,_,ha,_,h=>by
  injection h with h1 _
  show absurd (h1 ▸ B4) ha
 |x::a,y::b,r,s,ha,hb,h=>by
  injection h with h1 h2
  let(d,e):=uL (λz=>ha<|B1 _ z) (λz=>hb<|B1 _ z) h2;show{by rw[h1,d],e}
theorem yX{c:Nat}{a b r:List Nat}(e:c∉b)(d:a++c::r=b):False:=e (by rw[<-d];simp)
theorem lz(c:Nat)(x y:Str)(r:List Str):sg (join (ch c) (x::y::r))=sg x++c::sg (join (ch c) (y::r)):=by
 change sg (x++ch c++join (ch c) (y::r))=_;rw[cR,cR];change sg x++[c]++_=_;simp
theorem rB{c:Nat}:∀{ps qs:List Str},ps≠[]->qs≠[]->(∀p∈ps,c∉sg p)->(∀p∈qs,c∉sg p)->join (ch c) ps=join (ch c) qs->ps=qs
 |[],_,h,_,_,_,_=>absurd rfl h
 |_,[],_,h,_,_,_=>absurd rfl h
 |[x],[y],_,_,_,_,h=>by rw[show x=y from h]
 |[x],y::z::r,_,_,hp,_,h=>by
  have h:=congrArg sg h;rw[lz]at h;show(yX (hp x B4) h.symm).elim
 |x::z::r,[y],_,_,_,hq,h=>by
  have h:=congrArg sg h;rw[lz]at h;show(yX (hq y B4) h).elim
 |x::z::r,y::u::s,_,_,hp,hq,h=>by
  have h:=congrArg sg h;rw[lz,lz]at h;let(a,b):=uL (hp x B4) (hq y B4) h;have:=rB (c:=c) (ps:=z::r) (qs:=u::s) (by simp) (by simp) (λp h=>hp p<|B1 _ h) (λp h=>hq p<|B1 _ h)<|kr b;rw[kr a,this]
theorem rC(x y:Str):Txt.split x y≠[]:=by
 unfold Txt.split
 split
 .simp
 .split
  .simp
  .intro h;have:=PySem.length_partsBetween x (Builtin.Str.occurrences x y 0 x.length<|x.length+1) y.length;rw[h]at this;cases this
theorem hV{c:Nat}{x:Str}{ps:List Str}(b:ps≠[])(d:∀p∈ps,c∉sg p)(a:join (ch c) ps=x):Txt.split x (ch c)=ps :=
 rB (rC _ _) b (λp e=>StrLaws.split_free x c p e) d ((StrLaws.join_split x<|ch c).trans a.symm)
def Ed(x:Str):Bool:=(sg x).all λc=>decide<|48<=c/\c<=57
def sV(x:Str):Bool:=(decide (1<=x.length)&&decide (x.length<=9))&&Ed x && !(decide ((sg x).head?=some 48)&&decide (x≠ch 48))
def cA(x:Str):Option Int:=if sV x=true then some ((PySem.NumText.digitsVal (sg x):Nat):Int)else none
theorem yY{x:Str}(a:Ed x=true):PySem.NumText.AllDigits (sg x):=λc b=>of_decide_eq_true<|G5.mp a c b
theorem wt{x:Str}(h:sV x=true):PySem.intText? x=some ((PySem.NumText.digitsVal (sg x):Nat):Int)/\x.length<=9:=by
 unfold sV at h;rw[D7,D7,D7]at h;let(((h1,h2),h3),_):=h;have h1:=of_decide_eq_true h1;have h2:=of_decide_eq_true h2;show{PySem.intText_digits (yY h3) (λe=>by have e:sg x=[]:=e;rw[<-dk,e]at h1;simp at h1) (by lia),h2}
def nt(n:Int):Str:=ofString<|toString n
theorem BT(m:Nat):sg (nt (m:Int))=(toDigits 10 m).map Char.toNat:=PySem.W.KIN.signs_num m
theorem pN{n:Int}(b:0<=n):∀c∈sg (nt n),48<=c/\c<=57:=by
 let(m,rfl):=Int.eq_ofNat_of_zero_le b;intro c a;rw[BT]at a;let(k,d,rfl):=A3.mp a;show PyProof.Rows.digit_range<|Nat.isDigit_of_mem_toDigits (by decide) (by decide) d
theorem nq{m:Nat}(g:10<=m):∃c r,toDigits 10 m=c::r/\c ≠ '0':=by
 induction m using Nat.strongRecOn with
 |_ m f =>
  have b:m % 10<10:=mod_lt m (by decide);have t:toDigits 10 (m / 10)++toDigits 10 (m % 10)=toDigits 10 (10*(m / 10)+m % 10):=Nat.toDigits_append_toDigits (by decide) (by lia) b;rw[Nat.div_add_mod]at t
  by_cases h2:10<=m / 10
  .let(c,r,e,a):=f (m / 10) (by lia) h2;show{c,r++toDigits 10 (m % 10),by rw[<-t,e];rfl,a}
  .rw[Nat.toDigits_of_lt_base (by lia:m / 10<10)]at t;show{_,_,t.symm,?_};have:∀d:Nat,d<10->1<=d->digitChar d ≠ '0':=by decide
   show this _ (by lia) (by lia)
theorem gE{n:Int}(a:0<=n)(o:n<10 ^ 9):cA (nt n)=some n/\1<=(nt n).length/\(nt n).length<=9:=by
 have h:=pN a;let(m,rfl):=Int.eq_ofNat_of_zero_le a;have i:m<10 ^ 9:=by lia
 have e:=BT m;have s:(toDigits 10 m).length<=9:=by
  have:=(Nat.length_toDigits_le_iff (b:=10) (k:=9) (n:=m) (by decide) (by decide)).mpr i;show this
 have q:1<=(toDigits 10 m).length:=by
  have:=PySem.toDigits_len_ge 10 m
  lia
 have p:(nt (m:Int)).length=(toDigits 10 m).length:=by rw[<-dk,e,A1]
 have j:sV (nt (m:Int))=true:=by
  unfold sV;rw[D7,D7,D7];show{{{C7 (by lia),C7 (by lia)},G5.mpr λc f=>C7<|h c f},?_}
  by_cases l:10<=m
  .let(c,r,g,f):=nq l;rw[e,g];have:¬c.toNat=48:=λz=>f<|Char.toNat_inj.mp z;simp[this]
  .rw[Nat.toDigits_of_lt_base (by lia:m<10)]at e
   by_cases a:m=0
   .subst a;have:nt ((0:Nat):Int)=ch 48:=kr (by rw[e];rfl);rw[this]
    decide
   .have:(digitChar m).toNat≠48:=(by decide:∀d:Nat,d<10->1<=d->(digitChar d).toNat≠48) m (by lia) (by lia);rw[e];simp[this]
 show{?_,by lia,by lia};unfold cA;rw[A6 j,e,PySem.W.KIN.val_back]
def fb(l:Str):Option (Int×Str×Option Int):=match Txt.split l (ch 32)with
 |[a,b]=>if Txt.endswith b (ch 47)=true then (cA a).map λn=>(n,StrLaws.sliceText b none<|some (-1),none)else none
 |[a,b,c]=>match cA a with
  |none=>none
  |some n=>(cA c).map λs=>(n,b,some s)
 |_=>none
def rp0(y:Str):Str:=(iz y<|ch 47).getD 0 empty
def rp2(y:Str):Str:=(iz y<|ch 47).getD 2 empty
theorem yZ(y:Str):∃m,iz y (ch 47)=[rp0 y,m,rp2 y]:=by
 unfold rp0 rp2 iz
 split<;>show{_,rfl}
abbrev Gn:=Str->Option Int
def nr(g:Gn)(x:Str)(n:Int):Gn:=λy=>if y=x then some n else g y
def cO(g:Gn):List Str->Option (List Nd)
 |[]=>some []
 |l::ls=>match fb l with
  |none=>none
  |some (n,x,st)=>match g (rp0 x)with
   |none=>none
   |some p=>(cO (nr g x n) ls).map λr=>⟨n,p,rp2 x,st⟩::r
def gn0:Gn:=λx=>if x=empty then some 0 else none
def dZ(x:Str):Option (List Str):=if (Txt.split x<|ch 10).getLast?=some empty then some (Txt.split x<|ch 10).dropLast else none
def plc:List Str->Str
 |[]=>empty
 |x::r=>ch 47++x++plc r
def stx:Option Int->Str
 |none=>ch 47
 |some i=>ch 32++nt i
def lnT(w:Wt):Str:=nt w.2.num++ch 32++plc w.1++stx w.2.st
def txt:List Wt->Str
 |[]=>empty
 |w::ws=>lnT w++ch 10++txt ws
structure NodR(n:Nd):Prop where
 num:1<=n.num/\n.num<10 ^ 9
 nm:n.nm≠empty/\∀c∈sg n.nm,97<=c/\c<=122
 st:∀i,n.st=some i->0<=i/\i<=999
def nu(p:List Str):Prop:=∀x∈p,x≠empty/\∀c∈sg x,97<=c/\c<=122
theorem za:∀{p:List Str},nu p->∀c∈sg (plc p),c=47\/(97<=c/\c<=122)
 |[],_,c,h=>by cases h
 |x::r,hp,c,h=>by
  rw[show plc (x::r)=ch 47++x++plc r from rfl,cR,cR]at h;rcases C6.mp h with h|h
  .rcases C6.mp h with h|h
   .show .inl<|B8.mp h
   .show .inr<|(hp x B4).2 c h
  .show za (λy hy=>hp y<|B1 _ hy) c h
theorem rD:∀(p:List Str)(x:Str),plc (p++[x])=plc p++ch 47++x
 |[],x=>by
  change ch 47++x++empty=empty++ch 47++x;rw[Str.append_empty,empty_append]
 |y::r,x=>by
  change ch 47++y++plc (r++[x])=ch 47++y++plc r++ch 47++x;rw[rD r x];simp only[Str.append_assoc]
theorem Ef{s:Option Int}(b:∀i,s=some i->0<=i/\i<=999):∀c∈sg (stx s),c=47\/c=32\/(48<=c/\c<=57):=λc a=>by
 cases s with
 |none=>show .inl<|B8.mp a
 |some i =>
  rw[show stx (some i)=ch 32++nt i from rfl,cR]at a;rcases C6.mp a with a|a
  .show .inr<|.inl (B8.mp a)
  .show .inr<|.inr (pN (b i rfl).1 c a)
theorem ku{p:List Str}{x:Str}(l:∀c∈sg x,97<=c/\c<=122):rp0 (plc<|p++[x])=plc p/\rp2 (plc<|p++[x])=x:=by
 rw[rD];generalize plc p=a;have h1:∀i,StrLaws.At (a++ch 47++x) (ch 47) (a++ch 47++x).length i↔(sg<|a++ch 47++x)[i]?=some 47:=λi=>StrLaws.subAt_one _ 47 i;have e:sg (a++ch 47++x)=sg a++47::sg x:=by rw[cR,cR];change sg a++[47]++_=_;simp
 have j:∀k,a.length<k->¬(sg<|a++ch 47++x)[k]?=some 47:=λk n h=>by
  rw[e,D8 (by rw[dk];lia)]at h;have:∃d,k-(sg a).length=d+1:={k-(sg a).length-1,by rw[dk];lia};let(d,f):=this;rw[f,List.getElem?_cons_succ]at h;have:=l 47<|C3 h
  lia
 have b:(sg<|a++ch 47++x)[a.length]?=some 47:=by rw[e,D8 (by rw[dk];show A8 _),dk,sub_self];rfl
 have g:Builtin.Str.lastOccurrence (a++ch 47++x) (ch 47) 0 (a++ch 47++x).length=some a.length:=by
  rcases StrLaws.last_spec (a++ch 47++x) (ch 47)with⟨_,h⟩|⟨i,h,h2,h3⟩
  .show absurd ((h1 a.length).mpr b)<|h _
  .rw[h]
   congr 1
   rcases lt_trichotomy i a.length with z|z|z
   .show absurd ((h1 a.length).mpr b)<|h3 _ z
   .show z
   .show absurd ((h1 i).mp h2)<|j i z
 have m:(a++ch 47++x).length=a.length+1+x.length:=by rw[bc,bc];rfl
 unfold rp0 rp2 iz;rw[g];constructor
 .show kr ?_;change sg (Builtin.Str.strSub _ 0 a.length)=_;change(Builtin.Str.strSub (a++ch 47++x) 0 a.length).cps.toList=_;rw[StrLaws.strSub_toList];change((sg<|a++ch 47++x).drop 0).take (a.length-0)=sg a;rw[e,drop_zero,sub_zero,<-dk,take_left]
 .show kr ?_;change(Builtin.Str.strSub (a++ch 47++x) (a.length+1) (a++ch 47++x).length).cps.toList=_;rw[StrLaws.strSub_toList];change((sg<|a++ch 47++x).drop (a.length+1)).take _=sg x;rw[e,show sg a++47::sg x=(sg a++[47])++sg x by simp,show a.length+1=(sg a++[47]).length by rw[B0,dk];rfl,List.drop_left,E4];rw[m,B0,dk,dk];change x.length<=a.length+1+x.length-(a.length+1)
  lia
theorem pO{p:List Str}(h:p≠[]):plc p≠empty:=by
 cases p with
 |nil=>show absurd rfl h
 |cons x r =>
  intro e;have:=congrArg sg e;rw[show plc (x::r)=ch 47++x++plc r from rfl,cR,cR]at this;cases this
theorem Bp:∀{p q:List Str},nu p->nu q->plc p=plc q->p=q:=by
 have key:∀(n:Nat){p q:List Str},p.length<=n->nu p->nu q->plc p=plc q->p=q:=by
  intro n
  induction n with
  |zero =>
   intro p q a _ _ e;have:p=[]:=E2.mp (by lia);subst this;cases q with
   |nil=>rfl
   |cons y r=>show absurd e.symm<|pO (by simp)
  |succ n d =>
   intro p q a hp b e;rcases List.eq_nil_or_concat p with rfl|⟨f,x,rfl⟩
   .cases q with
    |nil=>rfl
    |cons y r=>show absurd e.symm<|pO (by simp)
   .rcases List.eq_nil_or_concat q with rfl|⟨g,y,rfl⟩
    .show absurd e<|pO (by simp)
    .rw[List.concat_eq_append]at a hp e|-;rw[List.concat_eq_append]at b e|-;have h1:=ku (p:=f) (hp x (by simp)).2;have h2:=ku (p:=g) (b y (by simp)).2;rw[e,h2.1,h2.2]at h1;rw[d (by rw[B0]at a;simp at a;lia) (λz c=>hp z (by simp[c])) (λz c=>b z (by simp[c])) h1.1.symm,h1.2]
 show λ{p q}=>key p.length<|A8 _
theorem zb(c:Nat):sg (ch c)=[c]:=rfl
theorem Bq(a:Str)(c:Nat):Txt.endswith (a++ch c) (ch c)=true:=by
 unfold Txt.endswith;have b:(a++ch c).length=a.length+1:=bc _ _;have d:(ch c).length=1:=rfl;rw[StrLaws.subAt_eq,b,d,Nat.add_sub_cancel];change(decide (0+1<=a.length+1)&&(((sg<|a++ch c).drop a.length).take 1==sg (ch c)))=true;rw[cR,<-dk,List.drop_left,zb];simp
theorem zc(a:Str)(c:Nat):StrLaws.sliceText (a++ch c) none (some<|-1)=a:=by
 have b:(a++ch c).length=a.length+1:=bc _ _;rw[StrLaws.sliceText_to_neg (by decide) (by rw[b];lia)];show kr ?_;change List.take _ (List.drop 0<|sg (a++ch c))=sg a;rw[b,drop_zero,cR,show((-1:Int)+((a.length+1:Nat):Int)-0).toNat=(sg a).length by rw[dk];lia,take_left]
theorem pP{n:Int}(a:0<=n){c:Nat}(b:c<48\/57<c):c∉sg (nt n):=λz=>by have:=pN a c z;lia
theorem rE{p:List Str}(b:nu p){c:Nat}(a:c≠47)(h2:c<97):c∉sg (plc p):=λz=>by
 rcases za b c z with h|h
 .show a h
 .lia
theorem fX{a b:Str}{c:Nat}(d:c∉sg a)(e:c∉sg b):c∉sg (a++b):=λz=>by
 rw[cR]at z;rcases C6.mp z with z|z
 .show d z
 .show e z
theorem rF{w:Wt}(e:NodR w.2)(j:nu w.1):fb (lnT w)=some (w.2.num,plc w.1,w.2.st):=by
 let(h1,h2):=e.num;have b:=(gE (by lia:0<=w.2.num) h2).1;have c:32∉sg (nt w.2.num):=pP (by lia)<|.inl (by decide);have d:32∉sg (plc w.1):=rE j (by decide) (by decide);unfold fb lnT;cases hs:w.2.st with
 |none =>
  have:Txt.split (nt w.2.num++ch 32++plc w.1++stx none) (ch 32)=[nt w.2.num,plc w.1++ch 47]:=hV (by simp) (λp a=>by
   rcases B3.mp a with rfl|a
   .show c
   .rw[B8.mp a];show fX d (by rw[zb];decide)) (by
   change nt w.2.num++ch 32++(plc w.1++ch 47)=nt w.2.num++ch 32++plc w.1++ch 47;simp only[Str.append_assoc])
  rw[this];change(if Txt.endswith (plc w.1++ch 47) (ch 47)=true then _ else _)=_
  rw[A6<|Bq _ _,b,zc];rfl
 |some i =>
  let(f,k):=e.st i hs;have h:32∉sg (nt i):=pP f<|.inl (by decide);have g:=(gE f (by lia:i<10 ^ 9)).1;have:Txt.split (nt w.2.num++ch 32++plc w.1++stx (some i)) (ch 32)=[nt w.2.num,plc w.1,nt i]:=hV (by simp) (λp a=>by
   rcases B3.mp a with rfl|a
   .show c
   .rcases B3.mp a with rfl|a
    .show d
    .rw[B8.mp a];show h) (by
   change nt w.2.num++ch 32++(plc w.1++ch 32++nt i)=nt w.2.num++ch 32++plc w.1++(ch 32++nt i);simp only[Str.append_assoc])
  rw[this];change(match cA (nt w.2.num)with|none=>none|some n=>(cA<|nt i).map λs=>(n,plc w.1,some s))=_
  rw[b,g];rfl
theorem uM{w:Wt}(a:NodR w.2)(b:nu w.1):10∉sg (lnT w):=by
 let(h1,h2):=a.num;unfold lnT;show fX (fX (fX (pP (by lia)<|.inl (by decide)) (by rw[zb];decide))<|rE b (by decide) (by decide)) λz=>?_;have:=Ef a.st 10 z
 lia
theorem rG:∀ws:List Wt,join (ch 10) (ws.map lnT++[empty])=txt ws
 |[]=>rfl
 |w::ws=>by
  obtain⟨y,r,e⟩:∃y r,ws.map lnT++[empty]=y::r:=by
   cases ws with
   |nil=>show{_,_,rfl}
   |cons v vs=>show{_,_,rfl}
  have a:=rG ws;rw[CM,cons_append,e]at *;change lnT w++ch 10++join (ch 10) (y::r)=lnT w++ch 10++txt ws;rw[a]
theorem oM{ws:List Wt}(a:∀w∈ws,NodR w.2/\nu w.1):dZ (txt ws)=some (ws.map lnT):=by
 have:Txt.split (txt ws) (ch 10)=ws.map lnT++[empty]:=hV (by simp) (λp hp=>by
  rcases C6.mp hp with hp|hp
  .let(w,b,rfl):=A3.mp hp;show uM (a w b).1 (a w b).2
  .rw[B8.mp hp];change 10∉[];simp)<|rG ws
 unfold dZ;rw[this,A6 (by simp),List.dropLast_concat]
section
variable{t:List Nd}{ws:List Wt}
theorem Wk.pth(W:Wk t ws)(b:∀n∈t,NodR n){w:Wt}(c:w∈ws):NodR w.2/\nu w.1:=by
 let(h1,h2):=(W.mem w.1 w.2).mp c;show{b _ h1,?_};clear c;generalize w.2.num=k at h2;generalize w.1=p at h2|-
 induction h2 with
 |top=>show λx a=>by cases a
 |@node n p hn _ ih =>
  intro x a;rcases C6.mp a with a|a
  .show ih x a
  .rw[B8.mp a];show(b n hn).nm
theorem mM(T:TW.Tree1 t)(W:Wk t ws)(c:∀n∈t,NodR n):∀(vs us:List Wt),ws=us++vs->∀g:Gn,g empty=some 0->(∀u∈us,g (plc u.1)=some u.2.num)->cO g (vs.map lnT)=some (vs.map (·.2))
 |[],_,_,_,_,_=>rfl
 |v::vs,us,e,g,g0,gu=>by
  have j:v∈ws:=by rw[e];simp
  let(C,hp):=W.pth c j;let(h1,h2):=(W.mem v.1 v.2).mp j;let(q,h,f):=h2.inv T h1 rfl;have nm:=(c _ h1).nm;have o:=ku (p:=q) nm.2;rw[<-h]at o;have A:g (plc q)=some v.2.par:=by
   by_cases i:v.2.par=0
   .rw[i]at f;rw[f.zero T rfl,i];show g0
   .obtain⟨m,B,s,_⟩:∃m∈t,m.num=v.2.par/\m.st=none:=by
     cases T.down v.2 h1 with
     |base _ e=>show absurd e i
     |step c hs _ e=>show{_,c.mem,e.symm,hs}
    rw[<-s]at f;have b:(q,m)∈ws:=(W.mem q m).mpr ⟨B,f⟩;have lt:HT.cJ q v.1=true:=by
     rw[h];have:∀l:List Str,HT.cJ l (l++[v.2.nm])=true:=λl=>by
      induction l with
      |nil=>rfl
      |cons a l k=>rw[cons_append,HT.dA,A6 rfl];show k
     show this q
    rw[e]at b;rcases C6.mp b with b|b
    .rw[<-s];show gu _ b
    .exfalso
     rcases B3.mp b with b|b
     .rw[<-b,HT.ci]at lt;cases lt
     .have y:=W.up;rw[e,pairwise_append,E1]at y;have:=HT.jn lt<|y.2.1.1 _ b;rw[HT.ci]at this;cases this
  have D:v.1≠[]:=by rw[h];simp
  have k:=mM T W c vs (us++[v]) (by rw[e];simp) (nr g (plc v.1) v.2.num) (by unfold nr;rw[A4 λz=>pO D z.symm];show g0) (λu d=>by
   unfold nr;rcases C6.mp d with d|d
   .split
    .rename_i z
     have w:u∈ws:=by rw[e];show CT _ d
     have:=W.path w j<|Bp (W.pth c w).2 hp z;rw[this]
    .show gu u d
   .rw[B8.mp d,A6 rfl])
  rw[CM];change(match fb (lnT v)with|none=>none|some (n,x,st)=>_)=_
  rw[rF C hp];change(match g (rp0<|plc v.1)with|none=>none|some p=>(cO (nr g (plc v.1) v.2.num)<|vs.map lnT).map λr=>({v.2.num,p,rp2<|plc v.1,v.2.st}:Nd)::r)=_
  rw[o.1,A,o.2];change(cO (nr g (plc v.1) v.2.num)<|vs.map lnT).map _=_;rw[k];rfl
theorem oN(T:TW.Tree1 t)(W:Wk t ws)(a:∀n∈t,NodR n):∃b,dZ (txt ws)=some b/\cO gn0 b=some (ws.map (·.2)) :=
 {_,oM λw d=>W.pth a d,mM T W a ws [] rfl gn0 rfl λu c=>by cases c}
end
def kR(x:Str)(t:List Nd)(ws:List Wt):Prop:=TW.Tree1 t/\(∀n∈t,NodR n)/\Wk t ws/\txt ws=x
theorem kR.mem{x:Str}{t:List Nd}{ws:List Wt}(a:kR x t ws)(n:Nd):n∈ws.map (·.2)↔n∈t:=by
 let(T,_,W,_):=a;constructor
 .intro a;let(w,b,rfl):=A3.mp a;show((W.mem w.1 w.2).mp b).1
 .intro a;let(p,hp):=TW.PathTo.ex T a;show A3.mpr {(p,n),(W.mem p n).mpr ⟨a,hp⟩,rfl}
theorem kR.sorted{x:Str}{t:List Nd}{ws:List Wt}(k:kR x t ws){f ns:List Nd}{h:List Str}(i:dZ x=some h)(j:cO gn0 h=some ns)(g:f.Perm ns)(l:f.Pairwise λa b=>a.num<=b.num):f=t:=by
 let(T,R,W,E):=k;let(m,e,d):=oN T W R;rw[E,i]at e;injection e with e
 rw[<-e,j]at d;injection d with d
 have c:((ws.map (·.2)).map (·.num)).Nodup:=by rw[A7];show Wk.nums T W
 rw[<-d]at c;have c:(f.map (·.num)).Nodup:=(g.map _).nodup_iff.mpr c;unfold Nodup at c;rw[C0]at c;show yW (Pairwise.imp₂ (λa b h1 h2=>by lia) l c) T.rise λn=>?_;rw[g.mem_iff,d,kR.mem ⟨T,R,W,E⟩]
end TK
namespace L2
open PySem PySem.Spec PyProof.Rows
theorem Br{x:Str}{a:Hp}:Src (Its x) a (x.cps.toList.map λc=>V.str {#[c]}) :=
 {λi H' hi s=>by rw[A1,B6]at hi;show hi,λH' s=>by rw[A1,B6];show A8 x.cps.size,λi H' v H2 hi s ⟨e,c,d,b⟩=>{e,by
  rw[B7];have f:x.cps.toList[i]?=some c:=by simpa using d
  rw[f,b];rfl}}
theorem zd{xs:List V}{k:Nat}(h:k<=xs.length):iu xs none (some (k:Int))=xs.take k:=by
 unfold iu;rw[HT.iY,HT.lc,drop_zero,Nat.min_eq_left h];rfl
open PySem PySem.W PySem.Spec PyProof.Rows
theorem rH:∀{xs:List V}{us:List zy},aB xs us->∃zs:List<|V×zy,zs.map (·.1)=xs/\zs.map (·.2)=us/\∀z∈zs,aH z.1 z.2
 |_,_,.nil=>{[],rfl,rfl,λz h=>by cases h}
 |_,_,.cons (a:=x) (b:=u) r q=>by
  let(zs,h1,h2,h3):=rH q;show{(x,u)::zs,by rw[CM,h1],by rw[CM,h2],λz c=>?_};rcases B3.mp c with e|e
  .rw[e];show r
  .show h3 z e
theorem uN:∀{zs:List (V×zy)},(∀z∈zs,aH z.1 z.2)->aB (zs.map (·.1)) (zs.map (·.2))
 |[],_=>.nil
 |z::zs,h=>.cons (h z B4)<|uN λy hy=>h y<|B1 _ hy
theorem ze{b:Bool}{key:V->Int}{xs:List V}{vs d:List zy}(r:aB xs vs)(g:KskOut b (xs.map key) vs d):∃ys:List V,ys.Perm xs/\aB ys d/\ys.Pairwise λx y=>if b then key y<=key x else key x<=key y:=by
 let(ps,f,rfl,a):=g;let(zs,rfl,rfl,c):=rH r;have e:zs.map (λz=>(key z.1,z.2))=((zs.map (·.1)).map key).zip (zs.map (·.2)):=by
  rw[A7];clear c f a r
  induction zs with
  |nil=>rfl
  |cons z zs i=>rw[CM,CM,CM,List.zip_cons_cons,i];rfl
 let(ys,rfl,p):=cV f e.symm;show{ys.map (·.1),p.map _,?_,?_}
 .rw[A7];show uN λz h=>c z<|p.mem_iff.mp h
 .rw[C0]at a|-;show a
structure KSg(P:zi)(w:xr)(H H1:Hp)(fs:List zv)(s s':zn):Prop where
 os:s'.os=s.os
 bare:AllBare s'.gens
 hok:HOk P w H1 s'.heap
 un:Un fs [] H H1 s.heap s'.heap
theorem iA{base c h':qq}{fs:List zv}{H d:Hp}:∀{l:List Env},c.FunFrames base l->Un fs [] H d c h'->(∀b∈frs l,H b=none)->h'.FunFrames base l
 |[],_,_,_=>trivial
 |env::rest,⟨k,⟨L,o,hf,a,ho,hd⟩,r⟩,u,hn=>by
  have e:frs (env::rest)=L::frs rest:=by unfold frs;rw[filterMap_cons,hf]
  rw[e]at hn;let(f,q):=u.any ho (hn L B4) (by simp);show{k,⟨L,_,hf,a,q,hd⟩,iA r u λb a=>hn b<|B1 _ a}
section
variable{P:zi}{w:xr}{H H1:Hp}{fs:List zv}{s s1:zn}
theorem KSg.low(a:KSg P w H H1 fs s s1){Pv:zv->Prop}(i:∀b,Pv b->s.heap.objs.size<=b/\H1 b=none){h2:qq}{t:Nat}(k:∀b o,¬Pv b->s1.heap.get? b=some o->h2.get? b=some o):KSg P w H H1 fs s {s1 with heap:=h2,toks:=t}:=by
 have h:∀b o,s.heap.get? b=some o->¬Pv b:=λb o e z=>absurd (B5 e)<|not_lt.mpr (i b z).1;show{a.os,a.bare,λb u e=>(a.hok b u e).stay (λc v j q=>k c v (λz=>?_) q) (λ_ q=>q) λ_ _ q=>q,{λb o e n g d=>k b o (h b o e)<|a.un.keep b o e n g d,λb o e n g d=>?_,a.un.free,λb o e d=>?_,a.un.tups,a.un.frzs,a.un.tbls}}
 .have f:=(i c z).2;rcases j with q|q
  .rw[q,e]at f;cases f
  .rw[q]at f;cases f
 .let(l,q):=a.un.slot b o e n g d;show{l,k b _ (h b o e) q}
 .let(o',q):=a.un.there b o e d;show{o',k b o' (h b o e) q}
variable{K:Frag}{mg:Str->Option zy}{base:qq}{A:xx}{outer:List Env}{k:Nat}{f:zv}{fd:xl}{y:Str}{spK:Sp}{key:V->Int}{b:Bool}{Rl:Hp->Hp->Prop}
theorem wu(F:aE P w K mg base CX0 k f fd [y] spK)(d:br K fd [y] [])(E:Room k A)(a:Env0 P w K mg base A outer s H)(c:KSg P w H H1 (frs outer) s s1)(hsz:s.heap.objs.size<=s1.heap.objs.size){x:V}{u:zy}(r:aH x u)(G:spK [x] H1 (λv H'=>v=.int (key x)/\Rl H1 H') E0):
  wpAny (model P w) A (call (.ref f) [u]) (λv l=>∃H2,Rl H1 H2/\KSg P w H H2 (frs outer) s l/\(∃t,v=.int (key x) t)/\∀b o,s.heap.objs.size<=b->H1 b=none->s1.heap.get? b=some o->l.heap.get? b=some o/\H2 b=none) (λ_ _=>False) s1:=by
 have I:∀b∈frs outer,b<s.heap.objs.size:=λb d=>by
  let(_,o,j,_):=a.funs.mem d;show B5 j
 have bs:∀b o,base.get? b=some o->s1.heap.get? b=some o/\H1 b=none:=λb o e=>by
  let(h1,h2):=a.bs b o e;show{c.un.keep b o h1 h2 (λi=>?_) (by simp),c.un.free b o h1 h2 (by simp)};have:=(a.funs.mem i).1;rw[e]at this;cases this
 have q:Env0 P w K mg base A outer s1 H1:={a.frames,a.mod,bs,CL a.bsz hsz,iA a.funs c.un a.frf,λb d=>by
  let(_,o,j,_):=a.funs.mem d;show c.un.free b o j (a.frf b d) (by simp),c.hok,c.bare}
 have n:K.In s1.heap:=a.mod.kin.keeps λb o e=>(bs b o e).1;have h:=d s1 [u] n rfl;show wpAny_call<|codeAny_mono (F.run A outer s1 H1 {[u],[]} [u] [x] _ E0 E q h (.cons r .nil) G) λJ l g=>?_;cases J with
 |error e=>show g
 |ok C =>
  cases C with
  |next=>show False.elim g
  |brk=>show False.elim g
  |cont=>show False.elim g
  |ret v =>
   let(M,H',os,p,un,D,L,B,z):=g;subst B;show{H',z,⟨os.trans c.os,p,D,c.un.trans un⟩,L,λb o h m e=>{un.keep b o e m (λi=>?_) (by simp),un.free b o e m (by simp)}};show absurd (I b i)<|not_lt.mpr h
theorem wv(e7:∀H,Rl H H)(e9:∀H H' a5,Rl H H'->Rl H' a5->Rl H a5)(F:aE P w K mg base CX0 k f fd [y] spK)(T:br K fd [y] [])(e2:Room k A)(S:Env0 P w K mg base A outer s H){a:zv}{vs:List zy}{xs:List V}{n:Nat}(d5:KSg P w H H (frs outer) s s1)(r:s.heap.objs.size<=a)(J:s1.heap.get? a=some (seqObj "list" vs.toArray n))(c7:aB xs vs)(f1:xs.length<64)(e3:∀x∈xs,∀H1,Rl H H1->spK [x] H1 (λv H'=>v=.int (key x)/\Rl H1 H') E0){Q:PySem.Fin->zn->Prop}{E:zy->zn->Prop}(q:∀(c6:Array zy) s2 c H2,KskOut b (xs.map key) vs c6.toList->Rl H H2->KSg P w H H2 (frs outer) s s2->H2 a=none->s2.heap.get? a=some (seqObj "list" c6 c)->Q (.done<|.ret .none) s2):
  wpAny (model P w) A (ksk_tree a (.ref f) b) Q E s1:=by
 have f4:=c7.length;have c8:=CA s1.heap a<|Obj.mapSeq λ_=>(#[]:Array zy);obtain⟨h,Y⟩:∃h,(s1.heap.update a<|Obj.mapSeq λ_=>(#[]:Array zy)).get? a=some (seqObj "list" #[] h):={_,get?_update_seq J λ_=>#[]};have a9:a<s1.heap.objs.size:=B5 J;have a8:H a=none:=S.hok.fresh r;unfold ksk_tree;show Wb<|listItems_at J rfl (Wb<|listUpdate_at J rfl ?_ (by rw[B2,sizeLine_eq];lia) (CI _));show Wb<|seqEpoch_at Y rfl (Wb<|wpAny_newTuple ?_ (by change vs.length<=_;rw[sizeLine_eq];lia));show Wb<|wpAny_newList (wpAny_holding ?_) (CI _);have W:((s1.heap.update a<|Obj.mapSeq λ_=>(#[]:Array zy)).push (seqObj "tuple" vs.toArray 0)).objs.size=s1.heap.objs.size+1:=by rw[size_push',size_update]
 have c1:(((s1.heap.update a<|Obj.mapSeq λ_=>(#[]:Array zy)).push (seqObj "tuple" vs.toArray 0)).push (seqObj "list" #[] 0)).get? a=some (seqObj "list" #[] h):=A0 _<|A0 _ Y;have b2:(((s1.heap.update a<|Obj.mapSeq λ_=>(#[]:Array zy)).push (seqObj "tuple" vs.toArray 0)).push (seqObj "list" #[] 0)).get? (s1.heap.objs.size+1)=some (seqObj "list" #[] 0):=by rw[<-W];show A5 _ rfl
 have a6:KSg P w H H (frs outer) s {s1 with heap:=((s1.heap.update a<|Obj.mapSeq λ_=>(#[]:Array zy)).push (seqObj "tuple" vs.toArray 0)).push (seqObj "list" #[] 0),toks:=s1.toks}:=d5.low (Pv:=λb=>b=a) (λb z=>by rw[z];show⟨r,a8⟩) λb o T e=>A0 _<|A0 _ ((c8.2 b T).trans e)
 change wpAny (model P w) A (ksk_rest a (.ref f) b vs.toArray h<|.ref ((s1.heap.update a<|Obj.mapSeq λ_=>(#[]:Array zy)).push (seqObj "tuple" vs.toArray 0)).objs.size) Q E {s1 with heap:=((s1.heap.update a<|Obj.mapSeq λ_=>(#[]:Array zy)).push (seqObj "tuple" vs.toArray 0)).push (seqObj "list" #[] 0)}
 rw[W];have X:s1.heap.objs.size+1≠a:=F8<|F5 a9;have m:s.heap.objs.size<=s1.heap.objs.size+1:=Nat.le_succ_of_le<|CL r (F1 a9);generalize G:({s1 with heap:=((s1.heap.update a<|Obj.mapSeq λ_=>(#[]:Array zy)).push (seqObj "tuple" vs.toArray 0)).push (seqObj "list" #[] 0)}:zn)=s2
 have d9:s2.heap.get? a=some (seqObj "list" #[] h):=by rw[<-G];show c1
 have b3:s2.heap.get? (s1.heap.objs.size+1)=some (seqObj "list" #[] 0):=by rw[<-G];show b2
 have d0:KSg P w H H (frs outer) s s2:=by rw[<-G];show a6
 generalize s1.heap.objs.size+1=g at X m b3|-;clear a6 b2 c1 W Y c8 G;unfold ksk_rest;show Wb<|wpAny_rule ?_;rw[<-forIn_toList];show Wb<|ksk_fold (λi s'=>∃H1,Rl H H1/\KSg P w H H1 (frs outer) s s'/\H1 a=none/\H1 g=none/\s'.heap.get? a=some (seqObj "list" #[] h)/\∃d c,s'.heap.get? g=some (seqObj "list" d c)/\IntsAre d.toList ((xs.take i).map key)) vs.toArray.toList 0 s2 {H,e7 H,d0,a8,S.hok.fresh m,d9,#[],0,b3,by rw[List.take_zero];show .nil} ?step ?done
 case step =>
  rintro j u s' a2 ⟨H1,N,O,M,a4,Z,d,c,B,l⟩;rw[toList_toArray]at a2;rw[zero_add]at l|-;have b1:j<vs.length:=(A9.mp a2).1;have U:j<xs.length:=by lia
  have e6:aH xs[j] u:=by
   let(f6,h1,h2):=c7.get<|A2 U;rw[a2]at h1;cases h1;show h2
  have f3:d.size<=vs.length:=by
   have h1:=l.length;rw[B6,A1,D6]at h1
   lia
  show Wb<|wpAny_attempt (wpAny_mono (wu F T e2 S O (F1<|FC m (B5 B)) e6<|e3 _ (F6 U) H1 N) (λv c9 e4=>?_) λ_ _ z=>z.elim);let(H2,e8,d1,(t,rfl),c4):=e4;let(c0,c5):=c4 _ _ m a4 B;let(e0,e5):=c4 _ _ r M Z;have C:=CA c9.heap g<|Obj.mapSeq (·.push (Value.int (key xs[j]) t));dsimp only;show Wb<|listUpdate_at c0 rfl ?_ (by rw[sizeLine_eq];lia) (CL (le_of_eq<|Array.size_push ..) (by rw[sizeLine_eq];lia));show Wp {rfl,H2,e9 _ _ _ N e8,d1.low (t:=c9.toks) (Pv:=λb=>b=g) (λb z=>by rw[z];show⟨m,c5⟩) λb o D e=>(C.2 b D).trans e,e5,c5,(C.2 a<|CD X).trans e0,d.push<|.int (key xs[j]) t,_,get?_update_seq c0 (·.push (Value.int (key xs[j]) t)),?_};rw[take_add_one,A2 U,toList_push,CG];show ksk_snoc l
 case done =>
  rintro s' ⟨H1,N,O,M,a4,Z,d,c,B,l⟩;have I:IntsAre d.toList (xs.map key):=by
   rw[zero_add,E4 (by rw[toList_toArray];lia)]at l;show l
  have a3:d.size=vs.length:=by
   have h1:=I.length;rw[B6,A1]at h1
   lia
  show Wb<|listItems_at B rfl ?_;have L:(d.zip vs.toArray).size=vs.length:=by rw[Array.size_zip,a3,B2,min_self]
  have a7:∀(st:SortSt),(arrOf st).Perm (d.zip vs.toArray)->SortedTo (arrOf st) (arrOf st).size->failedOf st=none->wpAny (model P w) A (ksk_tail a b h (.ref g) st) Q E s':=λst hp hs d7=>by
   have c2:(arrOf st).size=vs.length:=by rw[hp.size_eq,L]
   have e1:(if b then ((arrOf st).map (·.2)).reverse else (arrOf st).map (·.2)).size=vs.length:=by
    cases b with
    |false=>simp only[C9,CO,size_map];show c2
    |true=>simp only[D9,Array.size_reverse,size_map];show c2
   have C:=CA s'.heap g<|Obj.mapSeq λ_=>(#[]:Array zy);have a0:=(C.2 a<|CD X).trans Z;have f0:=CA (s'.heap.update g<|Obj.mapSeq λ_=>(#[]:Array zy)) a<|Obj.mapSeq λ_=>if b then ((arrOf st).map (·.2)).reverse else (arrOf st).map (·.2)
   unfold ksk_tail
   try dsimp only
   show Wb<|listUpdate_at B rfl (Wb<|wpAny_letGo (Wb<|seqEpoch_at a0 rfl ?_)) (by rw[a3,sizeLine_eq];lia) (CI _);show Wb<|listUpdate_at a0 rfl ?_ (CI _) (CL (le_of_eq e1) (by rw[sizeLine_eq];lia));rw[d7];simp only[G2,C9,CO];show Wp<|q _ _ _ H1 (ksk_out I hp hs) N (O.low (t:=s'.toks) (Pv:=λb=>b=a\/b=g) (λR z=>z.elim (λz=>by rw[z];show⟨r,M⟩) λz=>by rw[z];show⟨m,a4⟩) λR o D e=>?_) M (get?_update_seq a0 _);show(f0.2 R λz=>D<|.inl z).trans ((C.2 R λz=>D<|.inr z).trans e)
  have step:∀t:Sem PySem.Fin,wpAny (model P w) A t Q E s'->wpAny (model P w) A (if b=true then (do let _ <- rule "list.sort.reverse";t)else t) Q E s':=by
   intro t c3
   split
   .show Wb<|wpAny_rule c3
   .show c3
  have a1:(if b=true then (d.zip vs.toArray).reverse else d.zip vs.toArray).Perm (d.zip vs.toArray):=by
   cases b with
   |false=>show Array.Perm.refl _
   |true=>show Array.perm_iff_toList_perm.mpr (by rw[A6 rfl,Array.toList_reverse];show List.reverse_perm _)
  unfold ksk_end
  try dsimp only
  show step _ ?_
  by_cases h2:vs.toArray.size<2
  .rw[A6 h2,A6 h2];show Wb<|Wp ?_;rw[StateT.run_pure];show Wb (Wp ?_)
   try dsimp only
   show a7 (SortSt.mk' general' (if b=true then (d.zip vs.toArray).reverse else d.zip vs.toArray) #[] 7 none) a1 (λi j f2 b1=>?_) rfl
   have d8:j<(if b=true then (d.zip vs.toArray).reverse else d.zip vs.toArray).size:=b1
   rw[a1.size_eq,L]at d8;rw[B2]at h2;have:i=j:=by lia
   subst this;show Int.le_refl _
  .rw[A4 h2,A4 h2];rw[B2]at h2;rw[ksk_kind I (by rw[a3];lia)];show Wb<|Wp ?_;show Wb (wpAny_mono (wpS_sortRuns (a₀:=d.zip vs.toArray) (st:=SortSt.mk' oneType' (if b=true then (d.zip vs.toArray).reverse else d.zip vs.toArray) #[] 7 none)
    (Q:=λ_ p=>(arrOf p).Perm (d.zip vs.toArray)/\failedOf p=none/\SortedTo (arrOf p) (d.zip vs.toArray).size)
    (ksk_intKeys I) ⟨a1,rfl,rfl,rfl⟩ (by rw[L];lia) (by rw[L];lia) λp d2 d3 d4=>⟨d2,d3,d4⟩) ?_ λ_ _ e=>e)
   rintro⟨⟨⟩,p⟩ f5 ⟨rfl,hp,d6,hs⟩
   try dsimp only
   show a7 p hp (by rw[hp.size_eq];show hs) d6
end
theorem sW{X:Cx}{M:List (zv×Obj)}{O:St}{H:Hp}{s:zn}{d:qq}{tk k:Nat}{f:zv}{G:xl}{y:Str}{spK:Sp}{key:V->Int}{b:Bool}{Rl:Hp->Hp->Prop}{i:List zy}{xs:List V}{p:List (Str×zy)}{E:zy->zn->Prop}{Q:VK}(a9:∀H,Rl H H)(b1:∀H H' D,Rl H H'->Rl H' D->Rl H D)(J:Inv X M O H s)(Z:∀b o,s.heap.get? b=some o->d.get? b=some o)(L:s.heap.objs.size<=d.objs.size)(B:aB xs i)(W:xs.length<64)(F:aE X.prog X.w X.K X.mg (bB X H s) CX0 k f G [y] spK)(j:br X.K G [y] [])(a1:Room (k+2) X.A)(a6:∀a,Builtin.«list.sort» {[.ref a],p}=ksk_tree a (.ref f) b)(a4:∀a,argsOk "list.sort" {[a],p})(a2:∀x∈xs,∀H1,Rl H H1->spK [x] H1 (λv H'=>v=.int (key x)/\Rl H1 H') E0)(q:∀r ys H2,ys.Perm xs->ys.Pairwise (λx y=>if b then key y<=key x else key x<=key y)->Rl H H2->H2 r=none->Q (.ref r) (upd H2 r<|.lst ys)):
  wpAny (model X.prog X.w) X.A.in1 (do
   let l <- newList i
   let _ <- holding [l] (call (.builtin "list.sort") [l] p)
   ret l) (λU s'=>∃v,U=.done (.ret v)/\EP X M O Q v s') E {s with heap:=d,toks:=tk}:=by
 have c0:=B.length;show Wb<|wpAny_newList ?_ (by rw[sizeLine_eq];lia);have I:(d.push<|seqObj "list" i.toArray 0).get? d.objs.size=some (seqObj "list" i.toArray 0):=A5 _ rfl;have R:KSg X.prog X.w H H (frs X.stack) s s:=⟨rfl,J.bare,J.hok,Un.refl⟩;have S:=R.low (t:=tk) (h2:=d.push<|seqObj "list" i.toArray 0) (Pv:=λ_=>False) (λ_ z=>z.elim) λb o _ e=>A0 _<|Z b o e;change wpAny _ _ _ _ _ {s with heap:=d.push<|seqObj "list" i.toArray 0,toks:=tk}
 show Wb<|wpAny_holding (wpAny_call_entry_kw slot_list_sort ⟨_,I,rfl⟩ entry_list_sort ?_<|a4 _);change wpAny _ _ (Builtin.«list.sort» {[.ref d.objs.size],p}) _ _ _;rw[a6];show wv (b:=b) (key:=key) a9 b1 F j a1.in1.in1 J.env0B.in1.in1 S L I B W a2 λc1 C T H2 a5 a8 g h Y=>{_,rfl,Wp {_,rfl,?_}};let(ys,N,b2,b3):=ze B a5;have a7:ys.length=xs.length:=N.length_eq;have un:Un (frs X.stack) [] H (upd H2 d.objs.size<|.lst ys) s.heap C.heap:=by
  show{g.un.keep,g.un.slot,λb o e n a3=>?_,g.un.there,λb xs e=>?_,λb o u e=>?_,λb ps e=>?_}
  .rw[aj<|C2 (C5 (B5 e) L)];show g.un.free b o e n a3
  .have e:=g.un.tups _ _ e;rw[aj<|ao e h];show e
  .have e:=g.un.frzs _ _ _ e;rw[aj<|ao e h];show e
  .let(m,e):=g.un.tbls _ _ e;show{m,by rw[aj<|ao e h,e]}
 have a0:HOk X.prog X.w (upd H2 d.objs.size<|.lst ys) C.heap:=λb u e=>by
  by_cases j:b=d.objs.size
  .subst j;rw[ac]at e;cases e;show{by rw[a7,sizeLine_eq];lia,_,T,b2,by rw[Array.toArray_toList];show Y}
  .rw[aj j]at e;show(g.hok b u e).stay (λ_ _ _ z=>z) (λc z=>by rw[aj<|ao z h];show z) λc xs z=>by rw[aj<|ao z h];show z
 have P:=J.call' (s':=C) (ch:=[]) g.os un a0 g.bare λb z=>absurd z (by simp);show{.ref d.objs.size,_,P,rfl,q _ _ _ N b3 a8 h}
open PySem PySem.Spec PyProof.Rows
def zh(P:zv)(qual:Str)(spK:zv->zv->Sp)(key:Hp->V->Int)(Q:VK):List V->Hp->Prop
 |[v],H1=>∃l xs,v=.ref l/\H1 l=some (.lst xs)/\xs.length<64/\dY H1 P qual/\∀f c H',fz P H1 H'->dY H' P qual->H' c=some (.ext<|cdφ c qual) ->
  (∀x∈xs,spK f c [x] H' (λv H2=>v=.int (key H' x)/\H2=H') E0)/\∀D ys,ys.Perm xs->ys.Pairwise (λa b=>key H' a<=key H' b)->H' D=none->Q (.ref D) (upd H' D<|.lst ys)
 |_,_=>False
def Eg(P:zv)(qual:Str)(spK:zv->zv->Sp)(key:Hp->V->Int)(a:TE):TE:=λσ H Q=>a σ H λv H1=>zh P qual spK key Q [v] H1
section
variable{X:Cx}
theorem zj{P E:zv}{k:Nat}{y:Str}{p J c7 pos:Pos}{d:Arguments}{i:Expr}{g:Scope}{qual:Str}{spK:zv->zv->Sp}{key:Hp->V->Int}{e:Expr}{R:TE}(U:CodeHd X.base E P)(a4:X.env.code=.ref E)(S:BmB X.base X.mg)(c3:X.env.qual++"<lambda>"=qual)(a7:defaultsOf d X.env=([],[]))(a6:closureFor g X.env=pure [])(a1:∀(B:qq) (f c:zv) (pm ctv:zy),(∀b o,X.base.get? b=some o->B.get? b=some o)->B.get? f=some (kla_obj "<lambda>" qual d i g [] pm c ctv)->aE X.prog X.w X.K X.mg B CX0 k f (kla_fn "<lambda>" qual d i g [] pm (.ref c) ctv) [y] (spK f c))(a3:∀(pm ctv:zy) (c:zv),br X.K (kla_fn "<lambda>" qual d i g [] pm (.ref c) ctv) [y] [])(c4:Room (k+2) X.A)(b1:Gl X "sorted")(D:X.mg "sorted"=none)(a8:PE X e R)(F:starEach [e] X.env=(false,eval e X.env)::starEach [] X.env:=by rfl)(c1:(backTo pos<|starEach [e] X.env).any (·.1)=false:=by rfl):
  PE X (.Call (.Name "sorted" p) [e] [{some "key",.Lambda d i g J,c7}] pos) (Eg P qual spK key R):=by
 intro pins s σ H Q I h;subst c3;show wpAny_Call_Name_kw<|fe I b1 D Ee ?_ (by decide) (by decide);show callWith_kw ?_ (by rw[F];rfl) c1 rfl rfl;show thn (aa a8 ae F pos pins s σ H (zh P (X.env.qual++"<lambda>") spK key Q) I h) λus s1 c2=>?_;let(vs,H1,j,r,M):=c2;obtain⟨v,rfl⟩:∃v,vs=[v]:=by
  match vs,M with
  |[v],_=>show⟨v,rfl⟩
 let(l,xs,rfl,C,a0,T,q):=M;let(u,rfl,d0):=cD r;cases d0;change wpAny _ _ (evalAll [(do let v <- eval (.Lambda d i g J) X.env;standAt pos;pure v)]) _ _ s1
 show wpAny_evalAll_cons<|Wb (uA j U a4 S T a7 a6 λf c pm ctv H' O L d1 a5 t b3 G a9 d4=>Wb<|wpAny_standAt (Wp<|wpAny_evalAll_nil ?_));let(c5,c9):=q f c H' L d1 a5;have b2:H' l=some (.lst xs):=L l _ (λz=>by let(ps,a2,_):=T;rw[z,a2]at C;cases C) C;have c8:f∉frs X.stack:=λD=>by
  rcases B3.mp (j.stkSub f D)with z|z
  .have:=j.lt;rw[<-z]at this;show absurd this<|not_lt.mpr G
  .show j.nofs G z
 let(_,its,n,N,c0):=t.hok l _ b2;have d5:=N.length;change wpAny _ _ (call (.builtin "sorted") [.ref l] [("key",.ref f)]) _ _ O;show call_function_entry_kw kind_sorted plain_sorted entry_sorted (ksk_s1 _ _) ?_;unfold Builtin.«sorted»;show Wb (m:=checkCount "sorted" 1 1 _)<|Wp (Wb<|collect_list ⟨_,c0,rfl,n,rfl⟩ ?_ (by rw[sizeLine_eq];lia));show sW (key:=key H') (b:=false) (Rl:=λa b=>b=a) (tk:=O.toks) (λ_=>rfl) (λ_ _ _ a b=>b.trans a) t (λb o e=>?_) (by rw[size_update,size_push'];show le_succ _) N a0 (a1 _ f c pm ctv t.bsub<|sR b3 a9 c8) (a3 pm ctv c) c4 (λ_=>rfl) (λ_=>ksk_l1 _ _) (λx c6 H1 e=>?_) λY ys H2 d2 d3 e Z=>?_
 .rw[get?_update_ne _ _ _ _<|C2 (B5 e),get?_push_ne _ _ _<|C2 (B5 e)];show e
 .subst e;show c5 x c6
 .subst e;show c9 Y ys d2 (by simpa using d3) Z
end
end L2
namespace TK
open PySem L2
theorem szl{n:Nat}(h:n<=100000):n<=sizeLine:=by rw[sizeLine_eq];lia
def Eh:Str:="0123456789"
theorem Ei(c:Nat):(!(Builtin.Str.occurrences Eh {#[c]} 0 Eh.length 1).isEmpty)=decide (48<=c/\c<=57):=by
 rw[StrLaws.found_one,D3,C8,C8];change c∈[48,49,50,51,52,53,54,55,56,57]↔_;simp only[B3,CU,G3];omega
section
variable{P:zi}{w:xr}{K:Frag}{mg:Str->Option zy}{base:qq}
inductive spNum(vs:List V)(H:Hp)(Q:VK)(E_:XK):Prop
 |mk x n (_:vs=[.str x]) (_:cA x=some n) (_:∀H',Same H H'->Q (.int n) H')
theorem Gg:FnScope ["text"] ["text"] (ak gU):=fsc
theorem Ej{f:zv}{g:xl}(F:Fun K "number_in" "number_in" gU f g)(T:Txt mg):aE P w K mg base CX0 1 f g ["text"] spNum:=by
 let(tl,k):=T.figures;let(M,l):=T.mostF;show F.okA Gg λcdv A outer s H vs Q E G h=>?_
 .let(x,n,rfl,a,q):=h;show{_,af (aQ (PW.pt (pw_or (cm<|lG kF kF ai (ay jd rfl T.len F3<|aa (pv 0) ae) (ce (v:=.int 9) rfl l ⟨_,rfl⟩))
    (pw_or1<|cm (cF (ay (jl rfl) rfl T.all boot_all<|aa (bH lcS
    (xw<|pv 0) (λs H fp=>eR nB (pv 0) (ce (v:=.str Eh) rfl k ⟨_,rfl⟩) (by with_unfolding_all rfl))) ae) λ_=>rfl))))
   aA ax)
   (af (aQ (PW.pt<|pw_and (aq cT (cw Cy (pv 0) ai λ_ _=>rfl) aJ<|av _) (pw_and1<|aq eG (pv 0) aJ (av _))) aA ax)
   (am<|ap (aD wq rfl T.int boot_int<|aa (pv 0) ae))),?_}
  have e:sV x=true:=by
   unfold cA at a
   split at a
   .assumption
   .cases a
  have b:=e;unfold sV at b;simp only[D7,C8]at b;let(((d,D),m),i):=b;have I:x.cps.size=x.length:=rfl;show{_,rfl,x,rfl,szl (by lia),_,_,rfl,rfl,_,rfl,?_};rw[C7 (show(1:Int)<=(x.length:Int)by lia)];show cp {_,_,rfl,rfl,_,rfl,?_};rw[C7 (show(x.length:Int)<=9 by lia)];show aM {_,rfl,x,rfl,λp hp=>?_};show bq (fr:=[]) (sg x) (λc=>V.str {#[c]}) (by rw[dk];lia) hp Br rfl (λc y _=>y=.bl (decide<|48<=c/\c<=57)) (λ_ _ _ _ h _=>h) (λc H' J L s1 _ t=>?_) λys H1 s1 u B=>?_
  .show{_,rfl,_,_,rfl,rfl,?_};rw[Ei];show t _ H' (Same.refl _) rfl
  have j:=aG (f:=λc:Nat=>V.bl<|decide (48<=c/\c<=57)) B λ_ y _ h=>h;show{p,(sg x).map λc=>decide<|48<=c/\c<=57,rfl,SqL.of (by rw[u,j,A7];rfl),_,rfl,?_};have ea:((sg x).map λc=>decide<|48<=c/\c<=57).all id=Ed x:=by rw[all_map];rfl
  rw[ea,m];show aM ?_;obtain⟨c,r,ex⟩:∃c r,sg x=c::r:=by
   cases h:sg x with
   |nil=>rw[<-dk,h]at d;simp at d
   |cons c r=>show⟨c,r,rfl⟩
  show{_,rfl,x,0,c,rfl,rfl,szl (by lia),(show atI x.cps.toList 0=some c by rw[show x.cps.toList=c::r from ex];unfold atI ixN;simp),rfl,_,rfl,?_};have o:(sg x).head?=some c:=by rw[ex];rfl
  let(h1,h2):=wt e;have ret:Q (.int ((PySem.NumText.digitsVal (sg x):Nat):Int)) H1:=by
   unfold cA at a;rw[A6 e]at a;rw[Option.some.inj a];show q H1 s1
  rw[o]at i
  by_cases c0:c=48
  .have C:x=ch 48:=by simpa [c0]using i
   rw[C7 (show V.str {#[c]}=V.str "0" by rw[c0];rfl)];show cp {_,rfl,rfl,_,rfl,?_};rw[C7 (show V.str x=V.str "0" by rw[C];rfl)];show aM ⟨_,rfl,x,_,rfl,by lia,h1,ret⟩
  .rw[B9 (show ¬V.str {#[c]}=V.str "0" from λz=>c0 (by
    injection z with z
    have:=congrArg sg z;injection this))]
   show aM ⟨_,rfl,x,_,rfl,by lia,h1,ret⟩
end
theorem uO{z p:Str}:∀{ps:List Str},p∈ps->p.length<=(join z ps).length
 |[x],h=>by rw[B8.mp h];show A8 _
 |x::y::r,h=>by
  change _<=(x++z++join z (y::r)).length;rw[bc,bc];rcases B3.mp h with rfl|h
  .lia
  .have:=uO (z:=z) h
   lia
theorem zk{x z p:Str}(h:p∈Txt.split x z):p.length<=x.length:=by
 have:=uO (z:=z) h
 rwa [StrLaws.join_split]at this
section
variable{P:zi}{w:xr}{K:Frag}{mg:Str->Option zy}{base:qq}
inductive spPar(vs:List V)(H:Hp)(Q:VK)(E_:XK):Prop
 |mk x n y st (_:vs=[.str x]) (_:x.length<=900) (_:fb x=some (n,y,st)) (_:∀p H',Same H H'->H' p=some (.tup [.int n,.str y,stV st])->Q (.ref p) H')
theorem BU:FnScope ["line","words"] ["line"] (ak iM):=fsc
theorem Ek{f:zv}{u:xl}(F:Fun K "parts_in" "parts_in" iM f u)(T:Txt mg)(CN:Has P w K mg base 1 "number_in" ["text"] spNum):aE P w K mg base CX0 2 f u ["line"] spPar:=by
 show F.okA BU λcdv A outer s H vs Q E t h=>?_
 .let(x,n,y,st,rfl,I,ex,q):=h;show{_,af (ar (i:=1) BU.nd rfl (Or.inl rfl)<|cE E5 slot_str_split type_str_split kq (pv 0) (aa aJ ae))
   (af (aQ (PW.pt (pw_and (aq cT (ay aP rfl T.len F3<|aa (pv 1) ae) ai<|av _)
     (pw_and1<|cF (cE E5 PySem.F.slot_str_endswith PySem.F.type_str_endswith Bl (cw bn (pv 1) ai λ_ _=>rfl)<|aa aJ ae) (λ_=>rfl))))
    (am<|ap (aK<|aa (aw CN t<|aa (cw bn (pv 1) ai λ_ _=>rfl) ae) (aa (cH Eb (cw bn (pv 1) ai λ_ _=>rfl) dR<|cX (wI rS ai))<|aa cW ae))) ax)
   (af (aQ (aq cT (ay aP rfl T.len F3<|aa (pv 1) ae) ai<|av _)
    (am<|ap (aK<|aa (aw CN t<|aa (cw bn (pv 1) ai λ_ _=>rfl) ae) (aa (cw bn (pv 1) ai λ_ _=>rfl)<|aa (aw CN t<|aa (cw bn (pv 1) ai λ_ _=>rfl) ae) ae))) ax)
   aA)),?_}
  show{_,rfl,rfl,x,ch 32,rfl,rfl,rfl,by lia,λl B=>?_};have s1:=ag (o:=.lst<|(Txt.split x<|ch 32).map V.str) B;have d:upd H l (.lst<|(Txt.split x<|ch 32).map V.str) l=some (.lst<|(Txt.split x<|ch 32).map V.str):=ac;have v:∀p∈Txt.split x (ch 32),p.length<=x.length:=λp hp=>zk hp;generalize upd H l (.lst<|(Txt.split x<|ch 32).map V.str)=H1 at s1 d|-;unfold fb at ex;generalize Txt.split x (ch 32)=ws at d v ex|-
  split at ex
  .rename_i a b
   split at ex
   .rename_i z
    cases e:cA a with
    |none=>rw[e]at ex;cases ex
    |some m =>
    rw[e]at ex;cases ex;show{_,rfl,l,_,rfl,.inl<|SqL.of d,rfl,_,rfl,cp {_,rfl,l,_,_,_,rfl,rfl,SqL.of d,rfl,rfl,b,ch 47,rfl,rfl,_,rfl,?_}};rw[z];show cp {_,rfl,l,_,_,_,rfl,rfl,SqL.of d,rfl,a,_,rfl,e,λH2 g=>?_};have j:=g _ _ d;have G:=v b (by simp);show{_,rfl,l,_,_,_,rfl,rfl,SqL.of j,rfl,_,rfl,_,rfl,b,rfl,by lia,(show 3<=sizeLine from aF (by decide)),λp hp=>?_};show q p _ ((s1.trans g).trans (ag hp)) ac
   .cases ex
  .rename_i a b c
   cases e:cA a with
   |none=>rw[e]at ex;cases ex
   |some m =>
   rw[e]at ex;cases r:cA c with
   |none=>rw[r]at ex;cases ex
   |some k =>
   rw[r]at ex;cases ex;show{_,rfl,l,_,rfl,.inl<|SqL.of d,rfl,_,rfl,aM<|aM {_,rfl,l,_,rfl,.inl<|SqL.of d,rfl,_,rfl,cp {_,rfl,l,_,_,_,rfl,rfl,SqL.of d,rfl,a,_,rfl,e,λH2 g=>?_}}};have j:=g _ _ d;show{_,rfl,l,_,_,_,rfl,rfl,SqL.of j,rfl,_,rfl,l,_,_,_,rfl,rfl,SqL.of j,rfl,c,_,rfl,r,λD C=>{(show 3<=sizeLine from aF (by decide)),λp hp=>?_}};show q p _ (((s1.trans g).trans C).trans (ag hp)) ac
  .cases ex
inductive spLin(vs:List V)(H:Hp)(Q:VK)(E_:XK):Prop
 |mk x ls (_:vs=[.str x]) (_:x.length<=5000) (_:dZ x=some ls) (_:∀p H',Same H H'->H' p=some (.lst<|ls.map V.str)->Q (.ref p) H')
theorem BV:FnScope ["text","lines"] ["text"] (ak iK):=fsc
theorem El{f:zv}{c:xl}(F:Fun K "lines_in" "lines_in" iK f c):aE P w K mg base CX0 1 f c ["text"] spLin:=by
 show F.okA BV λcdv A outer s H vs Q E j h=>?_
 .let(x,d,rfl,k,ex,q):=h;show{_,af (ar (i:=1) BV.nd rfl (Or.inl rfl)<|cE E5 slot_str_split type_str_split kq (pv 0) (aa aJ ae))
   (af (aQ (aq eG (cw bn (pv 1) (wI rS ai) λ_ _=>rfl) aJ<|av _) aA ax)
   (am<|ap (cH lh (pv 1) dR<|cX (wI rS ai)))),?_}
  show{_,rfl,rfl,x,ch 10,rfl,rfl,rfl,by lia,λl g=>?_};have s1:=ag (o:=.lst<|(Txt.split x<|ch 10).map V.str) g;have a:upd H l (.lst<|(Txt.split x<|ch 10).map V.str) l=some (.lst<|(Txt.split x<|ch 10).map V.str):=ac;generalize upd H l (.lst<|(Txt.split x<|ch 10).map V.str)=H1 at s1 a|-;unfold dZ at ex;have b:=rC x<|ch 10;generalize Txt.split x (ch 10)=ws at a ex b|-;obtain⟨us,y,rfl⟩:∃d y,ws=d++[y]:={ws.dropLast,ws.getLast b,(List.dropLast_concat_getLast b).symm};rw[List.getLast?_concat,List.dropLast_concat]at ex
  split at ex
  .rename_i hy
   cases hy;obtain rfl:=Option.some.inj ex;rw[CG]at a;show{_,rfl,_,rfl,l,_,_,_,rfl,rfl,SqL.of a,wV _<|V.str empty,rfl,_,rfl,aM {_,rfl,_,rfl,_,rfl,l,_,rfl,SqL.of a,λp hp=>?_}};show q p _ (s1.trans<|ag hp) ?_;rw[ac];change some (HO.lst<|iu (us.map V.str++[V.str empty]) none (some<|-1))=_;unfold iu;rw[HT.iY];have e:HT.sIx (us.map V.str++[V.str empty]).length (us.map V.str++[V.str empty]).length (some<|-1)=(us.map V.str).length:=by
    rw[B0];change(if (-1:Int)<0 then ((-1:Int)+(((us.map V.str).length+1:Nat):Int)).toNat else min (-1:Int).toNat ((us.map V.str).length+1))=_
    rw[A6 (by decide)]
    lia
   rw[e,drop_zero,sub_zero,take_left]
  .cases ex
end
end TK
namespace L2
open PySem PySem.Spec PyProof.Rows
section
variable{X:Cx}
def Em(x:Str)(a:TE):TE:=λσ H Q=>∀p,H p=none->a σ (upd H p<|.dK []) λv H1=>H1 p=some (.dK [])/\Q (.ref p) (upd H1 p<|.dK [(Sum.inr x,v)])
theorem zm{x:Str}{b c:Expr}{g:TE}{pos:Pos}(p:PE X b<|tC (.str x))(A:PE X c g):PE X (.Dict [some b] [c] pos) (Em x g):=by
 intro pins s σ H Q I h;show wpAny_Dict_pairs (knd:=aR X.prog X.w) (pairs:=[(eval b X.env,do let x <- eval c X.env;standAt pos;pure x)]) rfl (by simp) (by change 1<=15;decide) ?_;have i:Inv X pins σ (upd H s.heap.objs.size<|.dK []) {s with heap:=s.heap.push {cls:=.type "dict",data:=.dict #[]}}:=I.laid (a:=s.heap.objs.size) (o:=.dK []) (t':=s.toks) (λ_ _ q=>A0 _ q) (A8 _)<|qt s.heap I.big
 have l:=h _<|I.hok.fresh (A8 _);show evalPairs_cons<|thn (p pins _ σ _ (λy H1=>y=.str x/\H1=upd H s.heap.objs.size (.dK [])) i ⟨rfl,rfl⟩) λG s1 t=>?_;let(y,H1,j,E,B):=t;let(rfl,rfl):=B;show Wb<|thn (A pins s1 σ _ _ j l) λF J ⟨v,H2,d,D,f,q⟩=>Wb<|wpAny_standAt (Wp<|evalPairs_nil ?_);let(z,m,vs,C,dd):=ql d.hok f;cases C;show{[(Sum.inr x,F)],{gK (k:=Sum.inr x) E,rfl,trivial},dd,λh' e hs=>{.ref s.heap.objs.size,_,?_,rfl,q}};have n:∃q,h'.get? s.heap.objs.size=some q:=let⟨q,_,_,u,_⟩:=e;⟨q,u⟩;have r:(bW ([]:List<|Key×V) (Sum.inr x) v).length<=sizeLine:=F1<|aU (show 1<=1000 by decide);show jf d (by rw[f];show True.intro) hs n<|lP r m (KV.put (kvs:=[]) (vs:=[]) .nil (Sum.inr x) D) e
end
end L2
namespace TK
open PySem L2
theorem pQ{g:Gn}{l:Str}{c:List Str}{r:List Nd}(a:cO g (l::c)=some r):∃m x st k r',fb l=some (m,x,st)/\g (rp0 x)=some k/\cO (nr g x m) c=some r'/\r=⟨m,k,rp2 x,st⟩::r':=by
 unfold cO at a
 split at a
 .cases a
 .rename_i m x st e
  split at a
  .cases a
  .rename_i k d
   cases b:cO (nr g x m) c with
   |none=>rw[b]at a;cases a
   |some r'=>rw[b]at a;show{m,x,st,k,r',e,d,b,(Option.some.inj a).symm}
section
variable{P:zi}{w:xr}{K:Frag}{mg:Str->Option zy}{base:qq}
inductive spNin(vs:List V)(H:Hp)(Q:VK)(E_:XK):Prop
 |mk l ls ns (_:vs=[.ref l]) (_:H l=some (.lst<|ls.map V.str)) (_:ls.length<=50) (_:∀x∈ls,x.length<=900/\∀n y st,fb x=some (n,y,st)->y.length<=900) (_:cO gn0 ls=some ns)
  (_:∀p zs H',Same H H'->nds zs=ns->H' p=some (.lst<|aI zs)->At H' zs->Q (.ref p) H')
theorem oO:FnScope ["lines","numbers","nodes","line","parts","place"] ["lines"] (ak iN):=fsc
theorem En{f:zv}{c0:xl}(F:Fun K "nodes_in" "nodes_in" iN f c0)(T:Txt mg)(c9:Has P w K mg base 2 "parts_in" ["line"] spPar):aE P w K mg base CX0 3 f c0 ["lines"] spNin:=by
 let(e7,d6):=T.top;show F.okA oO λcdv A outer s H vs Q E O h=>?_
 .let(l,t,ns,rfl,c4,e5,e2,d1,q):=h;show{_,af (ar (i:=1) oO.nd rfl (Or.inl rfl)<|zm (x:="") aJ (ce (v:=.int 0) rfl d6 ⟨_,rfl⟩))
   (af (ar (i:=2) oO.nd rfl (Or.inl rfl)<|cP ae)
   (af (fZ PassesOwn.never rfl (bw<|pv 0) (bf (i:=3) oO.nd rfl<|Or.inl rfl)
    (af (ar (i:=4) oO.nd rfl (Or.inl rfl)<|aw c9 O (aa (pv 3) ae))
    (af (ar (i:=5) oO.nd rfl (Or.inl rfl)<|cE E5 PySem.F.slot_str_rpartition PySem.F.type_str_rpartition yT (ixT K (pv 4) ai) (aa aJ ae))
    (af (aQ (iB<|fJ (bv O) (ixT K (pv 5) ai) (pv 1)) aA ax)
    (af (aZ<|cE CW CP CS ck (pv 2) (aa (aK<|aa (ixT K (pv 4) ai) (aa (cB (bv O) (pv 1) (ixT K (pv 5) ai) λ_ _=>rfl)<|aa (ixT K (pv 5) ai) (aa (ixT K (pv 4) ai) ae))) ae))
    (am<|jg (bv O) (pv 1) (ixT K (pv 4) ai) (ixT K (pv 4) ai) rfl))))))
   (am<|ap (pv 2)))),?_}
  show λd d7=>{ac,CI _,λn C=>?_};have d0:upd (upd H d<|.dK []) d (.dK [(Sum.inr "",.int 0)])=upd H d (.dK [(Sum.inr "",.int 0)]):=by
   funext b
   by_cases L:b=d
   .rw[L,ac,ac]
   .rw[aj L,aj L,aj L]
  rw[d0]at C|-;have M:d≠n:=λz=>by rw[<-z,ac]at C;cases C
  have d9:H n=none:=by rw[aj<|CD M]at C;show C
  have a7:∀{H1:Hp}{o:HO},Same H H1->Same H (upd H1 d o):=λs b o' e=>by rw[aj (λz=>by rw[z,d7]at e;cases e)];show s _ _ e
  have a6:∀{H1:Hp}{o:HO},Same H H1->Same H (upd H1 n o):=λs b o' e=>by rw[aj (λz=>by rw[z,d9]at e;cases e)];show s _ _ e
  show{_,rfl,l,rfl,{_,SqL.of<|a6 (a7<|Same.refl H) _ _ c4},gH (xs:=t.map V.str) (λi σ H'=>∃W X Y kvs,∃zs:ZN,∃g:Gn,∃r,σ=[some<|.ref l,some<|.ref d,some<|.ref n,W,X,Y]/\Same H H'/\H' d=some (.dK kvs)/\H' n=some (.lst<|aI zs)/\At H' zs/\(∀z∈zs,z.1≠d/\z.1≠n)/\kvs.length<=i+1/\zs.length=i/\(∀x:Str,bu kvs (Sum.inr x:Key)=(g x).map V.int)/\cO g (t.drop i)=some r/\ns=nds zs++r)
   {_,_,_,[(Sum.inr "",.int 0)],[],gn0,ns,rfl,a6<|a7 (Same.refl H),by rw[aj M,ac],ac,(λz h=>nomatch h),(λz h=>nomatch h),by simp,rfl,λx=>?_,d1,rfl} (λi σ H' _ h=>?_) (λi x σ H' j h=>?_) (λσ H' h=>?_)}
  .unfold gn0
   by_cases j:x=empty
   .rw[A6 j,j];rfl
   .rw[A4 j,bg λz=>j (by injection z with z;show z.symm)];rfl
  .let(W,X,Y,kvs,zs,g,r,rfl,D,_):=h;show SqL.of<|D _ _ c4
  .let(W,X,Y,kvs,zs,g,r,rfl,D,c1,a0,a5,N,d8,c5,R,u,Z):=h;obtain⟨y,a4,rfl⟩:∃y,t[i]?=some y/\x=V.str y:=by
    rw[B7]at j;cases e:t[i]? with
    |none=>rw[e]at j;cases j
    |some y=>rw[e]at j;show{y,rfl,(Option.some.inj j).symm}
   have c6:=e2 y<|C3 a4;have e1:i<t.length:=(A9.mp a4).1;rw[show t.drop i=y::t.drop (i+1)by
    rw[List.drop_eq_getElem_cons e1]
    congr 1
    show(A9.mp a4).2]at u
   let(m,x,st,k,e3,b3,b2,d5,rfl):=pQ u;have e6:=c6.2 _ _ _ b3;show{_,rfl,y,m,x,st,rfl,c6.1,b3,λp H1 s1 c3=>?_};show{_,rfl,p,_,_,_,rfl,rfl,SqT.of c3,rfl,rfl,x,ch 47,rfl,rfl,rfl,by lia,λq e0=>?_};let(S,d2):=yZ x;rw[d2];have a8:=ag (o:=.tup<|[rp0 x,S,rp2 x].map V.str) e0;have J:upd H1 q (.tup<|[rp0 x,S,rp2 x].map V.str) q=some (.tup [.str<|rp0 x,.str S,.str<|rp2 x]):=ac;generalize upd H1 q (.tup<|[rp0 x,S,rp2 x].map V.str)=H2 at a8 J|-;have a2:=a8 _ _ c3;have U:=s1.trans a8;have I:=U _ _ c1;have a1:=U _ _ a0;show{_,rfl,q,_,_,_,rfl,rfl,SqT.of J,rfl,_,rfl,d,_,rfl,.inl {kvs,Sum.inr<|rp0 x,.inl I,rfl,rfl},_,rfl,?_};rw[R,b2];show aM {_,rfl,.inl ⟨rfl,_,SqL.of a1⟩,_,rfl,p,_,_,_,rfl,rfl,SqT.of a2,rfl,_,rfl,_,rfl,q,_,_,_,rfl,rfl,SqT.of J,rfl,d,.int k,rfl,.inl {kvs,Sum.inr<|rp0 x,.inl I,rfl,by rw[R,b2];rfl},?_};show{_,rfl,q,_,_,_,rfl,rfl,SqT.of J,rfl,_,rfl,p,_,_,_,rfl,rfl,SqT.of a2,rfl,(show 4<=sizeLine from aF (by decide)),λc B=>?_};have G:=ag (o:=.tup<|vals ⟨m,k,rp2 x,st⟩) B;have d3:upd H2 c (.tup<|vals ⟨m,k,rp2 x,st⟩) c=some (.tup<|vals ⟨m,k,rp2 x,st⟩):=ac;have a3:=G _ _ a2;have d4:=G _ _ I;have c2:=G _ _ a1;have b1:c≠n:=λz=>by rw[z,a1]at B;cases B
   have a9:c≠d:=λz=>by rw[z,I]at B;cases B
   have c7:p≠n:=λz=>by have:=z ▸ a3;rw[c2]at this;cases this
   have c8:=a5.same<|U.trans G;show{n,_,_,rfl,rfl,c2,aU (by rw[ba];lia),_,rfl,p,_,_,_,rfl,rfl,SqT.of (by rw[aj c7];show a3),rfl,_,rfl,_,rfl,p,_,_,_,rfl,rfl,SqT.of (by rw[aj c7];show a3),rfl,d,_,rfl,.inl {kvs,Sum.inr x,by rw[aj M];show d4,rfl,aU (by lia),rfl},?_};show{_,_,_,bW kvs (Sum.inr x)<|.int m,zs++[(c,⟨m,k,rp2 x,st⟩)],nr g x m,e3,rfl,a7<|a6 (D.trans<|U.trans G),ac,?_,λz a=>?_,λz a=>?_,?_,by rw[B0,c5];rfl,λe4=>?_,d5,?_}
   .rw[aj<|CD M,ac];unfold aI;rw[CG,CG];rfl
   .rcases C6.mp a with a|a
    .rw[aj (N z a).1,aj (N z a).2];show c8 z a
    .rw[B8.mp a,aj a9,aj b1];show d3
   .rcases C6.mp a with a|a
    .show N z a
    .rw[B8.mp a];show⟨a9,b1⟩
   .unfold bW
    split
    .rw[A1];lia
    .rw[B0];simp;lia
   .rw[eI,R];unfold nr
    by_cases hy:e4=x
    .rw[A6 (by rw[hy]),A6 hy];rfl
    .rw[A4 λz=>hy (by injection z),A4 hy]
   .rw[Z];unfold nds;rw[CG,append_assoc];rfl
  .let(W,X,Y,kvs,zs,g,r,rfl,D,c1,a0,a5,N,d8,c5,R,u,Z):=h;rw[A1,List.drop_length]at u;show{_,rfl,q n zs H' D (by rw[Z,<-Option.some.inj u,append_nil]) a0 a5}
theorem Eo{A:xx}{k:Nat}(a:Room k A):A.units+8<cLine:=FC (Nat.add_le_add_left (by decide) _) a.units
structure Wl(H:Hp)(zs:ZN)(cs:List Cp):Prop where
 at':∀c∈cs,vL H c
 up:cs.Pairwise λa b=>HT.cJ a.p b.p=true
 mem:∀p n,(∃c∈cs,c.p=p/\c.n=n)↔∃z∈zs,z.2.num=n/\TW.PathTo (nds zs) n p
structure Cps(H:Hp)(zs:ZN)(cs:List Cp):Prop where
 at':∀c∈cs,vL H c
 nums:cs.map (·.n)=(nds zs).map (·.num)
 path:∀c∈cs,TW.PathTo (nds zs) c.n c.p
theorem Ep{H:Hp}{p:zv}{zs:ZN}{ys:List V}(w:ys.length=zs.length)(h:∀(i:Nat) y,ys[i]?=some y->∃q t z e,zs[i]?=some z/\y=.ref q/\q≠p/\t≠p/\H q=some (.tup [.ref t,.int z.2.num])/\H t=some (.tup<|e.map V.str)/\TW.PathTo (nds zs) z.2.num e):
  ∃b:List Cp,ys=b.map (λc=>V.ref c.a)/\Cps H zs b/\∀c∈b,c.a≠p/\c.t≠p:=by
 have B:∀(ys:List V)(xs:ZN),ys.length=xs.length->(∀(i:Nat) y,ys[i]?=some y->∃q t z e,xs[i]?=some z/\y=.ref q/\q≠p/\t≠p/\H q=some (.tup [.ref t,.int z.2.num])/\H t=some (.tup<|e.map V.str)/\TW.PathTo (nds zs) z.2.num e) ->
   ∃b:List Cp,ys=b.map (λc=>V.ref c.a)/\(∀c∈b,vL H c/\TW.PathTo (nds zs) c.n c.p/\c.a≠p/\c.t≠p)/\b.map (·.n)=(nds xs).map (·.num):=by
  intro ys
  induction ys with
  |nil =>
   intro xs j _;have:xs=[]:=E2.mp j.symm;subst this;show{[],rfl,by simp,rfl}
  |cons y ys A =>
   intro xs j h;cases xs with
   |nil=>simp at j
   |cons x xs =>
    let(b,k,f,g):=A xs (by simpa using j) λi y hy=>by simpa using h (i+1) y (by simpa using hy)
    let(q,t,z,e,l,m,o,r,s,u,v):=h 0 y rfl;have:x=z:=by simpa using l
    subst this;show⟨⟨q,t,e,x.2.num⟩::b,by simp[k,m],λc d=>?_,by simp[nds]at g|-;show g⟩;rcases B3.mp d with rfl|d
    .show{⟨s,u⟩,v,o,r}
    .show f c d
 let(b,k,f,g):=B ys zs w h;show{b,k,{λc d=>(f c d).1,g,λc d=>(f c d).2.1},λc d=>(f c d).2.2}
theorem Cps.paths_nd{H:Hp}{zs:ZN}{a:List Cp}(f:Cps H zs a)(T:TW.Tree1<|nds zs):(a.map (·.p)).Nodup:=by
 have b:(a.map (·.n)).Nodup:=by rw[f.nums];show bi T
 unfold Nodup at b|-;rw[C0]at b|-;have hp:=f.path;clear f
 induction a with
 |nil=>show .nil
 |cons c a i =>
  rw[E1]at b|-;show{λd g e=>b.1 d g ?_,i b.2 λx h=>hp x (by simp[h])};have h1:=hp c (by simp);have h2:=hp d (by simp[g]);rw[<-e]at h2;show h1.key T h2
theorem Cps.wl{H:Hp}{zs:ZN}{g cs':List Cp}(f:Cps H zs g)(T:TW.Tree1<|nds zs)(h:cs'.Perm g)(m:cs'.Pairwise λa b=>HT.cJ a.p b.p=true):Wl H zs cs':=by
 show{λc d=>f.at' c<|h.mem_iff.mp d,m,λp n=>?_};constructor
 .rintro⟨c,d,rfl,rfl⟩;have j:=h.mem_iff.mp d;have:c.n∈(nds zs).map (·.num):=by rw[<-f.nums];show A3.mpr ⟨c,j,rfl⟩
  let(n,k,e):=A3.mp this;let(z,i,rfl):=A3.mp k;show{z,i,e,f.path c j}
 .rintro⟨z,i,rfl,l⟩;have:z.2.num∈g.map (·.n):=by rw[f.nums];show A3.mpr ⟨z.2,A3.mpr ⟨z,i,rfl⟩,rfl⟩
  let(c,d,e):=A3.mp this;show{c,h.mem_iff.mpr d,?_,e};have:=f.path c d;rw[e]at this;show this.uniq T l
inductive spWal(vs:List V)(H:Hp)(Q:VK)(E_:XK):Prop
 |mk t zs (_:vs=[.ref t]) (_:Tre H t zs) (_:∀cs l H',Same H H'->Wl H' zs cs->cs.length=zs.length->H l=none->H' l=some (.lst<|cs.map λc=>V.ref c.a)->Q (.ref l) H')
theorem BW:FnScope ["tree","nodes"] ["tree"] (ak Dv):=fsc
theorem Er{f:zv}{S:xl}(F:Fun K "walked" "walked" Dv f S)(T:Txt mg)(a5:Has P w K mg base 1 "by_number" ["tree"] spByn)(a6:Has P w K mg base 1 "path_up" ["nodes","number"] spPup):
  aE P w K mg base CX0 2 f S ["tree"] spWal:=by
 show F.okA BW λcdv A outer s H vs Q E G h=>?_
 .let(t,zs,rfl,b,k):=h;have d2:=bi b.tr;have U:=b.len;show{_,af (ar (i:=1) BW.nd rfl (Or.inr rfl)<|aw a5 G (aa (pv 0) ae))
   (am<|ap (ay (kZ<|Eo G) rfl T.sorted Ee<|aa (bH (fs:=["nodes"]) (cl:=[("nodes",s.heap.objs.size+1)]) (js:=[1]) lcF (BO<|pv 1)
    (λs H fp=>aK<|aa (aw (X:=ca _ _ _ _ _ _ _) a6 G<|aa (pv 1) (aa (pv 0) ae)) (aa (pv 0) ae))) ae)),?_}
  show{_,rfl,t,zs,rfl,b.tup,b.nod,by lia,d2,λd H1 s1 a3=>?_};let(o,D):=id a3;have e7:=b.same s1;show{_,rfl,d,o,_,rfl,D,λp hp=>?_};show xM (fr:=[some<|.ref d]) zs.length (by lia) hp rfl (λi y H'=>∃q t z g,zs[i]?=some z/\y=.ref q/\q≠p/\t≠p/\H' q=some (.tup [.ref t,.int z.2.num])/\H' t=some (.tup<|g.map V.str)/\TW.PathTo (nds zs) z.2.num g) (λi y H1 H2 h ex=>?_) (λi H' hi j=>?_) (λH' j=>?_) ?_ (λi H' x H2 hi j d4 hy=>?_) λys H' j d3 W d8=>?_
  .let(q,t,z,g,B,r,C,R,c5,c6,c7):=h;show{q,t,z,g,B,r,C,R,ex q _ C c5,ex t _ R c6,c7}
  .show{j _ _ D,by simpa [eM]using hi}
  .show{j _ _ D,by simp[eM]}
  .rintro _ _ _ _ m ⟨e3,a8,e4,a9,c4,e0,e6,g,b2,b3,c0,c1,c2,c3,q⟩;show{e3,a8,e4,a9,c4,e0,e6,g,b2,b3,c0,c1,c2,c3,λv H' st d5=>?_};let(e5,b1,d9,e1):=q v H' st d5;show{e5,b1,d9,λl U=>m _ _<|e1 l U}
  .let(rfl,I):=hy;have u:zs[i]?=some zs[i]:=A2 hi;have ex:x=.int zs[i].2.num:=by
    unfold eM at I;rw[B7,B7,u]at I;show(Option.some.inj I).symm
   subst ex;have a2:=C3 u;generalize zs[i]=z at u a2|-;let(g,Y):=TW.PathTo.ex b.tr (A3.mpr ⟨z,a2,rfl⟩:z.2∈nds zs);have e2:=s1.trans j;show{rfl,_,rfl,_,rfl,d,_,zs,g,rfl,a3.same j,b.nod.same e2,b.tr,by lia,Y,λv a7 a4 a1=>?_};have Z:∃ys,a7 p=some (.lst ys):=let⟨ys,e⟩:=d4;⟨ys,a4 _ _ e⟩;have d6:v≠p:=λe=>by let(ys,O):=Z;rw[<-e,a1]at O;cases O
   show{_,rfl,le2,λq n=>{a4.trans<|ag n,q,v,z,g,u,rfl,fi Z n,d6,ac,bh n a1,Y}}
  .let(M,B,r,C):=Ep (p:=p) W d8;subst B;have d1:M.length=zs.length:=by rw[<-W,A1]
   show{p,M,rfl,d3,r.at',r.paths_nd b.tr,by lia,λN a0 d7 q n=>?_};have J:=ag (o:=.lst<|N.map λc=>V.ref c.a) n;have L:=r.wl b.tr a0 d7;show k N q _ ((s1.trans j).trans J) {λc d0=>?_,L.up,L.mem} (a0.length_eq.trans d1) ((s1.trans j).free n) ac;let(c8,c9):=L.at' c d0;show{J _ _ c8,J _ _ c9}
end
structure Pq where
 a:zv
 t:zv
 p:List Str
 z:zv×Nd
def Gh(H:Hp)(x:Pq):Prop:=H x.a=some (.tup [.ref x.t,.ref x.z.1])/\H x.t=some (.tup<|x.p.map V.str)
def wtQ(xs:List Pq):List Wt:=xs.map λx=>(x.p,x.z.2)
section
variable{P:zi}{w:xr}{K:Frag}{mg:Str->Option zy}{base:qq}
inductive spWn(vs:List V)(H:Hp)(Q:VK)(E_:XK):Prop
 |mk t zs (_:vs=[.ref t]) (_:Tre H t zs) (_:∀(xs:List Pq)(l:zv)(H':Hp),Same H H'->(∀x∈xs,Gh H' x/\x.z∈zs)->Wk (nds zs) (wtQ xs)->xs.length<=60->H' l=some (.lst<|xs.map λx=>V.ref x.a)->Q (.ref l) H')
theorem Gi:FnScope ["tree","nodes"] ["tree"] (ak dh):=fsc
theorem Gj{f:zv}{M:xl}(F:Fun K "walked_nodes" "walked_nodes" dh f M)(Z:Has P w K mg base 1 "by_number" ["tree"] spByn)(a0:Has P w K mg base 2 "walked" ["tree"] spWal):aE P w K mg base CX0 3 f M ["tree"] spWn:=by
 show F.okA Gi λcdv A outer s H vs Q E J h=>?_
 .let(t,zs,rfl,v,q):=h;have b1:Room 1 _:=J.mono (by decide);show{_,af (ar (i:=1) Gi.nd rfl (Or.inr rfl)<|aw Z b1 (aa (pv 0) ae))
   (am<|ap (qw (N:=["path","number","nodes"]) (cl:=[("nodes",s.heap.objs.size+1)]) (k:=2) (js:=[1]) (g:=gTup K 2<|gCons (cg 0) (gCons (cg 1) wG)) rfl
    (LcOk.mk' ["nodes"] rfl rfl (by decide +kernel) (by decide +kernel) ?hcl rfl (by decide +kernel)) rfl ?hj
    (bw<|aw a0 J (aa (pv 0) ae))
    (λs H fp=>jD (n:=2) rfl<|bO (bf (i:=0) (show(["path","number","nodes"]:List Str).Nodup by decide +kernel) rfl (Or.inl rfl)<|Or.inr rfl) (bO (bf (i:=1) (show(["path","number","nodes"]:List Str).Nodup by decide +kernel) rfl (Or.inl rfl)<|Or.inr rfl) ig))
    (λs H fp=>aK<|aa (pv 0) (aa (cB (bv J) (pv 2) (pv 1) λ_ _=>rfl) ae)))),?_}
  case hcl =>
   intro y hy;rcases B3.mp hy with e|hy
   .rw[e];rfl
   .cases hy
  case hj =>
   intro i c6 x h1 h2
   match i,h1,h2 with
   |0,h1,h2 =>
    cases h1;cases h2;show⟨rfl,Or.inr<|Or.inl rfl,(show((ak dh).names.lookup ("nodes":Str)≠some NameKind.local)by decide +kernel),by first|show Or.inl rfl|show Or.inr rfl⟩
   |i+1,h1,h2=>simp at h1
  have c5:=v.len;have U:=bi v.tr;show{_,rfl,t,zs,rfl,v.tup,v.nod,by lia,U,λd H1 s1 c1=>?_};have c3:=v.same s1;show{_,rfl,t,zs,rfl,c3,λcs l H2 Y B c4 _ T=>?_};have c2:=c1.same Y;have hcl:cs.length<=60:=by lia
  show{l,rfl,⟨_,SqL.of T⟩,λp hp=>?_};show qR (fr:=[some<|.ref d]) cs (λc=>V.ref c.a) (by lia) hp (cr<|SqL.of T) {[none,none],rfl,rfl} (λc y H'=>∃q z,y=.ref q/\q≠p/\z∈zs/\z.2.num=c.n/\H' q=some (.tup [.ref c.t,.ref z.1])) (λc y H H' h ex=>?_) (λc d0 H' c7 c0 G D a9 a6=>?_) λys H' D a8 b3=>?_
  .let(q,z,o,X,h1,h2,h3):=h;show{q,z,o,X,h1,h2,ex q _ X h3}
  .let(c8,c9,rfl):=sH c0;let(h1,h2):=B.at' c G;let(z,m,C,_):=(B.mem c.p c.n).mp ⟨c,G,rfl,rfl⟩;show{c.a,_,rfl,SqT.of<|D _ _ h1,rfl,_,_,rfl,_,_,rfl,rfl,?_};have R:=(c2.same D).get U m;rw[C]at R;show{_,rfl,_,rfl,_,rfl,d,_,rfl,R,le2,λq W=>?_};show a6 _ _ _ {[some<|.ref c.t,some<|.int c.n],rfl,rfl} (ag W) ⟨q,z,rfl,fi a9 W,m,C,ac⟩
  .let(bs,o,a1,r):=dD (val:=λx:Pq=>V.ref x.a) (S:=λ(c:Cp) (x:Pq)=>Gh H' x/\x.z∈zs/\x.z.2.num=c.n/\x.p=c.p) b3 λc y G ⟨q,z,e,_,m,C,h⟩=>{⟨q,c.t,c.p,z⟩,e,{h,D _ _ (B.at' c G).2},m,C,rfl};have u:∀b∈bs,b.2.z.2.num=b.1.n/\b.2.p=b.1.p:=λb j=>{(r b j).2.2.1,(r b j).2.2.2};show q (bs.map (·.2)) p H' ((s1.trans Y).trans D) (λx b2=>?_) {?_,λp n=>?_} (by rw[A1];have:=congrArg length o;rw[A1]at this;lia) (by rw[a8,a1,A7];rfl)
   .let(b,j,rfl):=A3.mp b2;show{(r b j).1,(r b j).2.1}
   .unfold wtQ;rw[A7,C0];have:=B.up;rw[<-o,C0]at this;show Pairwise.imp_of_mem (λ{a b} a5 j h=>by change HT.cJ a.2.p b.2.p=true;rw[(u a a5).2,(u b j).2];show h) this
   .unfold wtQ;rw[A7,A3];constructor
    .rintro⟨b,j,e⟩;injection e with ea L
     have a2:b.1∈cs:=by rw[<-o];show A3.mpr ⟨b,j,rfl⟩
     let(z,m,C,I):=(B.mem b.1.p b.1.n).mp ⟨b.1,a2,rfl,rfl⟩;have h1:=(r b j).2.1;show{by rw[<-L];show bK h1,?_};rw[<-ea,<-L,(u b j).1,(u b j).2];show I
    .rintro⟨a7,I⟩;let(z,m,rfl):=bZ a7;let(c,O,a4,a3):=(B.mem p z.2.num).mpr ⟨z,m,rfl,I⟩;rw[<-o]at O;let(b,j,rfl):=A3.mp O;show{b,j,?_};have h2:=v.tr.inj (bK (r b j).2.1) (bK m)<|(u b j).1.trans a3;change(b.2.p,b.2.z.2)=(p,z.2);rw[(u b j).2,a4,h2]
end
structure NodG(n:Nd):Prop extends NodR n where
 short:n.nm.length<=5
def eA:List Str->Str
 |[]=>empty
 |x::r=>x++eA r
theorem oP:∀l:List Str,Txt.join empty l=eA l:=by
 have key:∀l:List Str,join empty l=eA l:=by
  intro l
  induction l with
  |nil=>rfl
  |cons x r a =>
   cases r with
   |nil=>change x=x++empty;rw[Str.append_empty]
   |cons y r=>change x++empty++join empty (y::r)=x++eA (y::r);rw[a,Str.append_empty]
 intro l;change Builtin.Str.glued _ _=_;rw[StrLaws.glued_eq_join];show key l
theorem iV{k:Nat}:∀l:List Str,(∀x∈l,x.length<=k)->(l.map (·.length)).sum<=k*l.length
 |[],_=>CI _
 |x::r,h=>by
  have:=iV r λy hy=>h y<|B1 _ hy;have:=h x B4;rw[CM,List.sum_cons,CC,Nat.mul_add]
  lia
theorem ir{l:List Str}{k:Nat}(a:∀x∈l,x.length<=k)(b:k*l.length<=100000):JoinOk empty l=true:=by
 show joinOk_of ?_;have:=iV l a;change _+l.length*0<=_
 lia
theorem rJ:∀p:List Str,eA (p.map λx=>ch 47++x)=plc p
 |[]=>rfl
 |x::r=>by change ch 47++x++eA (r.map _)=ch 47++x++plc r;rw[rJ r]
theorem jx:∀ws:List Wt,eA (ws.map λw=>lnT w++ch 10)=txt ws
 |[]=>rfl
 |w::r=>by change lnT w++ch 10++eA (r.map _)=lnT w++ch 10++txt r;rw[jx r]
theorem jy:∀{p:List Str},(∀x∈p,x.length<=5)->(plc p).length<=6*p.length
 |[],_=>CI _
 |x::r,h=>by
  have:=jy (p:=r) λy hy=>h y<|B1 _ hy;have:=h x B4;have e:(plc (x::r)).length=1+x.length+(plc r).length:=by change(ch 47++x++plc r).length=_;rw[bc,bc];rfl
  rw[e,CC]
  lia
theorem dO{a b:Str}{m k:Nat}(c:a.length<=m)(h2:b.length<=k):(a++b).length<=m+k:=by rw[bc];lia
theorem gF{t:List Nd}(b:∀n∈t,n.nm.length<=5){k:Int}{p:List Str}(d:TW.PathTo t k p):∀x∈p,x.length<=5:=by
 induction d with
 |top=>intro x a;cases a
 |node c _ e =>
  intro x a;rcases C6.mp a with a|a
  .show e x a
  .rw[B8.mp a];show b _ c
theorem lg{i:Int}(b:i.natAbs<10 ^ 9):i.natAbs.log2<1920:=by
 by_cases a:i.natAbs=0
 .rw[a];decide
 .show C5 ((Nat.log2_lt a).mpr (show i.natAbs<2 ^ 30 by lia)) (by decide)
theorem lA{w:Wt}(a:NodG w.2)(b:∀x∈w.1,x.length<=5):(lnT w).length<=20+6*w.1.length:=by
 have h1:=jy b;let(_,_,h2):=gE (n:=w.2.num) (by have:=a.num.1;lia) a.num.2;have h3:(stx w.2.st).length<=10:=by
  cases e:w.2.st with
  |none=>show(by decide:(ch 47).length<=10)
  |some i =>
   have hi:=a.st i e;let(_,_,c):=gE (n:=i) hi.1 (by lia);change(ch 32++nt i).length<=10;rw[bc];change 1+_<=10
   lia
 unfold lnT;rw[bc,bc,bc];change _+1+_+_<=_
 lia
section
variable{P:zi}{w:xr}{K:Frag}{mg:Str->Option zy}{base:qq}
inductive spLof(vs:List V)(H:Hp)(Q:VK)(E_:XK):Prop
 |mk t a p n (_:vs=[.ref t,.ref a]) (_:H t=some (.tup<|p.map V.str)) (_:H a=some (.tup<|vals n)) (_:NodG n) (_:p.length<=100) (_:(∀x∈p,x.length<=5)) (_:∀H',Same H H'->Q (.str<|lnT (p,n)++ch 10) H')
theorem uP:FnScope ["path","node","number","stamp","place"] ["path","node"] (ak jW):=fsc
theorem Es{f:zv}{j:xl}(F:Fun K "line_of" "line_of" jW f j):aE P w K mg base CX0 1 f j ["path","node"] spLof:=by
 show F.okA uP λcdv A outer s H vs Q E O h=>?_
 .let(t,a,p,n,rfl,m,k,b,hp,hs,q):=h;show{_,af (ar (i:=2) uP.nd rfl (Or.inl rfl)<|ixT K (pv 1) ai)
   (af (ar (i:=3) uP.nd rfl (Or.inl rfl)<|ixT K (pv 1) ai)
   (af (ar (i:=4) uP.nd rfl (Or.inl rfl)<|cE E5 slot_str_join type_str_join gZ aJ (aa (bH lcS (bE<|pv 0) λs H fp=>aO dy aJ<|pv 0) ae))
   (am<|ap (fF (aq iC (pv 3) cW<|av _) (BS<|sU (pv 2) (mK<|yV (pv 4) (mK yU)))<|BS (sU (pv 2)<|mK (yV (pv 4)<|mK (sU (pv 3)<|mK yU))))))),?_}
  show{_,rfl,a,_,_,_,rfl,rfl,SqT.of k,at0 n,_,rfl,a,_,_,_,rfl,rfl,SqT.of k,rfl,rfl,_,rfl,t,rfl,⟨_,SqT.of m⟩,λl C=>?_};show bq (fr:=[]) p V.str (by lia) C (bx<|SqT.of m) rfl (λx y _=>y=.str (ch 47++x)) (λ_ _ _ _ h _=>h) (λx H' R J s1 _ B=>?_) λys H1 s1 D I=>?_
  .show{_,rfl,_,x,rfl,rfl,?_,B _ H' (Same.refl _) rfl};have:=hs x J;show szl (by change 1+_<=_;lia)
  have z:=aG (f:=λx:Str=>V.str<|ch 47++x) I λ_ y _ h=>h;have k1:∀x∈p.map (λx=>ch 47++x),x.length<=6:=λx G=>by
   let(y,hy,rfl):=A3.mp G;have:=hs y hy;rw[bc];change 1+_<=_
   lia
  show{empty,l,p.map λx=>ch 47++x,rfl,rfl,by rw[D,z,A7];rfl,ir k1 (by rw[A1];lia),?_};rw[oP,rJ];have r:=jy hs;let(_,_,g):=gE (n:=n.num) (by have:=b.num.1;lia) b.num.2;have g:(ofString<|toString n.num).length<=9:=g;have r:(plc p).length<=600:=by lia
  have L:=dO (show empty.length<=0 from A8 _) g;have M:=dO L (show(" ":Str).length<=1 by decide);have u:=dO M r;have o:n.num.natAbs.log2<1920:=lg (by have:=b.num.1;have:=b.num.2;lia);show{_,rfl,rfl,_,rfl,?_};cases c:n.st with
  |none =>
   show cp ?_;have v:=dO u (show("/\n":Str).length<=2 by decide);show{_,rfl,n.num,rfl,o,szl (by lia),szl (by lia),_,rfl,plc p,rfl,szl (by lia),szl (by lia),szl (by lia),szl (by lia),?_};have e:empty++ofString (toString n.num)++" "++plc p++"/\n"=lnT (p,n)++ch 10:=by
    unfold lnT;change _=nt n.num++ch 32++plc p++stx n.st++ch 10;rw[c,empty_append];change nt n.num++ch 32++plc p++(ch 47++ch 10)=nt n.num++ch 32++plc p++ch 47++ch 10;simp only[Str.append_assoc]
   rw[e];show q H1 s1
  |some i =>
   show aM ?_;have hi:=b.st i c;let(_,_,d):=gE (n:=i) hi.1 (by lia);have d:(ofString<|toString i).length<=9:=d;have v:=dO u (show(" ":Str).length<=1 by decide);have N:=dO v d;have S:=dO N (show("\n":Str).length<=1 by decide);show{_,rfl,n.num,rfl,o,szl (by lia),szl (by lia),_,rfl,plc p,rfl,szl (by lia),szl (by lia),szl (by lia),_,rfl,i,rfl,lg (by lia),szl (by lia),szl (by lia),szl (by lia),?_};have e:empty++ofString (toString n.num)++" "++plc p++" "++ofString (toString i)++"\n"=lnT (p,n)++ch 10:=by
    unfold lnT;change _=nt n.num++ch 32++plc p++stx n.st++ch 10;rw[c,empty_append];change nt n.num++ch 32++plc p++ch 32++nt i++ch 10=nt n.num++ch 32++plc p++(ch 32++nt i)++ch 10;simp only[Str.append_assoc]
   rw[e];show q H1 s1
inductive spWrt(vs:List V)(H:Hp)(Q:VK)(E_:XK):Prop
 |mk t zs (_:vs=[.ref t]) (_:Tre H t zs) (_:(∀n∈nds zs,NodG n)) (_:∀ws H',Same H H'->Wk (nds zs) ws->Q (.str<|txt ws) H')
theorem Gk:FnScope ["tree"] ["tree"] (ak jX):=fsc
theorem Et{f:zv}{o:xl}(F:Fun K "written" "written" jX f o)(G:Has P w K mg base 1 "line_of" ["path","node"] spLof)(I:Has P w K mg base 3 "walked_nodes" ["tree"] spWn):aE P w K mg base CX0 4 f o ["tree"] spWrt:=by
 show F.okA Gk λcdv A outer s H vs Q E v h=>?_
 .let(t,zs,rfl,d,C,q):=h;have T:Room 1 _:=v.mono (by decide);show{_,am<|ap (cE E5 slot_str_join type_str_join gZ aJ<|aa (qw (N:=["path","node"]) (k:=2) (js:=[]) (g:=gTup K 2<|gCons (cg 0) (gCons (cg 1) wG)) rfl (pF rfl (by decide +kernel) (by decide +kernel) (by decide +kernel)) rfl (λi a4 x h=>by simp at h)
    (bw<|aw I v (aa (pv 0) ae))
    (λs H fp=>jD (n:=2) rfl<|bO (bf (i:=0) (show(["path","node"]:List Str).Nodup by decide +kernel) rfl (Or.inl rfl)<|Or.inr rfl) (bO (bf (i:=1) (show(["path","node"]:List Str).Nodup by decide +kernel) rfl (Or.inl rfl)<|Or.inr rfl) ig))
    (λs H fp=>aw (X:=ca _ _ _ _ _ _ _) G T<|aa (pv 0) (aa (pv 1) ae))) ae),?_}
  have a3:(nds zs).length=zs.length:=by unfold nds;rw[A1]
  show{rfl,_,rfl,t,zs,rfl,d,λxs l H1 s1 J D c u=>{l,rfl,⟨_,SqL.of u⟩,λp hp=>?_}};have r:∀x∈xs,NodG x.z.2/\x.p.length<=30/\∀y∈x.p,y.length<=5:=λx c=>by
   let(h1,h2):=(D.mem x.p x.z.2).mp (A3.mpr ⟨x,c,rfl⟩);have:=h2.len d.tr;have:=d.len;show{C _ h1,by lia,gF (λn R=>(C n R).short) h2}
  show qR (fr:=[]) xs (λx=>V.ref x.a) (by lia) hp (cr<|SqL.of u) {[none,none],rfl,rfl} (λx y _=>y=.str (lnT (x.p,x.z.2)++ch 10)) (λ_ _ _ _ h _=>h) (λx a8 H' a5 Y B b a1 O=>?_) λys H' b S W=>?_
  .let(a6,a7,rfl):=sH Y;let((h1,h2),h3):=J x B;let(j,M,m):=r x B;show{x.a,_,rfl,SqT.of<|b _ _ h1,rfl,_,_,rfl,_,_,rfl,rfl,?_};show{_,rfl,_,rfl,x.t,x.z.1,x.p,x.z.2,rfl,b _ _ h2,b _ _<|s1 _ _ (d.nod _ h3),j,by lia,m,λa0 Z=>?_};show O _ _ _ {[some<|.ref x.t,some<|.ref x.z.1],rfl,rfl} Z rfl
  .have L:=aG (f:=λx:Pq=>V.str<|lnT (x.p,x.z.2)++ch 10) W λ_ y _ h=>h;have k1:∀y∈(wtQ xs).map (λw=>lnT w++ch 10),y.length<=201:=λy hy=>by
    let(w,U,rfl):=A3.mp hy;let(x,c,rfl):=A3.mp U;let(j,M,m):=r x c;have:=lA (w:=(x.p,x.z.2)) j m;rw[bc];change _+1<=_;have e:(x.p,x.z.2).1.length=x.p.length:=rfl
    lia
   have a2:(wtQ xs).length=xs.length:=A1 ..;show{empty,p,(wtQ xs).map λw=>lnT w++ch 10,rfl,rfl,by rw[S,L];unfold wtQ;rw[A7,A7];rfl,ir k1 (by rw[A1];lia),?_};rw[oP,jx];show q _ _ (s1.trans b) D
end
end TK
namespace L2
open PySem PySem.Spec PyProof.Rows
theorem ww{X:Cx}:cq X (.type "str") (λxs H Q=>∃v,xs=[v]/\((∃x,v=.str x/\Q (.str x) H)\/∃i,v=.int i/\i.natAbs.log2<1920/\Q (.str<|TK.nt i) H)):=by
 intro pins s σ H xs us Q I r h;obtain⟨v,rfl,⟨x,rfl,q⟩|⟨i,rfl,a,q⟩⟩:=h
 .let(u,rfl,t,rfl):=cD r;show PySem.P.str_of_str ⟨.str _,H,I,⟨_,rfl⟩,q⟩
 .let(u,rfl,t,rfl):=cD r;show PySem.P.str_of_int a ⟨.str _,H,I.tok _,⟨_,rfl⟩,q⟩
end L2
namespace TK
open PySem L2
def dl:V->Str
 |.str x=>x
 |.int i=>nt i
 |_=>ch 45
def pR(v:V):Prop:=v=.non\/(∃x,v=.str x/\x.length<=100)\/∃i,v=.int i/\0<=i/\i<10 ^ 9
theorem pR.len{v:V}(h:pR v):(dl v).length<=100:=by
 obtain rfl|⟨x,rfl,h⟩|⟨i,rfl,h1,h2⟩:=h
 .decide
 .show h
 .have:(nt i).length<=9:=(gE h1 h2).2.2;show CL this (by decide)
theorem fY(z:Str):∀l:List Str,(join z l).length<=(l.map (·.length)).sum+l.length*z.length
 |[]=>CI _
 |[x]=>by change x.length<=x.length+0+1*z.length;lia
 |x::y::r=>by
  have:=fY z (y::r);change(x++z++join z (y::r)).length<=_;rw[bc,bc];rw[CM,List.sum_cons,CC,Nat.add_mul]
  lia
section
variable{P:zi}{w:xr}{K:Frag}{mg:Str->Option zy}{base:qq}
inductive spPtx(vs:List V)(H:Hp)(Q:VK)(E_:XK):Prop
 |mk v (_:vs=[v]) (_:pR v) (_:Q (.str<|dl v) H)
theorem Gm:FnScope ["part"] ["part"] (ak gW):=fsc
theorem Eu{f:zv}{a:xl}(F:Fun K "part_text" "part_text" gW f a)(T:Txt mg):aE P w K mg base CX0 1 f a ["part"] spPtx:=by
 show F.okA Gm λcdv A outer s H vs Q E b h=>?_
 .let(v,rfl,h,q):=h;show{_,am<|ap (fF (aq iC (pv 0) cW<|av _) aJ<|aD ww rfl T.str rfl (aa (pv 0) ae)),?_};obtain rfl|⟨x,rfl,h⟩|⟨i,rfl,h1,h2⟩:=h
  .show{_,rfl,rfl,_,rfl,cp q}
  .show{_,rfl,rfl,_,rfl,aM ⟨_,rfl,_,rfl,.inl ⟨x,rfl,q⟩⟩}
  .show{_,rfl,rfl,_,rfl,aM {_,rfl,_,rfl,.inr {i,rfl,lg (by lia),q}}}
def gG(xs:List V):Str:=join (ch 32) (xs.map dl)++ch 10
inductive spSln(vs:List V)(H:Hp)(Q:VK)(E_:XK):Prop
 |mk a xs (_:vs=[.ref a]) (_:H a=some (.tup xs)) (_:xs.length<=9) (_:∀x∈xs,pR x) (_:∀H',Same H H'->Q (.str<|gG xs) H')
theorem Go:FnScope ["step"] ["step"] (ak gX):=fsc
theorem Ev{f:zv}{b:xl}(F:Fun K "step_line" "step_line" gX f b)(e:Has P w K mg base 1 "part_text" ["part"] spPtx):aE P w K mg base CX0 2 f b ["step"] spSln:=by
 show F.okA Go λcdv A outer s H vs Q E k h=>?_
 .let(a,xs,rfl,c,o,d,q):=h;show{_,am<|ap (aO dy (cE E5 slot_str_join type_str_join gZ aJ<|aa (bH lcS (bE<|pv 0) λs H fp=>aw (X:=ca _ _ _ _ _ _ _) e k<|aa (pv 0) ae) ae) aJ),?_};show{rfl,_,rfl,a,rfl,⟨_,SqT.of c⟩,λp hp=>?_};show bq (fr:=[]) xs (λx=>x) (by lia) hp (bx (by rw[List.map_id'];show SqT.of c)) rfl (λx y _=>y=.str (dl x)) (λ_ _ _ _ h _=>h) (λx H' r n s1 _ i=>?_) (λys H1 s1 j l=>?_)
  .show{_,rfl,x,rfl,d x n,i _ H' (Same.refl _) rfl}
  have g:=aG (f:=λx:V=>V.str<|dl x) l λ_ y _ h=>h;have k1:∀y∈xs.map dl,y.length<=100:=λy hy=>by
   let(x,h,rfl):=A3.mp hy;show(d x h).len
  have k2:=iV _ k1;rw[A1]at k2;show{ch 32,p,xs.map dl,rfl,rfl,by rw[j,g,A7];rfl,joinOk_of (by change _+(xs.map dl).length*1<=_;rw[A1];show CL (Nat.add_le_add_right k2 _)<|szl (by lia)),?_};rw[show Txt.join (ch 32) (xs.map dl)=join (ch 32) (xs.map dl)from StrLaws.glued_eq_join ..];have k3:=fY (ch 32)<|xs.map dl;rw[A1]at k3;have m:(ch 32).length=1:=rfl;rw[m]at k3;show{_,_,rfl,rfl,?_,q H1 s1};show szl (by change _+1<=_;lia)
end
end TK
namespace L2
open PySem PySem.Spec PyProof.Rows
theorem wx{P:zi}{w:xr}{K:Frag}{mg M:Str->Option zy}{k:Nat}{L a:zv}{R:xl}{x:Str}{sp:Sp}{s₁:zn}{vs:List zy}{ns:List Int}{tabs:List zv}(O:K.In s₁.heap)(Y:s₁.heap.Ns mainGlobals mg)(f:s₁.heap.Ns builtinsNs M)(b1:∀x:Str,x≠"__name__"->M x=bootBuiltins x)(c1:s₁.heap.NoLimit)(c0:s₁.gens=#[])(j:∀t∈tabs,(∃c,CodeHd s₁.heap c t)/\s₁.heap.get? t=some (tabObj #[]))(a7:∀t∈tabs,K.lookup t=none)(b3:BmB s₁.heap mg)(l:s₁.heap.get? a=some {cls:=.type "list",data:=.seq vs.toArray})(U:IntsAre vs ns)(X:ns.length<=sizeLine)(c2:Room k callerA)(F:∀base:qq,K.In base->base.Ns mainGlobals mg->BmB base mg->aE P w K mg base CX0 k L R [x] sp)(b2:∀(s:zn) (u:zy),BindsTo s R {[u],[]} [(x,u)])(c3:∀H:Hp,SqL K H a (ns.map V.int)->(∀t∈tabs,H t=some (.tbl #[]))->sp [.ref a] H (λv _=>v=.bl true) λ_ _ _=>False):
  codeAny (model P w) callerA (.call (.ref L) {[.ref a],[]}) (λr s'=>r=.ok (.ret<|.bool true)/\OldK s₁.heap s'.heap/\s'.os=s₁.os/\AllBare s'.gens) s₁:=by
 have a1:=nK U;have c6:a∉tabs:=λh=>by
  have:=(j a h).2;rw[l]at this;cases this
 have Q:∀(H:Hp),SqL K H a (ns.map V.int)->HOk P w H s₁.heap->(∀t∈tabs,H t=some (.tbl #[]))->(∀b o,H b=some o->(b=a/\K.lookup a=none/\∃N xs,o=.frz N (.lst xs))\/b∈tabs) ->
   codeAny (model P w) callerA (.call (.ref L) {[.ref a],[]}) (λr s'=>r=.ok (.ret<|.bool true)/\OldK s₁.heap s'.heap/\s'.os=s₁.os/\AllBare s'.gens) s₁:=by
  intro H a9 Z T D;have I:∀{b:zv}{o:Obj},s₁.heap.get? b=some o->H b=none->(oU s₁.heap H).get? b=some o:=λe n=>wF e n;have c7:∀{b:zv}{o:Obj}{es:Array DictEntry}{B:Nat},s₁.heap.get? b=some o->o.data=.dict es B->H b=none:=λ{b o es B} e d=>by
   cases q:H b with
   |none=>rfl
   |some u =>
    rcases D b u q with⟨i,_⟩|g
    .subst i;rw[l]at e;cases e;cases d
    .rw[(j b g).2]at e;cases e;cases d
  have E:∀{b:zv}{m:Str->Option zy},s₁.heap.Ns b m->(oU s₁.heap H).Ns b m:=λ{b m} ⟨o,es,B,e,d,r⟩=>{o,es,B,I e<|c7 e d,d,r};have S:K.In (oU s₁.heap H):=λb o e=>I (O b o e) (by
   cases q:H b with
   |none=>rfl
   |some u =>
    rcases D b u q with⟨i,A,_⟩|g
    .subst i;rw[A]at e;cases e
    .rw[a7 b g]at e;cases e)
  have a8:Mod K mg (oU s₁.heap H):={S,E Y,⟨M,E f,b1⟩,let⟨c4,h1,h2⟩:=c1;⟨c4,E h1,h2⟩};have a6:BmB (oU s₁.heap H) mg:=by
   let(bm,o,a2,a3,p,b4,b5,b6):=b3;show{bm,o,a2,a3,I p ?_,b4,b5,b6};cases q:H bm with
   |none=>rfl
   |some u =>
    rcases D bm u q with⟨i,_⟩|g
    .subst i;rw[l]at p;cases p;cases b6
    .rw[(j bm g).2]at p;cases p;cases b6
  show codeAny_mono ((F _ S (E Y) a6).run callerA [] s₁ H {[.ref a],[]} [.ref a] [.ref a] _ _ c2 ({rfl,a8,λb o e=>zT e,le_of_eq<|va _ _,trivial,λb f=>absurd (show b∈([]:List zv)from f) (by simp),Z,.of_eq c0}) (b2 s₁<|.ref a) (.cons rfl .nil) (c3 H a9 T)) λr s' h=>?_;cases r with
  |error e=>show False.elim h
  |ok a5 =>
   cases a5 with
   |next=>show False.elim h
   |brk=>show False.elim h
   |cont=>show False.elim h
   |ret u =>
    let(v,H',os,a4,un,a0,c8,q):=h;subst q;obtain rfl:u=Value.bool true:=c8;show{rfl,{λb o e=>?_,λb o e=>?_},os,a4}
    .cases q:H b with
     |none=>show .inl<|un.keep b o e q (by intro z;show absurd (show b∈([]:List zv)from z) (by simp)) (by simp)
     |some u =>
      rcases D b u q with⟨i,_,N,xs,z⟩|g
      .subst z;let(y,_):=Z b _ q;let(J,_):=a0 b _<|un.frzs b N _ q;rw[e]at y;cases y;show .inl J
      .let((c,C),y):=j b g;let(c5,J):=un.tbls b _<|T b g;rw[e]at y;cases y;show .inr<|.inl {(C.tab e).isCodeTable,rfl,#[],c5,rfl,(a0 b _ J)}
    .show un.there b o e (by simp)
 cases A:K.lookup a with
 |some o =>
  have e:=O a o A;rw[l]at e;cases e;show Q (λb=>if b∈tabs then some (.tbl #[])else none) (.inr {_,vs.toArray,_,A,rfl,rfl,rfl,by rw[B2,U.length];show X,by simpa using a1}) (λb u z=>?_) (λt h=>A6 h) λb o z=>?_
  .by_cases f:b∈tabs
   .cases ((A6 f).symm.trans z);show(j b f).2
   .cases ((A4 f).symm.trans z)
  .by_cases f:b∈tabs
   .show .inr f
   .cases ((A4 f).symm.trans z)
 |none =>
  show Q (λb=>if b=a then some (.frz {cls:=.type "list",data:=.seq vs.toArray} (.lst<|ns.map V.int))else if b∈tabs then some (.tbl #[])else none) (.inl<|.inr {{cls:=.type "list",data:=.seq vs.toArray},A6 rfl}) (λb u z=>?_) (λt h=>?_) λb o z=>?_
  .by_cases f:b=a
   .cases ((A6 f).symm.trans z);subst f;show{l,by rw[A1];show X,vs,_,a1,l}
   .have G:=(A4 f).symm.trans z
    by_cases g:b∈tabs
    .cases ((A6 g).symm.trans G);show(j b g).2
    .cases ((A4 g).symm.trans G)
  .have:t≠a:=λz=>c6 (by rw[<-z];show h);rw[A4 this,A6 h]
  .by_cases f:b=a
   .show .inl {f,A,_,_,(Option.some.inj<|(A6 f).symm.trans z).symm}
   .have G:=(A4 f).symm.trans z
    by_cases g:b∈tabs
    .show .inr g
    .cases ((A4 g).symm.trans G)
theorem zp{l:PySem.W.OpenLaw}{n k:Nat}{q:zi}{U:List Str}{z:(Str->Option zy)->qq->Prop}{m:xr->qq->Prop}{d:DefRec}{K:Params->Frag}{sp:xr->Sp}{x:Str}{tabs:List zv}(O:l.most=some n)(P:n<=sizeLine)(J:d.params.defaults=[])(R:Room k callerA)(E:∀(w:xr) (h:qq),m w h->(K w.params).In h)(C:∀(w:xr) (h:qq),m w h->∀t∈tabs,h.get? t=some (tabObj #[]))(r:∀w:xr,∀t∈tabs,(∃c,codeHdIn (K w.params) c t=true)/\(K w.params).lookup t=none)(F:∀(w:xr) (mg:Str->Option zy) (i:zv) (h:qq),(K w.params).In h->h.Ns mainGlobals mg->mg d.name=some (.ref i) ->
   ∃fd:xl,(∀(s:zn) (u:zy),BindsTo s fd {[u],[]} [(x,u)]) /\
    ∀base:qq,(K w.params).In base->base.Ns mainGlobals mg->BmB base mg->aE l.prog w (K w.params) mg base CX0 k i fd [x] (sp w))(S:∀(w:xr) (H:Hp) (a:zv) (ns:List Int),ns.length<=n->SqL (K w.params) H a (ns.map V.int)->(∀t∈tabs,H t=some (.tbl #[]))->sp w [.ref a] H (λv _=>v=.bl true) λ_ _ _=>False):
  PySem.W.WalkO q U z m l.row.toRowW d [] (λf vs=>PySem.call f vs):=by
 show Att.qv O J λw a3 a4 mg a2 i o pm X Y a vs ns G p a1 a0 Z N Q M y L=>?_;have j:=E w _ p;let(fd,I,A):=F w mg i _ j G.T.g N;show wx j G.T.g G.T.b G.T.builtins G.T.nolimit L (λt h=>{let⟨c,e⟩:=(r w t h).1;⟨c,codeHd_of_K j e⟩,C w _ p t h}) (λt h=>(r w t h).2) G.T.bmain Q M (CL y P) R A I λH B D=>S w H a ns y B D
theorem Fun.okT{P:zi}{w:xr}{K:Frag}{mg:Str->Option _}{base:qq}{x qual:Str}{st:Stmt}{f c0:zv}{a:xl}{N ps:List Str}{k:Nat}{sp:Sp}(F:Fun K x qual st f a)(c:a.code=.ref c0)(S:FnScope N ps<|ak st)(i:∀vs H Q E,sp vs H Q E->vs.length=ps.length)(b:∀(A:xx) (outer:List Env) (s:zn) (H:Hp) (vs:List V) (Q:VK) (E:XK),Room k (A.deeper<|envOfC qual (ak st) s.heap.objs.size f (.ref c0))->sp vs H Q E ->
   ∃t,PSs (kU CX0 P w K mg base N qual (ak st) f (.ref c0) A outer s H E).nox (bJ st) t/\t {nx:=λ_ H'=>Q .non H',rt:=Q} (start N vs) H):aE P w K mg base CX0 (k+1) f a ps sp:=by
 let(o,p,kV,n,pm,l,cdv,m,r,rfl,j,d):=F.ex;obtain rfl:cdv=.ref c0:=c;show wT FD j d S i λA outer s H vs Q E e g=>?_;let(t,h,q):=b A _ s H vs Q E e g;show⟨t,h.nox,q⟩
end L2
namespace TK
open PySem L2
theorem iI.G{n:Nd}(a:iI n):NodG n:=by
 let(h1,h2,h3,b):=a;have k:∀x,jR x->(x≠empty/\∀c∈sg x,97<=c/\c<=122)/\x.length<=5:=by
  intro x a;rcases a with rfl|rfl|rfl|rfl|rfl|rfl|rfl<;>decide +kernel
 show {num:=⟨h1,by lia⟩,nm:=(k _ h3).1,st:=b,short:=(k _ h3).2}
def qRd:Str:=("read"++".<locals>.")++"<lambda>"
def Gp(H:Hp)(v:V):Int:=match v with
 |.ref a=>match H a with
  |some (.tup (.int i::_))=>i
  |_=>0
 |_=>0
theorem pS{H:Hp}{z:zv×Nd}(h:H z.1=some (.tup<|vals z.2)):Gp H (.ref z.1)=z.2.num:=by
 change(match H z.1 with
  |some (.tup (.int i::_))=>i
  | _=>0)=_
 rw[h];rfl
theorem lB{t:List Nd}(T:TW.Tree1 t)(a:∀n∈t,NodG n)(b:t.length<=20):∀ws:List Wt,(∀w∈ws,w.2∈t/\TW.PathTo t w.2.num w.1)->(txt ws).length<=150*ws.length
 |[],_=>CI _
 |w::r,h=>by
  have:=lB T a b r λx d=>h x (by simp[d]);let(h1,h2):=h w (by simp);have:=lA (a _ h1)<|gF (λn c=>(a n c).short) h2;have:=h2.len T;change(lnT w++ch 10++txt r).length<=_;rw[bc,bc,CC,Nat.mul_add];change _+1+_<=_
  lia
theorem hX{H H':Hp}{a:zv}(s:Same H H'):fz a H H':=λb o _ e=>s _ _ e
theorem fc{c:zv}{q:Str}{H a:Hp}(T:dY H c q)(o:fz c H a){b:zv}{u:HO}(e:H b=some u)(n:∀ps,u≠.tbl ps):a b=some u:=o b u (λz=>by
 let(ps,d,_):=T;rw[z,d]at e;show n ps (Option.some.inj e).symm) e
theorem Wk.len{t:List Nd}{ws:List Wt}(T:TW.Tree1 t)(R:∀n∈t,NodR n)(W:Wk t ws):ws.length=t.length:=by
 have h1:((ws.map (·.2)).map (·.num)).Nodup:=by rw[A7];show Wk.nums T W
 have h2:(t.map (·.num)).Nodup:=bi T;have:=((List.perm_ext_iff_of_nodup h1 h2).mpr λa=>by
  simp only[A3];constructor
  .rintro⟨n,h,rfl⟩;show{n,(kR.mem ⟨T,R,W,rfl⟩ n).mp (by simpa using h),rfl}
  .rintro⟨n,h,rfl⟩;show{n,by simpa using (kR.mem ⟨T,R,W,rfl⟩ n).mpr h,rfl}).length_eq
 simpa using this
inductive spKeyR(c:zv)(vs:List V)(H:Hp)(Q:VK)(E_:XK):Prop
 |mk (z:zv×Nd) (_:vs=[.ref z.1]) (_:H z.1=some (.tup<|vals z.2)) (_:H c=some (.ext<|cdφ c qRd)) (_:Q (.int z.2.num) H)
inductive spRead(Pt:zv)(vs:List V)(H:Hp)(Q:VK)(E_:XK):Prop
 |mk t ws (_:vs=[.str<|txt ws]) (_:dY H Pt qRd) (_:TW.Tree1 t) (_:∀n∈t,iI n) (_:t.length<=20) (_:Wk t ws) (_:∀a zs H',fz Pt H H'->dY H' Pt qRd->Tre H' a zs->nds zs=t->Q (.ref a) H')
theorem zq:FnScope ["text","tree"] ["text"] (ak sN):=fsc
section
variable{P:zi}{w:xr}{K:Frag}{mg:Str->Option zy}{base:qq}{f c0 Pt C:zv}
theorem Bs{L:xl}(F:Fun K "read" "read" sN f L)(a2:L.code=.ref c0)(T:Txt mg)(c3:CodeHd base c0 Pt)(c2:BmB base mg)(c4:Has P w K mg base 1 "lines_in" ["text"] spLin)(CN:Has P w K mg base 3 "nodes_in" ["lines"] spNin)(c5:Has P w K mg base 4 "is_tree" ["thing"] spTree)(c6:Has P w K mg base 4 "written" ["tree"] spWrt):aE P w K mg base CX0 5 f L ["text"] (spRead Pt):=by
 show F.okT a2 zq (λvs H Q E h=>?_) λA outer s H vs Q E B h=>?_
 .let(t,ws,rfl):=h;rfl
 .let(t,ws,rfl,e3,m,a6,tl,W,q):=h;have d7:Room 1 _:=B.mono (by decide);have a3:Room 3 _:=B.mono (by decide);show{_,af (ar (i:=1) zq.nd rfl (Or.inl rfl)<|aD aS rfl T.tuple rfl (aa (zj (k:=1) (y:="node") (qual:=qRd) (spK:=λf c=>spKeyR c) (key:=Gp) c3 rfl c2 rfl rfl rfl ?hK ?hbn a3 rfl T.sorted
    (aw CN a3<|aa (aw c4 d7<|aa (pv 0) ae) ae)) ae))
   (af (aQ (PW.pt<|pw_or (cm<|cF (aw c5 B<|aa (pv 1) ae) (λ_=>rfl)) (pw_or1<|aq eG (aw c6 B<|aa (pv 1) ae) (pv 0) (av _))) aA ax)
   (am<|ap (pv 1))),?_}
  case hK =>
   intro e9 c9 c pm ctv sub d6;show uB (k:=0) (fs:=[]) (fv:=[]) d6 (λvs H Q E h=>?_) {rfl,rfl,rfl,by decide +kernel,λx d8=>?_,by decide +kernel,λx h=>?_,λx y c h=>by simp at h} {λx c h=>by simp at h,rfl,λi x v h=>by simp at h} (λvs H Q E h=>?_) λA outer s H vs Q E B h=>?_
   .let(z,_,_,h,_):=h;show h
   .have:x="node":=by simpa using d8
    subst this;rfl
   .show absurd rfl<|(by decide +kernel:∀y∈_,y.2≠NameKind.free) _ (CK h)
   .let(z,rfl,_):=h;rfl
   .let(z,rfl,g,a2,q):=h;show{_,ixT K (pv 0) ai,?_};show{_,rfl,z.1,_,_,_,rfl,rfl,SqT.of g,at0 z.2,q}
  case hbn=>show λpm ctv c=>.all λus d5=>match us,d5 with | [_],_=>rfl
  have a5:∀w∈ws,w.2∈t/\TW.PathTo t w.2.num w.1:=λw o=>(W.mem w.1 w.2).mp o;have j:∀n∈t,NodG n:=λn d=>(a6 n d).G;have e7:ws.length=t.length:=Wk.len m (λn d=>(j n d).toNodR) W;have f2:=lB m j tl ws a5;let(R,J,D):=oN m W λn d=>(j n d).toNodR;have Y:R=ws.map lnT:=by
   have:=oM λw o=>W.pth (λn d=>(j n d).toNodR) o;rw[J]at this;show Option.some.inj this
  show{_,rfl,_,R,rfl,by lia,J,λd9 H1 s1 d0=>?_};show{d9,R,_,rfl,d0,by rw[Y,A1];lia,λy hy=>?_,D,λl zs H2 a8 D d1 b3=>?_}
  .rw[Y]at hy;let(w,o,rfl):=A3.mp hy;let(h1,h2):=a5 w o;have hp:=gF (λn d=>(j n d).short) h2;have:=lA (j _ h1) hp;have:=jy hp;have:=h2.len m;show{by lia,λn y st e=>?_};let(a,b):=W.pth (λn d=>(j n d).toNodR) o;rw[rF a b]at e;cases e
   lia
  have b1:=bM e3<|s1.trans a8;have f3:zs.length=t.length:=by rw[<-au,D,A1,e7]
  have Z:aI zs=zs.map λz=>V.ref z.1:=by unfold aI;rw[A7];rfl
  show{l,aI zs,rfl,d1,by rw[ba];lia,b1,λc9 c r a7 e4 d4=>?_};have p:At r zs:=λz g=>fc b1 a7 (b3 z g) λps h=>nomatch h;show{λv a4=>?_,λC ys hp N d2=>?_}
  .rw[Z]at a4;let(z,g,rfl):=A3.mp a4;show{z,rfl,p z g,d4,by rw[pS<|p z g],rfl}
  rw[Z]at hp;let(us,a0,S):=cV hp rfl;have O:∀z∈us,z∈zs:=λz g=>S.mem_iff.mp g;have f0:us.length=zs.length:=S.length_eq;have c8:ys=aI us:=by rw[<-a0];unfold aI;rw[A7];rfl
  have e6:(nds us).Pairwise λa b=>a.num<=b.num:=by
   rw[<-a0,C0]at N;unfold nds;rw[C0];show Pairwise.imp_of_mem (λ{a b} M d3 h=>by rw[pS<|p a (O a M),pS<|p b (O b d3)]at h;show h) N
  have e1:(nds us).Perm (nds zs):=S.map _;clear N;subst c8;show{C,aI us,rfl,.inl {SqL.of ac,λa M=>?_}};have I:Same r (upd (upd r C<|.lst (aI us)) a<|.tup (aI us)):=(ag d2).trans (ag M);have a1:upd (upd r C<|.lst (aI us)) a (.tup<|aI us) a=some (.tup<|aI us):=ac;generalize upd (upd r C<|.lst (aI us)) a (.tup<|aI us)=H4 at I a1|-;have c1:At H4 us:=λz g=>I _ _<|p z (O z g);have e0:fz Pt H H4:=((hX<|s1.trans a8).trans a7).trans (hX I);have e5:=bM e4 I;have u:nds us=t:=by
   show kR.sorted (ws:=ws) {m,λn d=>(j n d).toNodR,W,rfl} J ?_ e1 e6;rw[D]
   assumption
  have X:Tre H4 a us:={a1,c1,by rw[u];show m,by lia};show{_,rfl,_,_,rfl,X,by rw[u];show a6,λe8 a9=>{_,rfl,?_}};show aM {_,rfl,a,us,rfl,X.same a9,by rw[u];show j,λf1 c7 e2 b2=>{_,rfl,rfl,_,rfl,?_}};have U:=a9.trans e2;rw[u]at b2;rw[Wk.one b2 W,C7 rfl];show aM {_,rfl,q a us c7 (e0.trans<|hX U) (bM e5 U) (X.same U) u}
end
def Gq(x:Str):Option Int->Prop
 |none=>x=ch 45
 |some i=>cA x=some i/\0<=i/\i<=999
section
variable{P:zi}{w:xr}{K:Frag}{mg:Str->Option zy}{base:qq}
inductive spSti(vs:List V)(H:Hp)(Q:VK)(E_:XK):Prop
 |mk x i (_:vs=[.str x]) (_:cA x=some i) (_:0<=i/\i<=999) (_:∀H',Same H H'->Q (.int i) H')
theorem BY:FnScope ["text","stamp"] ["text"] (ak iO):=fsc
theorem Ew{f:zv}{a:xl}(F:Fun K "stamp_in" "stamp_in" iO f a)(CN:Has P w K mg base 1 "number_in" ["text"] spNum)(c:Has P w K mg base 2 "is_stamp" ["thing"] spStamp):aE P w K mg base CX0 3 f a ["text"] spSti:=by
 show F.okA BY λcdv A outer s H vs Q E b h=>?_
 .let(x,i,rfl,e,hi,q):=h;have g:Room 1 _:=b.mono (by decide);show{_,af (ar (i:=1) BY.nd rfl (Or.inl rfl)<|aw CN g (aa (pv 0) ae))
   (af (aQ (cm<|cF (aw c b<|aa (pv 1) ae) (λ_=>rfl)) aA ax)
   (am<|ap (pv 1))),?_}
  show{_,rfl,x,i,rfl,e,λH1 s1=>{_,rfl,some i,rfl,λj d=>?_,_,rfl,aM ⟨_,rfl,q H1 s1⟩}};obtain rfl:=Option.some.inj d;show hi
inductive spNmi(vs:List V)(H:Hp)(Q:VK)(E_:XK):Prop
 |mk x (_:vs=[.str x]) (_:uI x=true) (_:∀H',Same H H'->Q (.str x) H')
theorem Gr:FnScope ["text"] ["text"] (ak jY):=fsc
theorem Ex{f:zv}{a:xl}(F:Fun K "name_in" "name_in" jY f a)(CN:Has P w K mg base 1 "is_name" ["thing"] spName):aE P w K mg base CX0 2 f a ["text"] spNmi:=by
 show F.okA Gr λcdv A outer s H vs Q E b h=>?_
 .let(x,rfl,e,q):=h;show{_,af (aQ (cm<|cF (aw CN b<|aa (pv 0) ae) (λ_=>rfl)) aA ax)
   (am<|ap (pv 0)),?_}
  show{_,rfl,x,rfl,e,λH1 s1=>⟨_,rfl,aM ⟨_,rfl,q H1 s1⟩⟩}
inductive spMki(vs:List V)(H:Hp)(Q:VK)(E_:XK):Prop
 |mk l a b c d st n p (_:vs=[.ref l]) (_:H l=some (.lst [.str a,.str b,.str c,.str d,.str st])) (so:Option Int) (_:cA b=some n) (_:cA c=some p) (_:iI ⟨n,p,d,so⟩) (_:Gq st so) (_:∀t H',Same H H'->H' t=some (.tup<|aT (.make n p d so))->Q (.ref t) H')
theorem zr:FnScope ["words","stamp","node"] ["words"] (ak jZ):=fsc
theorem Ey{f:zv}{W:xl}(F:Fun K "make_in" "make_in" jZ f W)(CN:Has P w K mg base 1 "number_in" ["text"] spNum)(a0:Has P w K mg base 3 "stamp_in" ["text"] spSti)(Z:Has P w K mg base 2 "name_in" ["text"] spNmi)(Y:Has P w K mg base 3 "is_node" ["thing"] spNode):aE P w K mg base CX0 4 f W ["words"] spMki:=by
 show F.okA zr λcdv A outer s H vs Q E C h=>?_
 .let(l,a,b,c,d,st,n,p,rfl,B,a4,T,U,D,y,q):=h;have X:Room 1 _:=C.mono (by decide);have a3:Room 2 _:=C.mono (by decide);show{_,af (ar (i:=1) zr.nd rfl (Or.inl rfl)<|fF (aq cT (cw bn (pv 0) ai λ_ _=>rfl) aJ<|av _) cW (aw a0 C<|aa (cw bn (pv 0) ai λ_ _=>rfl) ae))
   (af (ar (i:=2) zr.nd rfl (Or.inl rfl)<|aK (aa (aw CN X<|aa (cw bn (pv 0) ai λ_ _=>rfl) ae)<|aa (aw CN X<|aa (cw bn (pv 0) ai λ_ _=>rfl) ae) (aa (aw Z a3<|aa (cw bn (pv 0) ai λ_ _=>rfl) ae)<|aa (pv 1) ae)))
   (af (aQ (cm<|cF (aw Y C<|aa (pv 2) ae) (λ_=>rfl)) aA ax)
   (am<|ap (aO (r:=rCatT K) ij (aK<|aa aJ ae)<|pv 2)))),?_}
  show{_,rfl,l,_,_,_,rfl,rfl,SqL.of B,rfl,rfl,_,rfl,?_};cases a4 with
  |none =>
   obtain rfl:=y;have s1:=Same.refl H;show cp ?_;have g:=s1 _ _ B;show{_,rfl,l,_,_,_,rfl,rfl,SqL.of g,rfl,b,n,rfl,T,λH2 k=>?_};have j:=k _ _ g;show{_,rfl,l,_,_,_,rfl,rfl,SqL.of j,rfl,c,p,rfl,U,λa1 m=>?_};have M:=m _ _ j;show{_,rfl,l,_,_,_,rfl,rfl,SqL.of M,rfl,d,rfl,D.2.2.1.b,λa2 R=>?_};show{_,rfl,(show 4<=sizeLine from aF (by decide)),λu O=>?_};have S:=ag (o:=.tup<|vals ⟨n,p,d,none⟩) O;show{_,rfl,u,⟨n,p,d,none⟩,rfl,ac,D,λG v=>{_,rfl,aM ?_}};have J:G u=some (.tup<|vals ⟨n,p,d,none⟩):=v _ _ ac;show{(show 1<=sizeLine from aF (by decide)),λI L=>?_};have x:=ag (o:=.tup [.str "make"]) L;show{_,rfl,I,u,_,_,rfl,rfl,SqT.of ac,SqT.of<|x _ _ J,by simp,(show 5<=sizeLine from aF (by decide)),λh=>absurd h<|cons_ne_nil _ _,λ_ t N=>?_};show q t _ ((((((s1.trans k).trans m).trans R).trans S).trans v).trans (x.trans<|ag N)) ac
  |some i =>
   rw[B9 (show ¬V.str st=V.str "-" from λz=>by
    injection z with z
    have e:=y.1;rw[z,(by decide +kernel:cA "-"=none)]at e;cases e)]
   show aM {_,rfl,l,_,_,_,rfl,rfl,SqL.of B,rfl,st,i,rfl,y.1,y.2,λH1 s1=>?_};have g:=s1 _ _ B;show{_,rfl,l,_,_,_,rfl,rfl,SqL.of g,rfl,b,n,rfl,T,λH2 k=>?_};have j:=k _ _ g;show{_,rfl,l,_,_,_,rfl,rfl,SqL.of j,rfl,c,p,rfl,U,λa1 m=>?_};have M:=m _ _ j;show{_,rfl,l,_,_,_,rfl,rfl,SqL.of M,rfl,d,rfl,D.2.2.1.b,λa2 R=>?_};show{_,rfl,(show 4<=sizeLine from aF (by decide)),λu O=>?_};have S:=ag (o:=.tup<|vals ⟨n,p,d,some i⟩) O;show{_,rfl,u,⟨n,p,d,some i⟩,rfl,ac,D,λG v=>{_,rfl,aM ?_}};have J:G u=some (.tup<|vals ⟨n,p,d,some i⟩):=v _ _ ac;show{(show 1<=sizeLine from aF (by decide)),λI L=>?_};have x:=ag (o:=.tup [.str "make"]) L;show{_,rfl,I,u,_,_,rfl,rfl,SqT.of ac,SqT.of<|x _ _ J,by simp,(show 5<=sizeLine from aF (by decide)),λh=>absurd h<|cons_ne_nil _ _,λ_ t N=>?_};show q t _ ((((((s1.trans k).trans m).trans R).trans S).trans v).trans (x.trans<|ag N)) ac
end
inductive DW:TW.Deed Str->List Str->Prop
 |make n p nm so b c st (_:cA b=some n) (_:cA c=some p) (_:iI ⟨n,p,nm,so⟩) (_:Gq st so):DW (.make n p nm so) ["make",b,c,nm,st]
 |write n i b c (_:cA b=some n) (_:cA c=some i) (_:0<=i/\i<=999):DW (.write n i) ["write",b,c]
section
variable{P:zi}{w:xr}{K:Frag}{mg:Str->Option zy}{base:qq}
inductive spDin(vs:List V)(H:Hp)(Q:VK)(E_:XK):Prop
 |mk l d ws (_:vs=[.ref l]) (_:H l=some (.lst<|ws.map V.str)) (_:DW d ws) (_:∀t H',Same H H'->H' t=some (.tup<|aT d)->Q (.ref t) H')
theorem BZ:FnScope ["words","form"] ["words"] (ak kb):=fsc
theorem Ez{f:zv}{C:xl}(F:Fun K "deed_in" "deed_in" kb f C)(T:Txt mg)(CN:Has P w K mg base 1 "number_in" ["text"] spNum)(L:Has P w K mg base 3 "stamp_in" ["text"] spSti)(J:Has P w K mg base 4 "make_in" ["words"] spMki):aE P w K mg base CX0 5 f C ["words"] spDin:=by
 show F.okA BZ λcdv A outer s H vs Q E k h=>?_
 .let(l,d,ws,rfl,g,R,q):=h;have S:Room 1 _:=k.mono (by decide);have U:Room 3 _:=k.mono (by decide);show{_,af (ar (i:=1) BZ.nd rfl (Or.inl rfl)<|aK (aa (cw bn (pv 0) ai λ_ _=>rfl)<|aa (ay aP rfl T.len F3<|aa (pv 0) ae) ae))
   (af (aQ (aq (yy<|bv k) (pv 1) (aK<|aa aJ (aa ai ae))<|av _) (am<|ap (aw J k<|aa (pv 0) ae)) ax)
   (af (aQ (aq (yy<|bv k) (pv 1) (aK<|aa aJ (aa ai ae))<|av _) (am<|ap (aK<|aa aJ (aa (aw CN S<|aa (cw bn (pv 0) ai λ_ _=>rfl) ae)<|aa (aw L U<|aa (cw bn (pv 0) ai λ_ _=>rfl) ae) ae))) ax)
   aA)),?_}
  have r:(2:Nat)<=sizeLine:=aF (by decide);cases R with
  |make n p nm Y b c st x N W O =>
   show{_,rfl,l,_,_,_,rfl,rfl,SqL.of g,rfl,_,rfl,l,_,rfl,.inl<|SqL.of g,r,λu z=>?_};rw[show((List.map V.str ["make",b,c,nm,st]).length:Int)=5 from rfl];have s1:=ag (o:=.tup [.str "make",.int 5]) z;have e:upd H u (.tup [.str "make",.int 5]) u=some (.tup [.str "make",.int 5]):=ac;generalize upd H u (.tup [.str "make",.int 5])=H1 at s1 e|-;show{_,rfl,r,λv a=>{u,v,_,_,rfl,rfl,bh a e,ac,by simp[eY],by simp[eY],_,rfl,?_}};have j:=s1.trans<|ag (o:=.tup [.str "make",.int 5]) a;rw[C7 rfl];show cp {_,rfl,l,"make",b,c,nm,st,n,p,rfl,j _ _ g,Y,x,N,W,O,λt B m y=>q t B (j.trans m) y}
  |write n i b c x M hi =>
   show{_,rfl,l,_,_,_,rfl,rfl,SqL.of g,rfl,_,rfl,l,_,rfl,.inl<|SqL.of g,r,λu z=>?_};rw[show((List.map V.str ["write",b,c]).length:Int)=3 from rfl];have s1:=ag (o:=.tup [.str "write",.int 3]) z;have e:upd H u (.tup [.str "write",.int 3]) u=some (.tup [.str "write",.int 3]):=ac;generalize upd H u (.tup [.str "write",.int 3])=H1 at s1 e|-;show{_,rfl,r,λv a=>{u,v,_,_,rfl,rfl,bh a e,ac,by simp[eY],by simp[eY],_,rfl,?_}};have j:=ag (o:=.tup [.str "make",.int 5]) a;have D:=j _ _ e;generalize upd H1 v (.tup [.str "make",.int 5])=H2 at j D|-;rw[B9 (by decide +kernel)];show aM {_,rfl,r,λv a=>{u,v,_,_,rfl,rfl,bh a D,ac,by simp[eY],by simp[eY],_,rfl,?_}};have m:=(s1.trans j).trans (ag (o:=.tup [.str "write",.int 3]) a);generalize upd H2 v (.tup [.str "write",.int 3])=B at m|-;rw[C7 rfl];have G:=m _ _ g;show cp {_,rfl,l,_,_,_,rfl,rfl,SqL.of G,rfl,b,n,rfl,x,λZ I=>?_};show{_,rfl,l,_,_,_,rfl,rfl,SqL.of<|I _ _ G,rfl,c,i,rfl,M,hi,λa0 X=>{(show 3<=sizeLine from aF (by decide)),λt y=>?_}};show q t _ (((m.trans I).trans X).trans (ag y)) ac
end
open PySem L2
def Off(S:List zv)(H a:Hp):Prop:=∀b o,H b=some o->b∉S->a b=some o
theorem mN{f:Str}{v:V}{r:List _}:((f,v)::r).lookup f=some v:=by rw[lookup_cons,beq_self_eq_true]
theorem cf{f g:Str}{v:V}{r:List _}(h:¬g=f):((g,v)::r).lookup f=r.lookup f:=by
 have:(f==g)=false:=by simpa using λe:f=g=>h e.symm
 rw[lookup_cons,this]
theorem sX{f:Str}{v w:V}{r:List _}:dI f v ((f,w)::r)=(f,v)::r:=by
 change(if f=f then _ else _)=_;rw[A6 rfl]
theorem bR{f g:Str}{v w:V}{r:List _}(h:¬g=f):dI f v ((g,w)::r)=(g,w)::dI f v r:=by
 change(if g=f then _ else _)=_;rw[A4 h]
def dm(H a:Hp):Prop:=∀b u,H b=some u->(∀xs,u≠.lst xs)->(∀C dx fs,u≠.ins C dx fs)->(∀ps,u≠.tbl ps)->a b=some u
theorem dm.trans{c d H3:Hp}(a:dm c d)(b:dm d H3):dm c H3:=λp u h e f g=>b p u (a p u h e f g) e f g
theorem cu{H H':Hp}(s:Same H H'):dm H H':=λb u h _ _ _=>s b u h
theorem mO{H:Hp}{a:zv}{xs ys:List V}(d:H a=some (.lst xs)):dm H (upd H a<|.lst ys):=λb u c n _ _=>by
 rw[aj (λe=>by rw[e,d]at c;show n xs (Option.some.inj c).symm)];show c
theorem hZ{H:Hp}{a C c:zv}{fs gs:List _}(f:H a=some (.ins C c fs)):dm H (upd H a<|.ins C c gs):=λb u d _ n _=>by
 rw[aj (λe=>by rw[e,f]at d;show n C c fs (Option.some.inj d).symm)];show d
theorem dm.tup{H c:Hp}(s:dm H c){b:zv}{xs:List V}(a:H b=some (.tup xs)):c b=some (.tup xs):=s b _ a (λ_ a=>by cases a) (λ_ _ _ a=>by cases a) (λ_ a=>by cases a)
theorem dm.dK{H c:Hp}(s:dm H c){b:zv}{kvs:List _}(a:H b=some (.dK kvs)):c b=some (.dK kvs):=s b _ a (λ_ a=>by cases a) (λ_ _ _ a=>by cases a) (λ_ a=>by cases a)
theorem dm.rd{H c:Hp}(s:dm H c){b:zv}{kvs:List _}(a:Rd H b<|.dK kvs):Rd c b (.dK kvs):=by
 rcases a with a|⟨o,a⟩
 .show .inl<|s.dK a
 .show .inr {o,s b _ a (λ_ a=>by cases a) (λ_ _ _ a=>by cases a) (λ_ a=>by cases a)}
theorem Tre.stay{H b:Hp}{t:zv}{z:ZN}(a:Tre H t z)(s:dm H b):Tre b t z:={s.tup a.tup,λz c=>s.tup<|a.nod z c,a.tr,a.len}
abbrev TG:=List<|Str×(zv×ZN)
def Hu(gs:TG):List (Key×V):=gs.map λg=>((Sum.inr g.1:Key),V.ref g.2.1)
structure Tags(H:Hp)(d:zv)(gs:TG):Prop where
 dct:Rd H d<|.dK (Hu gs)
 at':∀g∈gs,Tre H g.2.1 g.2.2
 nd:(gs.map (·.1)).Nodup
 len:gs.length<=50
theorem Tags.stay{H b:Hp}{d:zv}{gs:TG}(a:Tags H d gs)(s:dm H b):Tags b d gs:={s.rd a.dct,λg c=>(a.at' g c).stay s,a.nd,a.len}
theorem Tags.same{H a:Hp}{d:zv}{gs:TG}(b:Tags H d gs)(s:Same H a):Tags a d gs:=b.stay<|cu s
structure Ent where
 a:zv
 sa:zv
 ta:zv
 da:zv
 xs:List V
 z:ZN
 gs:TG
structure EntAt(H:Hp)(e:Ent):Prop where
 ob:H e.a=some (.tup [.ref e.sa,.ref e.ta,.ref e.da])
 st:H e.sa=some (.tup e.xs)
 tr:Tre H e.ta e.z
 tg:Tags H e.da e.gs
theorem EntAt.stay{H b:Hp}{e:Ent}(a:EntAt H e)(s:dm H b):EntAt b e:=⟨s.tup a.ob,s.tup a.st,a.tr.stay s,a.tg.stay s⟩
abbrev bU(b:List Ent):List V:=b.map λe=>V.ref e.a
def flL(a t d pl al:zv):List (Str×V):=[("first_tree",.ref a),("tree",.ref t),("tag_trees",.ref d),("past",.ref pl),("ahead",.ref al)]
abbrev fi1(t:zv):List (Str×V):=[("first_tree",V.ref t)]
abbrev fi2(t:zv):List (Str×V):=[("first_tree",V.ref t),("tree",V.ref t)]
abbrev fi3(t d:zv):List (Str×V):=[("first_tree",V.ref t),("tree",V.ref t),("tag_trees",V.ref d)]
abbrev fi4(t d pl:zv):List (Str×V):=[("first_tree",V.ref t),("tree",V.ref t),("tag_trees",V.ref d),("past",V.ref pl)]
theorem EA:¬(("first_tree":Str)="tree"):=by decide +kernel
theorem EB:¬(("first_tree":Str)="tag_trees"):=by decide +kernel
theorem Gs:¬(("first_tree":Str)="past"):=by decide +kernel
theorem EC:¬(("first_tree":Str)="ahead"):=by decide +kernel
theorem ED:¬(("tree":Str)="tag_trees"):=by decide +kernel
theorem Gu:¬(("tree":Str)="past"):=by decide +kernel
theorem EE:¬(("tree":Str)="ahead"):=by decide +kernel
theorem Gv:¬(("tag_trees":Str)="past"):=by decide +kernel
theorem EF:¬(("tag_trees":Str)="ahead"):=by decide +kernel
theorem EG:¬(("past":Str)="ahead"):=by decide +kernel
section
variable{ft t d pl al x:zv}
theorem Gw:(flL ft t d pl al).lookup ("first_tree":Str)=some (.ref ft):=mN
theorem uQ:(flL ft t d pl al).lookup ("tree":Str)=some (.ref t):=by unfold flL;rw[cf EA,mN]
theorem zt:dI "tree" (.ref x) (flL ft t d pl al)=flL ft x d pl al:=by unfold flL;rw[bR EA,sX]
theorem zu:(flL ft t d pl al).lookup ("tag_trees":Str)=some (.ref d):=by unfold flL;rw[cf EB,cf ED,mN]
theorem zw:dI "tag_trees" (.ref x) (flL ft t d pl al)=flL ft t x pl al:=by unfold flL;rw[bR EB,bR ED,sX]
theorem zx:(flL ft t d pl al).lookup ("past":Str)=some (.ref pl):=by unfold flL;rw[cf Gs,cf Gu,cf Gv,mN]
theorem Gx:(flL ft t d pl al).lookup ("ahead":Str)=some (.ref al):=by unfold flL;rw[cf EC,cf EE,cf EF,cf EG,mN]
theorem EH:dI "ahead" (.ref x) (flL ft t d pl al)=flL ft t d pl x:=by unfold flL;rw[bR EC,bR EE,bR EF,bR EG,sX]
theorem jz:(flL ft t d pl al).length<1000:=by change 5<1000;decide
end
structure LCls(K:Frag)(mg:Str->Option zy)(C:zv):Prop where
 cl:Cls K C
 n0:dz K C "first_tree"
 n1:dz K C "tree"
 n2:dz K C "tag_trees"
 n3:dz K C "past"
 n4:dz K C "ahead"
 mgC:mg "Ledger"=some (.ref C)
structure LAt(C:zv)(H:Hp)(p ft t d pl al:zv)(zf z:ZN)(gs:TG)(es as:List Ent):Prop where
 ob:∃dx,H p=some (.ins C dx<|flL ft t d pl al)
 tf:Tre H ft zf
 tr:Tre H t z
 tg:Tags H d gs
 ps:H pl=some (.lst<|bU es)
 ah:H al=some (.lst<|bU as)
 ne:pl≠al
 ep:∀e∈es,EntAt H e
 ea:∀e∈as,EntAt H e
theorem LAt.same{C:zv}{H c:Hp}{p g t d pl al:zv}{h z:ZN}{gs:TG}{f as:List Ent}(a:LAt C H p g t d pl al h z gs f as)(s:Same H c):LAt C c p g t d pl al h z gs f as :=
 {let⟨dx,e⟩:=a.ob;⟨dx,s _ _ e⟩,a.tf.same s,a.tr.same s,a.tg.same s,s _ _ a.ps,s _ _ a.ah,a.ne,λe b=>(a.ep e b).stay (cu s),λe b=>(a.ea e b).stay (cu s)}
theorem LAt.off{C:zv}{H b:Hp}{p g t d pl al:zv}{h z:ZN}{gs:TG}{f as:List Ent}(a:LAt C H p g t d pl al h z gs f as)(s:dm H b)(i:∀o,H p=some o->b p=some o)(j:∀o,H pl=some o->b pl=some o)(k:∀o,H al=some o->b al=some o):LAt C b p g t d pl al h z gs f as :=
 {let⟨dx,e⟩:=a.ob;⟨dx,i _ e⟩,a.tf.stay s,a.tr.stay s,a.tg.stay s,j _ a.ps,k _ a.ah,a.ne,λe c=>(a.ep e c).stay s,λe c=>(a.ea e c).stay s}
section
variable{P:zi}{w:xr}{K:Frag}{mg:Str->Option zy}{base:qq}
inductive spLIni(C:zv)(vs:List V)(H:Hp)(Q:VK)(E_:XK):Prop
 |mk p dx t z (_:vs=[.ref p,.ref t]) (_:H p=some (.ins C dx [])) (_:Tre H t z) (_:∀d pl al H',H d=none->H pl=none->H al=none->LAt C H' p t t d pl al z z [] [] []->Off [p] H H'->Q .non H')
theorem EI:FnScope ["self","tree"] ["self","tree"] (ak gm):=fsc
theorem Bt{f C:zv}{S:xl}(F:Fun K "__init__" "Ledger.__init__" gm f S)(T:LCls K mg C):aE P w K mg base CX0 1 f S ["self","tree"] (spLIni C):=by
 show F.okA EI λcdv A outer s H vs Q E a1 h=>?_
 .let(p,dx,t,z,rfl,hp,i,k):=h;show{_,af (ff (pv 0) (pv 1) rfl)<|af (ff (pv 0) (pv 1) rfl) (af (ff (pv 0) qu rfl)<|af (ff (pv 0) (cP ae) rfl) (am<|ff (pv 0) (cP ae) rfl)),{_,rfl,_,rfl,p,C,dx,[],rfl,hp,T.cl,T.n0,(by change 0<1000;decide),?_}};have Z:upd H p (.ins C dx<|fi1 t) p=some (.ins C dx<|fi1 t):=ac;have l:∀b,upd H p (.ins C dx<|fi1 t) b=none->H b=none:=λb e=>by
   rw[aj λz=>by rw[z,ac]at e;cases e]at e;show e
  have W:Off [p] H (upd H p<|.ins C dx (fi1 t)):=λb o e a=>by
   rw[aj (by simpa using a)];show e
  change vb _ _ _ _ (upd H p<|.ins C dx (fi1 t));generalize upd H p (.ins C dx<|fi1 t)=H1 at Z l W|-;show{_,rfl,_,rfl,p,C,dx,_,rfl,Z,T.cl,T.n1,(by change 1<1000;decide),?_};rw[show dI "tree" (V.ref t) (fi1 t)=(fi2 t)from bR EA];have L:upd H1 p (.ins C dx<|fi2 t) p=some (.ins C dx<|fi2 t):=ac;have m:∀b,upd H1 p (.ins C dx<|fi2 t) b=none->H1 b=none:=λb e=>by
   rw[aj λz=>by rw[z,ac]at e;cases e]at e;show e
  have X:Off [p] H1 (upd H1 p<|.ins C dx (fi2 t)):=λb o e a=>by
   rw[aj (by simpa using a)];show e
  generalize upd H1 p (.ins C dx<|fi2 t)=H2 at L m X|-;intro d u;have q:p≠d:=ao L u;show{_,rfl,p,C,dx,_,rfl,by rw[aj q];show L,T.cl,T.n2,(by change 2<1000;decide),?_};rw[show dI "tag_trees" (V.ref d) (fi2 t)=(fi3 t d)by rw[bR EB,bR ED];rfl];have M:upd (upd H2 d<|.dK []) p (.ins C dx<|fi3 t d) p=some (.ins C dx<|fi3 t d):=ac;have O:upd (upd H2 d<|.dK []) p (.ins C dx<|fi3 t d) d=some (.dK []):=by rw[aj<|CD q,ac]
  have r:∀b,upd (upd H2 d<|.dK []) p (.ins C dx<|fi3 t d) b=none->H2 b=none:=λb e=>by
   rw[aj (λz=>by rw[z,ac]at e;cases e),aj (λz=>by rw[z,ac]at e;cases e)]at e;show e
  have Y:Off [p] H2 (upd (upd H2 d<|.dK []) p<|.ins C dx (fi3 t d)):=λb o e a=>by
   rw[aj (by simpa using a),aj<|ao e u];show e
  change vb _ _ _ _ (upd (upd H2 d<|.dK []) p<|.ins C dx (fi3 t d));generalize upd (upd H2 d<|.dK []) p (.ins C dx<|fi3 t d)=c at M O r Y|-;show{CI _,λpl x=>?_};have D:p≠pl:=ao M x;show{_,rfl,p,C,dx,_,rfl,by rw[aj D];show M,T.cl,T.n3,(by change 3<1000;decide),?_};rw[show dI "past" (V.ref pl) (fi3 t d)=(fi4 t d pl)by rw[bR Gs,bR Gu,bR Gv];rfl];have N:upd (upd c pl<|.lst []) p (.ins C dx<|fi4 t d pl) p=some (.ins C dx<|fi4 t d pl):=ac;have B:upd (upd c pl<|.lst []) p (.ins C dx<|fi4 t d pl) pl=some (.lst []):=by rw[aj<|CD D,ac]
  have R:∀b,upd (upd c pl<|.lst []) p (.ins C dx<|fi4 t d pl) b=none->c b=none:=λb e=>by
   rw[aj (λz=>by rw[z,ac]at e;cases e),aj (λz=>by rw[z,ac]at e;cases e)]at e;show e
  have G:Off [p] c (upd (upd c pl<|.lst []) p<|.ins C dx (fi4 t d pl)):=λb o e a=>by
   rw[aj (by simpa using a),aj<|ao e x];show e
  change _;generalize upd (upd c pl<|.lst []) p (.ins C dx<|fi4 t d pl)=j at N B R G|-;show{CI _,λal n=>?_};have U:p≠al:=ao N n;show{_,rfl,p,C,dx,_,rfl,by rw[aj U];show N,T.cl,T.n4,(by change 4<1000;decide),?_};rw[show dI "ahead" (V.ref al) (fi4 t d pl)=flL t t d pl al by rw[bR EC,bR EE,bR EF,bR EG];rfl];have I:Off [p] j (upd (upd j al<|.lst []) p<|.ins C dx (flL t t d pl al)):=λb o e a=>by
   rw[aj (by simpa using a),aj<|ao e n];show e
  have J:Off [p] H (upd (upd j al<|.lst []) p<|.ins C dx (flL t t d pl al)):=λb o e a=>I _ _ (G _ _ (Y _ _ (X _ _ (W _ _ e a) a) a) a) a;have nt:∀{b:zv}{xs:List V},H b=some (.tup xs)->b∉[p]:=λ{b xs} a h=>by
   have e:b=p:=by simpa using h
   rw[e,hp]at a;cases a
  have tA:Tre (upd (upd j al<|.lst []) p<|.ins C dx (flL t t d pl al)) t z:={J _ _ i.tup<|nt i.tup,λy hy=>J _ _ (i.nod y hy)<|nt (i.nod y hy),i.tr,i.len};show k d pl al _ (l _<|m _ u) (l _<|m _ (r _ x)) (l _<|m _ (r _<|R _ n)) {⟨dx,ac⟩,tA,tA,{.inl<|I _ _ (G _ _ O (by simpa using CD q)) (by simpa using CD q),(λg a0=>nomatch a0),nodup_nil,by decide},I _ _ B (by simpa using CD D),?_,ao B n,(λe v=>nomatch v),(λe v=>nomatch v)} J;rw[aj<|CD U,ac];rfl
inductive spLNow(C:zv)(vs:List V)(H:Hp)(Q:VK)(E_:XK):Prop
 |mk p ft t d pl al zf z gs es as (_:vs=[.ref p]) (_:LAt C H p ft t d pl al zf z gs es as) (_:Q (.ref t) H)
theorem EJ:FnScope ["self"] ["self"] (ak gT):=fsc
theorem Bu{f C:zv}{a:xl}(F:Fun K "now" "Ledger.now" gT f a)(T:LCls K mg C):aE P w K mg base CX0 1 f a ["self"] (spLNow C):=by
 show F.okA EJ λcdv A outer s H vs Q E e h=>?_
 .let(p,ft,t,d,pl,al,g,z,c,es,as,rfl,b,q):=h;let(dx,hp):=b.ob;show{_,am<|ap (dJ (pv 0) rfl),_,rfl,p,C,dx,_,_,rfl,hp,T.cl,T.n1,uQ,q}
inductive spLBas(C:zv)(vs:List V)(H:Hp)(Q:VK)(E_:XK):Prop
 |mk p ft t d pl al zf z gs es as (_:vs=[.ref p]) (_:LAt C H p ft t d pl al zf z gs es as) (_:Q (.ref ft) H)
theorem EK:FnScope ["self"] ["self"] (ak gv):=fsc
theorem Bv{f C:zv}{a:xl}(F:Fun K "base" "Ledger.base" gv f a)(T:LCls K mg C):aE P w K mg base CX0 1 f a ["self"] (spLBas C):=by
 show F.okA EK λcdv A outer s H vs Q E e h=>?_
 .let(p,ft,t,d,pl,al,g,z,c,es,as,rfl,b,q):=h;let(dx,hp):=b.ob;show{_,am<|ap (dJ (pv 0) rfl),_,rfl,p,C,dx,_,_,rfl,hp,T.cl,T.n0,Gw,q}
end
theorem bA{a t d pl al:zv}{m:Str}(b:¬(("first_tree")=m):=by decide +kernel)(c:¬(("tree")=m):=by decide +kernel)(h2:¬(("tag_trees")=m):=by decide +kernel)(e:¬(("past")=m):=by decide +kernel)(f:¬(("ahead")=m):=by decide +kernel):(flL a t d pl al).lookup m=none:=by
 unfold flL;rw[cf b,cf c,cf h2,cf e,cf f];rfl
theorem kB{H a:Hp}(s:Same H a){b:zv}(c:a b=none):H b=none:=by
 cases d:H b with
 |none=>rfl
 |some o=>rw[s _ _ d]at c;cases c
section
variable{P:zi}{w:xr}{K:Frag}{mg:Str->Option zy}{base:qq}
inductive spLGo(C:zv)(vs:List V)(H:Hp)(Q:VK)(E_:XK):Prop
 |mk p ft t d pl al zf z gs es as sa xs t' z' d' gs' (_:vs=[.ref p,.ref sa,.ref t',.ref d']) (_:LAt C H p ft t d pl al zf z gs es as) (_:H sa=some (.tup xs)) (_:Tre H t' z') (_:Tags H d' gs') (_:es.length<=200) (_:∀q al' H',H al'=none->LAt C H' p ft t' d' pl al' zf z' gs' (es++[⟨q,sa,t,d,xs,z,gs⟩]) []->dm H H'->Off [p,pl] H H'->Q .non H')
theorem Gy:FnScope ["self","step","tree","tag_trees"] ["self","step","tree","tag_trees"] (ak fj):=fsc
theorem EM{f C:zv}{R:xl}(F:Fun K "go_on" "Ledger.go_on" fj f R)(T:LCls K mg C):aE P w K mg base CX0 1 f R ["self","step","tree","tag_trees"] (spLGo C):=by
 show F.okA Gy λcdv A outer s H vs Q E b3 h=>?_
 .let(p,ft,t,d,pl,al,c1,z,gs,es,as,i,xs,c,c0,D,b1,rfl,j,a6,a9,a8,b2,q):=h;let(dx,hp):=j.ob;show{_,af (aZ<|cE CW CP CS ck (dJ (pv 0) rfl) (aa (aK<|aa (pv 1) (aa (dJ (pv 0) rfl)<|aa (dJ (pv 0) rfl) ae)) ae))
   (af (ff (pv 0) (cP ae) rfl)<|af (ff (pv 0) (pv 2) rfl) (am<|ff (pv 0) (pv 3) rfl)),{_,rfl,p,C,dx,_,_,rfl,hp,T.cl,T.n3,zx,.inl ⟨rfl,_,SqL.of j.ps⟩,_,rfl,_,rfl,p,C,dx,_,_,rfl,hp,T.cl,T.n1,uQ,_,rfl,p,C,dx,_,_,rfl,hp,T.cl,T.n2,zu,(show 3<=sizeLine from aF (by decide)),λe a4=>?_}}
  have s1:=ag (o:=.tup [.ref i,.ref t,.ref d]) a4;have S:upd H e (.tup [.ref i,.ref t,.ref d]) e=some (.tup [.ref i,.ref t,.ref d]):=ac;generalize upd H e (.tup [.ref i,.ref t,.ref d])=H1 at s1 S|-;have B:=j.same s1;have U:=s1 _ _ hp;show{pl,_,_,rfl,rfl,B.ps,aU (by rw[A1];lia),?_};have v:p≠pl:=tG U B.ps (by intro h;cases h);have k2:=mO (ys:=bU es++[.ref e]) B.ps;have u:upd H1 pl (.lst<|bU es++[.ref e]) p=some (.ins C dx<|flL ft t d pl al):=by rw[aj v];show U
  have J:upd H1 pl (.lst<|bU es++[.ref e]) pl=some (.lst<|bU (es++[⟨e,i,t,d,xs,z,gs⟩])):=by rw[ac];unfold bU;rw[CG];rfl
  have M:Off [p,pl] H1 (upd H1 pl<|.lst (bU es++[.ref e])):=λb o h a=>by rw[aj λz=>a (by rw[z];simp)];show h
  generalize upd H1 pl (.lst<|bU es++[.ref e])=H2 at k2 u J M|-;show{CI _,λal' r=>?_};have m:p≠al':=ao u r;have Z:pl≠al':=ao J r;have a3:H al'=none:=by
   cases a5:H al' with
   |none=>rfl
   |some o =>
    have h2:=M _ _ (s1 _ _ a5) (by simp[CD m,CD Z]);rw[r]at h2;cases h2
  show{_,rfl,p,C,dx,_,rfl,by rw[aj m];show u,T.cl,T.n4,jz,?_};rw[EH];have V:upd H2 al' (.lst []) p=some (.ins C dx<|flL ft t d pl al):=by rw[aj m];show u
  have n:=ag (o:=.lst []) r;have gA:upd H2 al' (.lst []) al'=some (.lst []):=ac;generalize upd H2 al' (.lst [])=k at V n gA|-;have L:=hZ (gs:=flL ft t d pl al') V;have G:upd k p (.ins C dx<|flL ft t d pl al') p=some (.ins C dx<|flL ft t d pl al'):=ac;have a0:Off [p,pl] k (upd k p<|.ins C dx (flL ft t d pl al')):=λb o h a=>by rw[aj λz=>a (by rw[z];simp)];show h
  have X:upd k p (.ins C dx<|flL ft t d pl al') pl=some (.lst<|bU (es++[⟨e,i,t,d,xs,z,gs⟩])):=by rw[aj<|CD v];show n _ _ J
  have N:upd k p (.ins C dx<|flL ft t d pl al') al'=some (.lst []):=by rw[aj<|CD m];show gA
  generalize upd k p (.ins C dx<|flL ft t d pl al')=l at L G a0 X N|-;show{_,rfl,_,rfl,p,C,dx,_,rfl,G,T.cl,T.n1,jz,?_};rw[zt];have k5:=hZ (gs:=flL ft c d pl al') G;have I:upd l p (.ins C dx<|flL ft c d pl al') p=some (.ins C dx<|flL ft c d pl al'):=ac;have a1:Off [p,pl] l (upd l p<|.ins C dx (flL ft c d pl al')):=λb o h a=>by rw[aj λz=>a (by rw[z];simp)];show h
  have Y:upd l p (.ins C dx<|flL ft c d pl al') pl=some (.lst<|bU (es++[⟨e,i,t,d,xs,z,gs⟩])):=by rw[aj<|CD v];show X
  have O:upd l p (.ins C dx<|flL ft c d pl al') al'=some (.lst []):=by rw[aj<|CD m];show N
  generalize upd l p (.ins C dx<|flL ft c d pl al')=x at k5 I a1 Y O|-;show{_,rfl,_,rfl,p,C,dx,_,rfl,I,T.cl,T.n2,jz,?_};rw[zw];have W:=hZ (gs:=flL ft c D pl al') I;have a7:Off [p,pl] x (upd x p<|.ins C dx (flL ft c D pl al')):=λb o h a=>by rw[aj λz=>a (by rw[z];simp)];show h
  have g:dm H (upd x p<|.ins C dx (flL ft c D pl al')):=(((((cu s1).trans k2).trans (cu n)).trans L).trans k5).trans W;show q e al' _ a3 {⟨dx,ac⟩,j.tf.stay g,a9.stay g,a8.stay g,by rw[aj<|CD v];show Y,by rw[aj<|CD m];show O,Z,λy hy=>?_,(λy hy=>nomatch hy)} g λb o h a=>a7 _ _ (a1 _ _ (a0 _ _ (n _ _<|M _ _ (s1 _ _ h) a) a) a) a;rcases C6.mp hy with h|h
  .show(j.ep y h).stay g
  .have a2:y=⟨e,i,t,d,xs,z,gs⟩:=by simpa using h
   rw[a2];show{(((((k2).trans (cu n)).trans L).trans k5).trans W).tup S,g.tup a6,j.tr.stay g,j.tg.stay g}
inductive spLDo(C:zv)(vs:List V)(H:Hp)(Q:VK)(E:XK):Prop
 |mk p ft t d pl al zf z gs es as sa dd u (_:vs=[.ref p,.ref sa]) (_:LAt C H p ft t d pl al zf z gs es as) (_:z.length<=29) (_:z≠[]) (_:H sa=some (.tup<|aT dd)) (_:dd.pos) (_:es.length<=200) (_:TW.Told (nds z) dd<|.inr u) (_:∀t' us q al' H',H al'=none->nds us=u->LAt C H' p ft t' d pl al' zf us gs (es++[⟨q,sa,t,d,aT dd,z,gs⟩]) []->dm H H'->Off [p,pl] H H'->Q .non H')
theorem Gz:FnScope ["self","deed"] ["self","deed"] (ak iJ):=fsc
theorem EN{f C e:zv}{g i:xl}(F:Fun K "do" "Ledger.do" iJ f g)(T:LCls K mg C)(v:Has P w K mg base 4 "done" ["tree","deed"] spDone)(B:Meth K C "go_on" e)(x:aE P w K mg base CX0 1 e i ["self","step","tree","tag_trees"]<|spLGo C)(G:br K i ["self","step","tree","tag_trees"] []):aE P w K mg base CX0 5 f g ["self","deed"] (spLDo C):=by
 show F.okA Gz λcdv A outer s H vs Q E l h=>?_
 .show{_,am<|aZ (gg (pv 0) T.cl B x (l.mono (by decide)) G .nil bX<|aa (pv 1) (aa (aw v l<|aa (dJ (pv 0) rfl) (aa (pv 1) ae))<|aa (dJ (pv 0) rfl) ae)),?_};let(p,ft,t,d,pl,al,W,z,j,es,as,n,dd,u,rfl,a,S,U,m,O,N,c,V):=h;let(dx,hp):=a.ob;show{_,rfl,p,dx,_,rfl,hp,bA,_,rfl,_,rfl,p,C,dx,_,_,rfl,hp,T.cl,T.n1,uQ,_,rfl,t,n,dd,z,u,rfl,a.tr,S,U,m,c,λus r H1 s1 R L I=>?_};subst I;show{_,rfl,p,C,dx,_,_,rfl,s1 _ _ hp,T.cl,T.n2,zu,p,ft,t,d,pl,al,W,z,j,es,as,n,aT dd,r,us,d,j,rfl,a.same s1,s1 _ _ m,({R,L,c.tree a.tr.tr O,by have:=c.len;rw[au,au]at this;lia}),(a.same s1).tg,N,λq D H' J y k o=>V r us q D H' (kB s1 J) rfl y ((cu s1).trans k) λb o' h M=>o _ _ (s1 _ _ h) M}
end
end TK
namespace L2
open PySem PySem.Spec PyProof.Rows
section
variable{X:Cx}
abbrev Cx.inTry(X:Cx)(pl:List<|zv×Obj):Cx:={X with pn:=pl,xe:=λ_ _=>False}
theorem Inv.inTry{c:List _}{d:St}{H:Hp}{s:zn}(b:Inv X c d H s):Inv (X.inTry<|X.pn++c) [] d H s :=
 have a:=b.ok
 {⟨a.mod,a.kind,a.glob,a.blt,a.above,a.inj,a.has,a.cab,a.hd,a.frames,a.stk,a.exf,a.bs,a.bsz,a.noex,a.exfs,a.funs,a.frf⟩,b.os,b.bare,b.base,b.loc,b.cell,b.free,b.freeC,λp hp=>b.pin p (by simpa using hp),b.hok,b.len}
theorem Inv.outTry{c e:List _}{d:St}{H:Hp}{s:zn}(b:Inv (X.inTry<|X.pn++c) e d H s):Inv X c d H s :=
 have a:=b.ok
 {⟨a.mod,a.kind,a.glob,a.blt,a.above,a.inj,a.has,a.cab,a.hd,a.frames,a.stk,a.exf,a.bs,a.bsz,a.noex,a.exfs,a.funs,a.frf⟩,b.os,b.bare,b.base,b.loc,b.cell,b.free,b.freeC,λp hp=>b.pin p<|CT _ hp,b.hok,b.len}
theorem Bw{d:List Stmt}{g:ExceptHandler}{j:List ExceptHandler}{tb:TS}{l:Pos}(i:∀pl,PSs (X.inTry pl) d tb):PS X (.Try d (g::j) [] [] l) tb:=by
 intro pins s σ H e I h;show wpAny_Try_except<|wpAny_mono (i (X.pn++pins) [] s σ H e I.inTry h) (λf s1 q=>?_) (λo s1 k=>k.elim);cases f with
 |next=>let(c,H',a,b):=q;show wpAny_execs_nil ⟨c,H',a.outTry,b⟩
 |brk=>let(c,H',a,b):=q;show⟨c,H',a.outTry,b⟩
 |cont=>let(c,H',a,b):=q;show⟨c,H',a.outTry,b⟩
 |ret v=>let(n,c,H',a,m,b):=q;show⟨n,c,H',a.outTry,m,b⟩
end
end L2
namespace TK
open PySem L2
section
variable{P:zi}{w:xr}{K:Frag}{mg:Str->Option zy}{base:qq}
theorem zA{X:Cx}{e:Expr}:PT X e (λ_ _ _=>False):=λ_ _ _ _ _ _ h=>h.elim
inductive spDol(C:zv)(vs:List V)(H:Hp)(Q:VK)(E_:XK):Prop
 |mk (p:zv) (x:Str) d ft t dt pl al zf z gs es as us ws (_:vs=[.ref p,.str x]) (_:LAt C H p ft t dt pl al zf z gs es as) (_:z.length<=29) (_:es.length<=200) (_:x.length<=900) (_:Txt.split x (ch 32)=ws) (_:DW d ws) (_:z≠[]) (_:d.pos) (_:TW.Told (nds z) d<|.inr us)
  (_:∀sa t' us' q al' H',H al'=none->nds us'=us->LAt C H' p ft t' dt pl al' zf us' gs (es++[⟨q,sa,t,dt,aT d,z,gs⟩]) []->dm H H'->Off [p,pl] H H'->Q .non H')
theorem Ca:FnScope ["ledger","line","words","e"] ["ledger","line"] (ak kc):=fsc
theorem EO{f C k:zv}{m u:xl}(F:Fun K "do_line" "do_line" kc f m)(T:Txt mg)(O:LCls K mg C)(G:Has P w K mg base 5 "deed_in" ["words"] spDin)(N:Meth K C "do" k)(I:aE P w K mg base CX0 5 k u ["self","deed"]<|spLDo C)(S:br K u ["self","deed"] []):aE P w K mg base CX0 6 f m ["ledger","line"] (spDol C):=by
 show F.okA Ca λcdv A outer s H vs Q E y h=>?_
 .let(p,x,d,ft,t,U,pl,al,c0,z,a0,es,as,us,ws,rfl,L,a5,a1,c1,Y,v,a6,a3,b2,q):=h;show{_,af (ar (i:=2) Ca.nd rfl (Or.inl rfl)<|cE E5 slot_str_split type_str_split kq (pv 1) (aa aJ ae))
   (am<|Bw (λpl=>am (aQ (PW.pt<|pw_and (aq cT (cw (r:=rIxL K) bn (pv 2) ai λ_ _=>rfl) aJ<|av _) (pw_and1 zA)) aA
    (am<|aZ (gg (pv 0) O.cl N I y S .nil bX<|aa (aw G y<|aa (pv 2) ae) ae))))),?_}
  show{_,rfl,rfl,x,ch 32,rfl,rfl,rfl,by lia,λl a2=>?_};have s1:=ag (o:=.lst<|(Txt.split x<|ch 32).map V.str) a2;have c:upd H l (.lst<|(Txt.split x<|ch 32).map V.str) l=some (.lst<|(Txt.split x<|ch 32).map V.str):=ac;generalize upd H l (.lst<|(Txt.split x<|ch 32).map V.str)=H1 at s1 c|-;rw[Y]at c;obtain⟨a,wr,W,nt⟩:∃a wr,ws=a::wr/\a≠"tag":=by
   cases v with
   |make=>show{_,_,rfl,by decide}
   |write=>show{_,_,rfl,by decide}
  have j:=L.same s1;let(dx,hp):=j.ob;show{_,rfl,l,_,_,.str a,rfl,rfl,SqL.of c,by rw[W];unfold atI ixN;simp,rfl,_,rfl,?_};rw[B9 (show ¬V.str a=V.str "tag" from λz=>nt (by injection z))];show aM<|aM {_,rfl,p,dx,_,rfl,hp,bA,_,rfl,l,d,ws,rfl,c,v,λD H2 B a4=>?_};show{p,ft,t,U,pl,al,c0,z,a0,es,as,D,d,us,rfl,j.same B,a5,a6,a4,a3,a1,b2,λb1 b3 a8 R J Z X M a9 a7=>?_};have g:=s1.trans B;show q D b1 b3 a8 R J (kB g Z) X M ((cu g).trans a9) λb o e n=>a7 b o (g b o e) n
inductive spLSte(C:zv)(vs:List V)(H:Hp)(Q:VK)(E_:XK):Prop
 |mk p ft t d pl al zf z gs es as (_:vs=[.ref p]) (_:LAt C H p ft t d pl al zf z gs es as) (_:es.length<=200) (_:∀l H',Same H H'->H' l=some (.lst<|es.map λe=>V.ref e.sa)->Q (.ref l) H')
theorem EQ:FnScope ["self"] ["self"] (ak fk):=fsc
theorem Bx{f C:zv}{c:xl}(F:Fun K "steps" "Ledger.steps" fk f c)(T:LCls K mg C):aE P w K mg base CX0 1 f c ["self"] (spLSte C):=by
 show F.okA EQ λcdv A outer s H vs Q E o h=>?_
 .let(p,ft,t,d,pl,al,v,z,m,es,as,rfl,b,n,q):=h;let(dx,hp):=b.ob;show{_,am<|ap (bH lcS (bw<|dJ (pv 0) rfl)
    (λs H fp=>ixT K (pv 0) ai)),{_,rfl,p,C,dx,_,_,rfl,hp,T.cl,T.n3,zx,pl,rfl,⟨_,SqL.of b.ps⟩,λr j=>?_}}
  show bq es _ (by lia) j (cr<|SqL.of b.ps) rfl (λe y _=>y=.ref e.sa) (λ_ _ _ _ h _=>h) (λe H' u l s1 _ g=>?_) λys H1 s1 i k=>?_
  .show{_,rfl,e.a,_,_,_,rfl,rfl,SqT.of<|s1 _ _ (b.ep e l).ob,rfl,g _ H' (Same.refl _) rfl}
  .show q r H1 s1 (by rw[i,(aG k λz y _ h=>h)])
theorem wy{xs:List V}(c:xs.length<=9)(a:∀x∈xs,pR x):(gG xs).length<=910:=by
 have k1:∀y∈xs.map dl,y.length<=100:=λy hy=>by
  let(x,h,rfl):=A3.mp hy;show(a x h).len
 have k2:=iV _ k1;have k3:=fY (ch 32)<|xs.map dl;have b:(ch 32).length=1:=rfl;rw[A1]at k2 k3;rw[b]at k3;change(join _ _++ch 10).length<=_;rw[bc];change _+1<=_
 lia
def wz(ws:List Wt)(a:List Ent):Str:=txt ws++"--"++"\n"++eA (a.map λe=>gG e.xs)
inductive spLtx(C:zv)(vs:List V)(H:Hp)(Q:VK)(E_:XK):Prop
 |mk p ft t d pl al zf z gs es as (_:vs=[.ref p]) (_:LAt C H p ft t d pl al zf z gs es as) (_:∀n∈nds zf,iI n) (_:zf.length<=20) (_:es.length<=20) (_:∀e∈es,e.xs.length<=9/\∀x∈e.xs,pR x) (_:∀ws H',Same H H'->Wk (nds zf) ws->Q (.str<|wz ws es) H')
theorem Cb:FnScope ["ledger","lines"] ["ledger"] (ak fq):=fsc
theorem ER{f C D B:zv}{I L J:xl}(F:Fun K "ledger_text" "ledger_text" fq f I)(T:Txt mg)(x:LCls K mg C)(a1:Meth K C "steps" D)(Z:aE P w K mg base CX0 1 D L ["self"]<|spLSte C)(a2:br K L ["self"] [])(a0:Meth K C "base" B)(Y:aE P w K mg base CX0 1 B J ["self"]<|spLBas C)(bB:br K J ["self"] [])(U:Has P w K mg base 2 "step_line" ["step"] spSln)(W:Has P w K mg base 4 "written" ["tree"] spWrt):aE P w K mg base CX0 5 f I ["ledger"] (spLtx C):=by
 let(c7,a7):=T.divider;show F.okA Cb λcdv A outer s H vs Q E m h=>?_
 .let(p,ft,t,d,pl,al,c,z,M,es,as,rfl,a,c3,d0,c5,ex,q):=h;have R:Room 1 _:=m.mono (by decide);have b1:Room 2 _:=m.mono (by decide);show{_,af (Dn (ii:=1) lcS Cb.nd (bw<|bp (pv 0) x.cl a1 Z R a2 .nil bX) λs H fp=>aw (X:=ca _ _ _ _ _ _ _) U b1<|aa (pv 0) ae)
   (am<|ap (aO dy (aO dy (aO dy (aw W m<|aa (bp (pv 0) x.cl a0 Y R bB .nil bX) ae)<|ce (v:=.str "--") rfl a7 ⟨_,rfl⟩) aJ)
    (cE E5 slot_str_join type_str_join gZ aJ<|aa (pv 1) ae))),?_}
  let(dx,hp):=a.ob;show{_,rfl,p,dx,_,rfl,hp,bA,p,ft,t,d,pl,al,c,z,M,es,as,rfl,a,by lia,λl H1 s1 O=>{l,rfl,⟨_,SqL.of O⟩,λu b2=>?_}};show bq (fr:=[]) es (λe=>V.ref e.sa) (by lia) b2 (cr<|SqL.of O) rfl (λe y _=>y=.str (gG e.xs)) (λ_ _ _ _ h _=>h) (λe H' c6 b g _ a8=>?_) λys H2 g b3 c1=>?_
  .let(a4,a5):=ex e b;show{_,rfl,e.sa,e.xs,rfl,g _ _<|s1 _ _ (a.ep e b).st,a4,a5,λj i=>a8 _ j i rfl}
  have a6:=aG (f:=λe:Ent=>V.str<|gG e.xs) c1 λ_ y _ h=>h;have L2:=a.same<|s1.trans g;let(a3,a9):=L2.ob;have o:∀n∈nds c,NodG n:=λn k=>(c3 n k).G;have N:=a.tf.tr;have k1:∀y∈es.map (λe=>gG e.xs),y.length<=910:=λy hy=>by
   let(e,b,rfl):=A3.mp hy;show wy (ex e b).1 (ex e b).2
  show{_,rfl,p,a3,_,rfl,a9,bA,p,ft,t,d,pl,al,c,z,M,es,as,rfl,L2,ft,c,rfl,L2.tf,o,λws j i r=>?_};have c8:ws.length=c.length:=by rw[Wk.len N (λn k=>(o n k).toNodR) r,au]
  have S:=lB N o (by rw[au];lia) ws λw c0=>(r.mem w.1 w.2).mp c0;have S:(txt ws).length<=3000:=by lia
  have c4:=dO S (show("--":Str).length<=2 by decide);have c9:=dO c4 (show("\n":Str).length<=1 by decide);have k2:=iV _ k1;rw[A1]at k2;have k3:=fY empty<|es.map λe=>gG e.xs;have c2:empty.length=0:=rfl;rw[<-StrLaws.glued_eq_join,show Builtin.Str.glued empty (es.map λe=>gG e.xs)=_ from oP _,c2,Nat.mul_zero]at k3;show{_,_,rfl,rfl,szl (by rw[<-bc];lia),_,_,rfl,rfl,szl (by rw[<-bc];lia),?_};show{rfl,_,rfl,empty,u,es.map λe=>gG e.xs,rfl,rfl,i _ _ (by rw[b3,a6,A7];rfl),ir k1 (by rw[A1];lia),?_};rw[oP];show{_,_,rfl,rfl,szl (by lia),q ws j ((s1.trans g).trans i) r}
end
theorem oQ:∀c:List Str,join (ch 10) (c++[empty])=eA (c.map (· ++ ch 10))
 |[]=>rfl
 |x::r=>by
  have e:∃a b,r++[empty]=a::b:=by cases r<;>show{_,_,rfl}
  let(a,b,e):=e;have:=oQ r;rw[e]at this;change join (ch 10) (x::(r++[empty]))=x++ch 10++eA (r.map _);rw[e,<-this];rfl
theorem sY{ls:List Str}(h:∀l∈ls,10∉sg l):dZ (eA<|ls.map (· ++ ch 10))=some ls:=by
 unfold dZ;have e:Txt.split (eA<|ls.map (· ++ ch 10)) (ch 10)=ls++[empty]:=hV (by simp) (λp hp=>by
  rcases C6.mp hp with hp|hp
  .show h p hp
  .rw[B8.mp hp];change 10∉[];simp)<|oQ ls
 rw[e,A6 (by simp),List.dropLast_concat]
theorem rK:∀a b:List Str,eA (a++b)=eA a++eA b
 |[],b=>(empty_append _).symm
 |x::r,b=>by
  change x++eA (r++b)=x++eA r++eA b;rw[rK r b,Str.append_assoc]
def dH(xs:List V):Str:=join (ch 32)<|xs.map dl
def nv(ws:List Wt)(a:List Ent):List Str:=ws.map lnT++(("--":Str)::a.map λe=>dH e.xs)
theorem sZ(ws:List Wt)(a:List Ent):wz ws a=eA ((nv ws a).map (· ++ ch 10)):=by
 unfold nv;rw[CG,rK,CM,A7,A7];have:=jx ws;change _=eA (ws.map λw=>lnT w++ch 10)++("--"++ch 10++eA _);rw[this];change txt ws++"--"++"\n"++eA _=_;simp only[Str.append_assoc];rfl
def zB:TW.Deed Str->Prop
 |.make ..=>True
 |.write ..=>True
 |_=>False
theorem By{d:TW.Deed Str}(b:dc d)(m:zB d):∀y∈(aT d).map dl,y.length<=9/\∀c∈sg y,45<=c:=by
 have a:∀n:Int,0<=n->n<=999->(nt n).length<=9/\∀c∈sg (nt n),45<=c:=λn e h1=>{(gE e (by lia)).2.2,λc j=>by have:=pN e c j;lia};have k:∀x,jR x->x.length<=9/\∀c∈sg x,45<=c:=by
  intro x b;rcases b with rfl|rfl|rfl|rfl|rfl|rfl|rfl<;>decide +kernel
 cases d with
 |make n p nm st =>
  let(h1,h2,h3,g,h,f):=b;intro y hy;simp only[aT,CM,map_nil,B3,CU,G3]at hy;rcases hy with rfl|rfl|rfl|rfl|rfl
  .change("make":Str).length<=9/\∀c∈sg "make",45<=c
   decide +kernel
  .show a n (by lia) (by lia)
  .show a p (by lia) (by lia)
  .show k _ h
  .cases st with
   |none =>
    change(ch 45).length<=9/\∀c∈sg (ch 45),45<=c
    decide +kernel
   |some i=>show a i (f i rfl).1 (f i rfl).2
 |write n st =>
  let(h1,h2,h3,g):=b;intro y hy;simp only[aT,CM,map_nil,B3,CU,G3]at hy;rcases hy with rfl|rfl|rfl
  .change("write":Str).length<=9/\∀c∈sg "write",45<=c
   decide +kernel
  .show a n (by lia) (by lia)
  .show a st (by lia) (by lia)
 |move=>show m.elim
 |drop=>show m.elim
theorem oR{c k:Nat}(a:c≠k):∀{l:List Str},(∀y∈l,c∉sg y)->c∉sg (join (ch k) l)
 |[],_=>by change c∉[];simp
 |[x],h=>h x (by simp)
 |x::y::r,h=>fX (fX (h x (by simp)) (by rw[zb];simpa using a))<|oR a λz b=>h z (by simp[b])
theorem pT{d:TW.Deed Str}(c:dc d)(m:zB d):10∉sg (dH<|aT d)/\(dH<|aT d).length<=60/\Txt.split (dH<|aT d) (ch 32)=(aT d).map dl/\DW d ((aT d).map dl):=by
 have k:=By c m;have a:∀n:Int,0<=n->n<=999->cA (nt n)=some n:=λn f h1=>(gE f (by lia)).1;show{oR (by decide) λy hy z=>by have:=(k y hy).2 10 z;lia,?_,hV ?_ (λy hy z=>by have:=(k y hy).2 32 z;lia) rfl,?_}
 .have k1:=iV _ λy hy=>(k y hy).1;have k2:=fY (ch 32)<|(aT d).map dl;have k3:(ch 32).length=1:=rfl;have h:((aT d).map dl).length<=5:=by cases d<;>simp[aT]
  rw[k3]at k2;change(join _ _).length<=_
  lia
 .cases d<;>show cons_ne_nil _ _
 .cases d with
  |make n p nm st =>
   let(h1,h2,h3,e,g,b):=c;show .make n p nm st _ _ _ (a n (by lia) (by lia)) (a p (by lia) (by lia)) ⟨h1,h2,g,b⟩ ?_;cases st with
   |none=>show rfl
   |some i=>show{a i (b i rfl).1 (b i rfl).2,b i rfl}
  |write n st =>
   let(h1,h2,h3,e):=c;show .write n st _ _ (a n (by lia) (by lia)) (a st (by lia) (by lia)) ⟨h3,e⟩
  |move=>show m.elim
  |drop=>show m.elim
theorem GA{w:Wt}:lnT w≠"--":=λe=>by
 have h:32∈sg (lnT w):=by
  unfold lnT;rw[cR,cR,cR];simp[zb]
 rw[e]at h;show absurd h (by decide +kernel)
theorem tm{t:List Nd}{ws:List Wt}{g:List Ent}{f:List (TW.Deed Str)}(W:Wk t ws)(R:∀n∈t,NodR n)(e:g.map (·.xs)=f.map aT)(h:∀d∈f,dc d/\zB d):dZ (wz ws g)=some (nv ws g):=by
 rw[sZ];show sY λl c=>?_;rcases C6.mp c with c|c
 .let(w,k,rfl):=A3.mp c;let(a,b):=W.pth R k;show uM a b
 .rcases B3.mp c with rfl|c
  .decide +kernel
  .let(x,m,rfl):=A3.mp c;have:x.xs∈f.map aT:=e ▸ A3.mpr ⟨x,m,rfl⟩;let(d,i,j):=A3.mp this;rw[<-j];show(pT (h d i).1 (h d i).2).1
section
variable{P:zi}{w:xr}{K:Frag}{mg:Str->Option zy}{base:qq}
inductive spPart(vs:List V)(H:Hp)(Q:VK)(E_:XK):Prop
 |mk t zs (_:vs=[.ref t]) (_:Tre H t zs) (_:∀d as H',Same H H'->H d=none->Book H' d as zs->H' d=some (.dK<|cb as)->Q (.ref d) H')
theorem ES:FnScope ["tree"] ["tree"] (ak bQ):=fsc
theorem uR(T:Txt mg):∃t,(∀f cdv A outer s H E,PSs (kU CX0 P w K mg base ["tree"] "parts_by_number" (ak bQ) f cdv A outer s H E).nox (bJ bQ) t)/\(∀f cdv A outer s H E,PSs (kU CX0 P w K mg base ["_law_tree_here"] "_law_book" (ak qW) f cdv A outer s H E).nox (bJ qW) t) /\
  ∀vs H Q (E:XK),spPart vs H Q E->t {nx:=λ_ H'=>Q .non H',rt:=Q} (start ["tree"] vs) H:=by
 apply Exists.intro;show{λf cdv A outer s H E=>?_,λf cdv A outer s H E=>?_,λvs H Q E h=>?_}
 .show am<|ap (aD (cx rfl) rfl T.dict boot_dict<|aa (bH lcS (show PI _ _ _ (Cq K _)from bE<|pv 0)
   (λs H fp=>aK<|aa (ixT K (pv 0) ai) (aa (cH (r:=rSlT K) lL (pv 0) (cX ai) dR) ae))) ae)
 .show am<|ap (aD (cx rfl) rfl T.dict boot_dict<|aa (bH lcS (show PI _ _ _ (Cq K _)from bE<|pv 0)
   (λs H fp=>aK<|aa (ixT K (pv 0) ai) (aa (cH (r:=rSlT K) lL (pv 0) (cX ai) dR) ae))) ae)
 .let(t,zs,rfl,C,k):=h;have L:=bi C.tr;have u:=C.len;have B:=C.tup;have c1:=C.nod;show{_,rfl,t,rfl,⟨_,SqT.of B⟩,λp hp=>?_};show xM (fr:=[]) zs.length (by lia) hp rfl (λi y H'=>∃q c z,zs[i]?=some z/\y=.ref q/\q≠p/\c≠p/\H' q=some (.tup [.int z.2.num,.ref c])/\H' c=some (.tup<|cj z.2)) (λi y H1 H2 h ex=>?_) (λi H' hi s1=>?_) (λH' s1=>?_) ?_ (λi H' x H2 hi s1 N hy=>?_) (λys H' s1 M c4 c7=>?_)
  .let(q,c,z,g,v,j,F,a7,a8):=h;show{q,c,z,g,v,j,F,ex q _ j a7,ex c _ F a8}
  .show{_,_,SqT.of<|s1 _ _ B,jo<|A2 hi}
  .show{_,SqT.of<|s1 _ _ B,by rw[ba];show A8 _}
  .rintro _ _ _ _ m ⟨d8,X,d6,xs,d0,d9,Z,a0,a1,a2,e0,Y,d1,a3,W,e1,a4,a5,a6,q⟩;show{d8,X,d6,xs,d0,d9,Z,a0,a1,a2,e0,Y,d1,a3,W,e1,a4,a5,a6,λl u=>?_};let(c9,d7):=q l u;show{c9,λd3 c3=>m _ _<|d7 d3 c3}
  .let(rfl,c6):=hy;let(z,I,rfl):=db<|c6 _ (SqT.of<|s1 _ _ B);have d5:=C3 I;have R:=s1 _ _<|c1 z d5;have a9:iu (vals z.2) (some 1) none=cj z.2:=rfl;show{rfl,_,rfl,z.1,_,_,_,rfl,rfl,SqT.of R,at0 z.2,_,rfl,_,rfl,z.1,_,rfl,SqT.of R,(by intro h;show absurd h.1 (show ¬HT.sIx 4 0 (some 1)=0 by decide)),λc O=>?_};rw[a9];have S:=ag (o:=.tup<|cj z.2) O;have c5:∃ys,upd H2 c (.tup<|cj z.2) p=some (.lst ys):=let⟨ys,e⟩:=N;⟨ys,S _ _ e⟩;show{le2,λq D=>{S.trans<|ag D,q,c,z,I,rfl,fi c5 D,fi N O,ac,bh D ac}}
  .obtain⟨as,g,v,j⟩:∃as:List<|(zv×zv)×(zv×Nd),as.map (·.2)=zs/\ys=(as.map (·.1.1)).map V.ref/\∀a∈as,H' a.1.1=some (.tup [.int a.2.2.num,.ref a.1.2])/\H' a.1.2=some (.tup<|cj a.2.2):=by
    clear M;have d4:∀(ys:List V)(xs:ZN),ys.length=xs.length->(∀(i:Nat) y,ys[i]?=some y->∃q c z,xs[i]?=some z/\y=.ref q/\q≠p/\c≠p/\H' q=some (.tup [.int z.2.num,.ref c])/\H' c=some (.tup<|cj z.2)) ->
      ∃as:List<|(zv×zv)×(zv×Nd),as.map (·.2)=xs/\ys=(as.map (·.1.1)).map V.ref/\∀a∈as,H' a.1.1=some (.tup [.int a.2.2.num,.ref a.1.2])/\H' a.1.2=some (.tup<|cj a.2.2):=by
     intro ys
     induction ys with
     |nil =>
      intro xs u _;have:xs=[]:=E2.mp u.symm;subst this;show{[],rfl,rfl,by simp}
     |cons y ys d2 =>
      intro xs u h;cases xs with
      |nil=>simp at u
      |cons x xs =>
       let(as,g,v,j):=d2 xs (by simpa using u) λi y hy=>by simpa using h (i+1) y (by simpa using hy)
       let(q,c,z,b1,b2,e2,e3,b3,c0):=h 0 y rfl;have:x=z:=by simpa using b1
       subst this;show{((q,c),x)::as,by simp[g],by simp[v,b2],λa n=>?_};rcases B3.mp n with rfl|n
       .show⟨b3,c0⟩
       .show j a n
    show d4 ys zs c4 c7
   have e4:as.length=zs.length:=by rw[<-g,A1]
   show{p,as.map λa=>(a.1.1,(Sum.inl a.2.2.num:Key),V.ref a.1.2),rfl,?_,?_,?_,?_,λd J=>?_}
   .rw[M,v,A7,A7,A7];rfl
   .intro z c8;let(a,n,rfl):=A3.mp c8;show(j a n).1
   .rw[A1];lia
   .rw[A7];have:(as.map<|(λx:zv×Key×V=>x.2.1)∘λa=>(a.1.1,(Sum.inl a.2.2.num:Key),V.ref a.1.2))=((nds zs).map (·.num)).map (Sum.inl:Int->Key):=by
     rw[<-g];unfold nds;simp only[A7];rfl
    rw[this];unfold Nodup at L|-;rw[C0];show L.imp λh e=>h (by injection e)
   .have U:=ag (o:=.dK<|(as.map λa=>(a.1.1,(Sum.inl a.2.2.num:Key),V.ref a.1.2)).map (·.2)) J;have G:upd H' d (.dK<|(as.map λa=>(a.1.1,(Sum.inl a.2.2.num:Key),V.ref a.1.2)).map (·.2)) d=some (.dK<|cb (as.map λa=>(a.1.2,a.2))):=by
     rw[ac];show congrArg (λx=>some<|HO.dK x) ?_;unfold cb;simp only[A7];rfl
    show k d (as.map λa=>(a.1.2,a.2)) _ (s1.trans U) (s1.free J) {.inl G,by rw[A7];show g,λa n=>?_} G;let(b,c2,rfl):=A3.mp n;show U _ _ (j b c2).2
def unl(e:zv×Row):Bool:=!decide (e.2.o=e.2.n)
theorem Bz{f:zv}{a:xl}(F:Fun K "parts_by_number" "parts_by_number" bQ f a)(T:Txt mg):aE P w K mg base CX0 1 f a ["tree"] spPart :=
 F.ok ES (λvs H Q E ⟨t,zs,e,_,_⟩=>e ▸ rfl) λcdv A outer s H vs Q E b h=>let⟨t,p,_,q⟩:=uR T;⟨t,p _ _ _ _ _ _ _,q _ _ _ _ h⟩
theorem ET:FnScope ["_law_tree_here"] ["_law_tree_here"] (ak qW):=fsc
theorem BA{f:zv}{a:xl}(F:Fun K "_law_book" "_law_book" qW f a)(T:Txt mg):aE P w K mg base CX0 1 f a ["_law_tree_here"] spPart :=
 F.ok ET (λvs H Q E ⟨t,zs,e,_,_⟩=>e ▸ rfl) λcdv A outer s H vs Q E b h=>let⟨t,_,p,q⟩:=uR T;⟨t,p _ _ _ _ _ _ _,q _ _ _ _ h⟩
inductive spUnl(vs:List V)(H:Hp)(Q:VK)(E_:XK):Prop
 |mk l es (_:vs=[.ref l]) (_:H l=some (.lst<|yu es)) (_:(∀e∈es,RowAt H e.1 e.2)) (_:es.length<=60) (_:∀c H',Same H H'->ChgAt H' c (es.filter unl)->Q (.ref c) H')
theorem GC:FnScope ["entries"] ["entries"] (ak dE):=fsc
theorem EU{f:zv}{d:xl}(F:Fun K "unlike_entries" "unlike_entries" dE f d)(T:Txt mg):aE P w K mg base CX0 1 f d ["entries"] spUnl:=by
 show F.okA GC λcdv A outer s H vs Q E x h=>?_
 .let(l,es,rfl,i,g,u,k):=h;show{_,am<|ap (aD aS rfl T.tuple rfl<|aa (cN lcS (bw<|pv 0)
   (λs H fp=>aq (yr<|bv x) (ixT K (pv 0) ai) (ixT K (pv 0) ai)<|av _) (λs H fp=>pv 0)) ae),?_}
  show{_,rfl,l,rfl,⟨_,SqL.of i⟩,λp hp=>?_};show cZ (fr:=[]) es (λe=>V.ref e.1) (by lia) hp (cr<|SqL.of i) rfl unl (λe y _=>y=.ref e.1) (λe y H H' h _=>h) (λe H' C a s1 _ b=>?_) (λe H' C a _ s1 _ b=>{_,rfl,b _ H' (Same.refl _) rfl}) λys H' s1 v B=>?_
  .let((I,G,h1,h2,h3),D):=(g e a).same s1;show{_,rfl,e.1,_,_,_,rfl,rfl,SqT.of h1,rfl,_,rfl,e.1,_,_,_,rfl,rfl,SqT.of h1,rfl,_,_,h2.ot,h3.ot,_,rfl,?_};have m:(!decide (e.2.o.map cj=e.2.n.map cj))=unl e:=by
    unfold unl;have:=D.eq
    by_cases z:e.2.o=e.2.n
    .rw[C7<|this.mpr z,C7 z]
    .rw[B9 λq=>z<|this.mp q,B9 z]
   rw[m];show b H'<|Same.refl _
  .have r:=aG (f:=λe:zv×Row=>V.ref e.1) B λe y _ h=>h;show{p,_,rfl,.inl {SqL.of v,λc t=>?_}};have j:=s1.trans<|ag (o:=.tup ys) t;show k c _ j {by rw[ac,r];rfl,λe a=>(g e (CF.mp a).1).same j,CL (D0 _ _) u}
end
def cbS(i:Nat):Stmt:=(bJ bC).getD i (.Pass ⟨0,0,0,0⟩)
def CN:List Str:=["one","other","before","after","numbers"]
theorem BB:FnScope CN ["one","other"] (ak bC):=fsc
abbrev CbX(P:zi)(w:xr)(K:Frag)(mg:Str->Option zy)(base:qq)(f:zv)(cdv:zy)(A:xx)(outer:List Env)(s:zn)(H:Hp)(E:XK):Cx:=(kU CX0 P w K mg base CN "change_between" (ak bC) f cdv A outer s H E).nox
section
variable{P:zi}{w:xr}{K:Frag}{mg:Str->Option zy}{base:qq}{f:zv}{cdv:zy}{A:xx}{outer:List Env}{s:zn}{H0:Hp}{E:XK}
theorem cb2(T:Txt mg):∃t,PS (CbX P w K mg base f cdv A outer s H0 E) (cbS 2) t/\∀(n:Ends)(H:Hp)(u v L:Option V)(d g:zv)(as bs:List<|zv×(zv×Nd))(zs us:ZN),Book H d as zs->Book H g bs us->zs.length<=30->us.length<=30 ->
   (∀(l:zv)(ns:List Int)(H':Hp),Same H H'->H' l=some (.lst<|ns.map V.int)->ns.Pairwise (· < ·)->ns.length<=60->(∀k,k∈ns↔k∈(nds zs).map (·.num)\/k∈(nds us).map (·.num))->n.nx [u,v,some<|.ref d,some<|.ref g,some<|.ref l] H')->t n [u,v,some<|.ref d,some<|.ref g,L] H:=by
 show{_,ar (i:=4) BB.nd rfl (Or.inl rfl)<|ay (gY rfl) rfl T.sorted Ee (aa (aO yt (aD eZ rfl T.set rfl<|aa (pv 2) ae)<|aD eZ rfl T.set rfl (aa (pv 3) ae)) ae),?_};intro n H u v L d g as bs zs us bk y X Y q;show{_,rfl,d,_,(nds zs).map (·.num),rfl,bk.dict,mH bk.of,by rw[A1,au];lia,λb N C a R=>?_};have s1:=ag (o:=fw (CbX P w K mg base f cdv A outer s H0 E).w a b) R;have p:upd H a (fw (CbX P w K mg base f cdv A outer s H0 E).w a b) a=some (fw (CbX P w K mg base f cdv A outer s H0 E).w a b):=ac;generalize upd H a (fw (CbX P w K mg base f cdv A outer s H0 E).w a b)=H1 at s1 p|-;show{_,rfl,g,_,(nds us).map (·.num),rfl,(y.same s1).dict,mH y.of,by rw[A1,au];lia,λc O D p2 j=>?_};have J:=s1.trans<|ag (o:=fw (CbX P w K mg base f cdv A outer s H0 E).w p2 c) j;have B:upd H1 p2 (fw (CbX P w K mg base f cdv A outer s H0 E).w p2 c) p2=some (fw (CbX P w K mg base f cdv A outer s H0 E).w p2 c):=ac;have z:upd H1 p2 (fw (CbX P w K mg base f cdv A outer s H0 E).w p2 c) a=some (fw (CbX P w K mg base f cdv A outer s H0 E).w a b):=bh j p;generalize upd H1 p2 (fw (CbX P w K mg base f cdv A outer s H0 E).w p2 c)=H2 at J B z|-;have k1:b.length<=30:=by
  have:=ju N λx h=>(C x).mp h;rw[A1,au]at this
  lia
 have k2:c.length<=30:=by
  have:=ju O λx h=>(D x).mp h;rw[A1,au]at this
  lia
 show{a,p2,b,c,rfl,rfl,(λe=>by rw[<-e,p]at j;cases j),z,B,by lia,λr Q F I S=>?_};have k3:r.length<=60:=by
  have:=ju (m:=b++c) Q λx h=>C6.mpr<|(F x).mp h;rw[B0]at this
  lia
 have W:=J.trans<|ag (o:=fw (CbX P w K mg base f cdv A outer s H0 E).w I r) S;show{I,r,rfl,ac,k3,λns G U l M=>?_};show q l ns _ (W.trans<|ag (o:=.lst<|ns.map V.int) M) ac U (by rw[G.length_eq];show k3) λk=>?_;rw[G.mem_iff,F k,C k,D k]
theorem cb3(C:Room 1<|A.deeper (PyProof.Rows.envOfC "change_between" (ak bC) s.heap.objs.size f cdv))(Y:Has P w K mg base 1 "unlike_entries" ["entries"] spUnl):
  ∃t,PS (CbX P w K mg base f cdv A outer s H0 E) (cbS 3) t/\∀(u:Ends)(H:Hp)(W X:Option V)(d g l:zv)(as bs:List<|zv×(zv×Nd))(zs us:ZN)(ns:List Int),Book H d as zs->Book H g bs us->TW.Tree1 (nds zs)->TW.Tree1 (nds us)->H l=some (.lst<|ns.map V.int)->ns.Pairwise (· < ·)->ns.length<=60->(∀k,k∈ns↔k∈(nds zs).map (·.num)\/k∈(nds us).map (·.num)) ->
   (∀c es H',Same H H'->ChgAt H' c es->TW.Chg (nds zs) (nds us) (kj es)->u.rt (.ref c) H')->t u [W,X,some<|.ref d,some<|.ref g,some<|.ref l] H:=by
 show{_,ap<|aw Y C (aa (bH (fs:=["after","before"]) (cl:=[("before",s.heap.objs.size+1),("after",s.heap.objs.size+2)]) (js:=[3,2]) lcF (bw<|pv 4)
   (λs H fp=>aK<|aa (pv 0) (aa (lQ (bv C) (pv 2) (pv 0) ⟨rfl,rfl,rfl,rfl⟩)<|aa (lQ (bv C) (pv 1) (pv 0) ⟨rfl,rfl,rfl,rfl⟩) ae))) ae),?_}
 intro u H W X d g l as bs zs us ns bk D Z a0 G a8 c0 a4 q;show{_,rfl,l,rfl,⟨_,SqL.of G⟩,λp hp=>(bq (fr:=[some<|.ref g,some<|.ref d]) ns V.int (by lia) hp (cr<|SqL.of G) rfl (λk y H'=>∃c b a,y=.ref c/\c≠p/\H' c=some (.tup [.int k,b,a])/\ki H' b (TW.bL (nds zs) k)/\ki H' a (TW.bL (nds us) k)/\b≠.ref p/\a≠.ref p) (λk y H H' h ex=>?_) (λk H' c1 mk s1 L B=>?_) λys H' s1 a5 b2=>?_)}
 .let(c,b,a,e,O,h1,h2,h3,M,N):=h;have R:∀{v:V}{o:Option Nd},v≠.ref p->ki H v o->ki H' v o:=λa9 h=>by
   rcases h with h|⟨q,n,e,h,i⟩
   .show .inl h
   .show .inr {q,n,e,ex q _ (λz=>a9 (by rw[e,z])) h,i}
  show{c,b,a,e,O,ex c _ O h1,R M h2,R N h3,M,N}
 .let(T,a6,I):=(bk.same s1).optV Z k;let(U,a7,J):=(D.same s1).optV a0 k;have Q:∀{v:V}{o:Option Nd},ki H' v o->v≠.ref p:=λh e=>by
   rcases h with⟨h,_⟩|⟨q,n,i,h,_⟩
   .rw[h]at e;cases e
   .rw[i]at e;injection e with e
    let(ys,hy):=L;rw[e,hy]at h;cases h
  show{_,rfl,_,rfl,d,rfl,.inl {_,(bk.same s1).dict},_,rfl,T,a6,_,rfl,g,rfl,.inl {_,(D.same s1).dict},_,rfl,U,a7,(show 3<=sizeLine from aF (by decide)),λc r=>?_};have j:=ag (o:=.tup [.int k,T.getD .non,U.getD .non]) r;show B _ _ j ⟨c,_,_,rfl,fi L r,ac,I.same j,J.same j,Q I,Q J⟩
 .let(m,F,i,a1):=dD (val:=V.ref) (S:=λ(k:Int) (c:zv)=>RowAt H' c<|TW.jv (nds zs) (nds us) k) b2 λk y _ ⟨c,b,a,e,_,h1,h2,h3,_⟩=>⟨c,e,⟨b,a,h1,h2,h3⟩,yx k⟩;have b3:m.length=ns.length:=by rw[<-F,A1]
  have a2:kj (m.map λx=>(x.2,TW.jv (nds zs) (nds us) x.1))=ns.map (TW.jv (nds zs)<|nds us):=by
   unfold kj;rw[A7,<-F,A7];rfl
  show{p,m.map λx=>(x.2,TW.jv (nds zs) (nds us) x.1),rfl,by rw[a5,i];unfold yu;rw[A7];rfl,λe a3=>?_,by rw[A1];lia,λc H2 j r=>?_}
  .let(x,b1,rfl):=A3.mp a3;show a1 x b1
  .show q c _ H2 (s1.trans j) r ?_;have:kj ((m.map λx=>(x.2,TW.jv (nds zs) (nds us) x.1)).filter unl)=_:=rf a2;rw[this];show TW.Dy a8 λk B=>.inl<|(a4 k).mpr ?_;rcases B with h|h
   .show .inl<|oG h
   .show .inr<|oG h
inductive spChB(vs:List V)(H:Hp)(Q:VK)(E_:XK):Prop
 |mk t u zs us (_:vs=[.ref t,.ref u]) (_:Tre H t zs) (_:Tre H u us) (_:∀c es H',Same H H'->ChgAt H' c es->TW.Chg (nds zs) (nds us) (kj es)->Q (.ref c) H')
theorem EV{f:zv}{o:xl}(F:Fun K "change_between" "change_between" bC f o)(T:Txt mg)(k:Has P w K mg base 1 "parts_by_number" ["tree"] spPart)(p:Has P w K mg base 1 "unlike_entries" ["entries"] spUnl):aE P w K mg base CX0 2 f o ["one","other"] spChB:=by
 show F.okA BB λcdv A outer s H vs Q E D h=>?_
 .let(t,u,zs,us,rfl,g,j,q):=h;have a:Room 1 _:=D.mono (by decide);let(L,p2,h2):=cb2 (P:=P) (w:=w) (K:=K) (f:=f) (cdv:=cdv) (A:=A) (s:=s) (H0:=H) (E:=E) T;let(M,I,h3):=cb3 (P:=P) (w:=w) (base:=base) (f:=f) (cdv:=cdv) (A:=A) (s:=s) (H0:=H) (E:=E) a p;show{_,af (ar (i:=2) BB.nd rfl (Or.inr rfl)<|aw k a (aa (pv 0) ae))
   (af (ar (i:=3) BB.nd rfl (Or.inr rfl)<|aw k a (aa (pv 1) ae))<|af p2 (am I)),?_}
  show{_,rfl,t,zs,rfl,g,λd as H1 s1 _ bk _=>{_,rfl,u,us,rfl,j.same s1,λn bs H2 b _ m _=>?_}};show h2 _ H2 _ _ _ d n as bs zs us (bk.same b) m g.len j.len λl ns r e z G C B=>(h3 _ r _ _ d n l as bs zs us ns ((bk.same b).same e) (m.same e) g.tr j.tr z G C B λc es v J x y=>q c es v (((s1.trans b).trans e).trans J) x y)
end
def mP(a:ZR):List (Key×V):=a.map λe=>((Sum.inl e.2.k:Key),V.ref e.1)
section
variable{P:zi}{w:xr}{K:Frag}{mg:Str->Option zy}{base:qq}
inductive spBynC(vs:List V)(H:Hp)(Q:VK)(E_:XK):Prop
 |mk c es (_:vs=[.ref c]) (_:ChgAt H c es) (_:(es.map (·.2.k)).Nodup) (_:∀d H',Same H H'->H d=none->H' d=some (.dK<|mP es)->Q (.ref d) H')
theorem EW:FnScope ["tree"] ["tree"] (ak xX):=fsc
theorem BC{f:zv}{g:xl}(F:Fun K "by_number" "by_number" xX f g)(T:Txt mg):aE P w K mg base CX0 1 f g ["tree"] spBynC:=by
 show F.okA EW λcdv A outer s H vs Q E C h=>?_
 .let(c,es,rfl,a,t,q):=h;have B:=a.len;show{_,am<|ap (aD (cx rfl) rfl T.dict boot_dict<|aa (bH lcS (bE<|pv 0)
   (λs H fp=>aK<|aa (ixT K (pv 0) ai) (aa (pv 0) ae))) ae),{_,rfl,c,rfl,⟨_,SqT.of a.tup⟩,λp hp=>?_}}
  show bq (fr:=[]) es (λe=>V.ref e.1) (by lia) hp (bx<|SqT.of a.tup) rfl (CpR (λe=>Sum.inl e.2.k) (λe=>.ref e.1) p) (λ_ _ _ _ h e=>h.ext e) (λe H' D y s1 v r=>?_) λys H' s1 u x=>?_
  .let((I,G,h1,_,_),_):=(a.at' e y).same s1;show{_,rfl,e.1,_,_,_,rfl,rfl,SqT.of h1,rfl,_,rfl,le2,λq j=>r _ _ (ag j)<|CpR.new v j}
  let(b,l,m,z,n,o):=CpR.dct u x;show{p,b,rfl,l,m,by lia,by rw[n];have:=gC t;rwa [A7]at this,λd i=>?_};rw[show b.map (·.2)=mP es from o];show q d _ (s1.trans<|ag i) (s1.free i) ac
end
theorem zC{H:Hp}{d:zv}{a:ZR}(f:H d=some (.dK<|mP a))(j:(a.map (·.2.k)).Nodup)(k:Int):(∃e∈a,e.2.k=k/\dM H d (.int k) (some<|.ref e.1))\/((∀e∈a,e.2.k≠k)/\dM H d (.int k) none):=by
 have i:((a.map λe=>(e.1,({e.2.k,0,"",none}:Nd))).map (·.2.num)).Nodup:=by rw[A7];show j
 have g:mP a=ut (a.map λe=>(e.1,({e.2.k,0,"",none}))):=by unfold mP ut;rw[A7];rfl
 by_cases h:∃e∈a,e.2.k=k
 .let(e,b,rfl):=h;show .inl {e,b,rfl,.inl {mP a,Sum.inl _,.inl f,rfl,?_}};rw[g];show(vR i<|A3.mpr ⟨e,b,rfl⟩).symm
 .have h':=λe b z=>h ⟨e,b,z⟩;show .inr {h',.inl {mP a,Sum.inl k,.inl f,rfl,?_}}
  symm
  show lu λhp=>?_;unfold mP at hp;rw[A7]at hp;let(e,b,z):=A3.mp hp;have c:=z;injection c with c
  show h' e b c
end TK
namespace TB
open PySem PyProof.Rows
theorem nw:entryFor table "set.__and__"=some Builtin.«frozenset.__and__» :=
 entryFor_alias (id':="frozenset.__and__") (by kernel_rfl) rfl (by decide +kernel) (by kernel_rfl)
section
variable{prog:zi}{w:xr}{A:xx}{E:zy->zn->Prop}{s:zn}
theorem BD{a:zv}{ns:List Int}{n:Int}{q:Tok}{Q:Option Nat->zn->Prop}(f:IS w s.heap a ns)(x:ns.length<=60)(l:n∉ns)(d:Q none s):wpAny (model prog w) A (setFind a (.int n q)<|hashInt n) Q E s:=by
 let(o,es,u,t,p,v,g,S):=f;have y:=S.size;let(tk,i):=S.ent;show PySem.W.setFind_any (knd:=intKind prog w) (k:=n) (S:=λk=>decide<|k∈ns) (intKind_is _ _ _ _) rfl p g S.elems (λk=>?_) (by unfold scanBound;lia) S.fits λr c=>?_
 .rw[decide_eq_true_iff,i];constructor
  .show λb=>⟨iT tk k,A3.mpr ⟨k,b,rfl⟩,intKind_is _ _ _ _⟩
  .rintro⟨e,h,b⟩;let(m,j,rfl):=A3.mp h;rw[(intKind prog w).inj _ k m b (intKind_is _ _ _ _)];show j
 .rw[B9 l]at c;cases r with
  |none=>show d
  |some _=>cases c
theorem mQ{r d b:zv}{ms ns:List Int}{k:Obj}{e:Array (Int×zy)}{f:Nat}{m:SetTable}{id:String}{Q:PUnit->zn->Prop}(o:IS w s.heap d ms)(i:s.heap.get? b=some k)(g:k.data=.set e f m)(c:ISt w e m ns)(t:ms.length<=60)(p:∀x∈ns,x∉ms)(a:Q ⟨⟩ s):
  wpAny (model prog w) A (do
   for (a,x) in <- setWalkUnseen b [d,r] (some r) do
    holding [x] do
     if (<- setFind d x a).isSome then
      let _ <- setAddHashed r x a
    Builtin.Frozenset.unchanged id b f) Q E s:=by
 show Wb<|kP c i g ?_;let(tk,q):=c.ent;let(D,u,v):=dF (jr w b f e) q;rw[<-forIn_toList,v];show Wb ?_;show wpAny_forIn_list _ (λrest _ s'=>s'=s/\∃l:List Int,rest=l.map (iT tk)/\∀x∈l,x∉ms) _ ?_ ?_ _ _ {rfl,D,rfl,λx C=>p x<|u.mem_iff.mp C}
 .rintro⟨H,I⟩ rest n s' ⟨rfl,l,j,h⟩;cases l with
  |nil=>cases j
  |cons x l =>
   injection j with z B
   injection z with F G
   subst F G;show Wb<|wpAny_holding (Wb<|BD o t (h x B4) ?_);simp only[Option.isSome_none,C9,CO];show Wp<|Wb ?_;unfold Builtin.Frozenset.unchanged;show Wb<|wpAny_setEpoch_of i g c.fits ?_;rw[A4 (by simp)];show Wp<|Wp {rfl,l,B,λy hy=>h y<|B1 _ hy}
 .rintro n s' ⟨rfl,_⟩;show Wp a
theorem zD{a b:zv}{ms ns:List Int}{Q:zy->zn->Prop}(z:a≠b)(r:IS w s.heap a ms)(t:IS w s.heap b ns)(C:ms.length<=60)(D:ns.length<=60)(u:∀x∈ns,x∉ms)(n:∀h',(∀b o,s.heap.get? b=some o->h'.get? b=some o)->IS w h' s.heap.objs.size []->Q (.ref s.heap.objs.size) {s with heap:=h'}):wpAny (model prog w) A (binaryOp .BitAnd (.ref a)<|.ref b) Q E s:=by
 let(oa,ea,I,ta,y,B,i,g):=id r;let(f,H,J,tb,l,v,j,h):=id t;have d:s.TypeIs (.ref a) "set":=⟨oa,y,B.1⟩;have q:s.TypeIs (.ref b) "set":=⟨f,l,v.1⟩;show wpAny_binaryOp_same d q F.fills_set_and F.slot_set_and<|wpAny_call_entry F.slot_set_and d nw (Wb ?_) (F.args_set_and_2 _ _);unfold Builtin.Frozenset.slot1;show Wb<|Wp (Wp ?_);dsimp only;simp only[C9,CO];show Wb<|Wb (ip d ?_);change wpAny _ _ _ _ _ _;show ip q<|Wb ?_;change wpAny _ _ (pure a) _ _ _;show Wp<|Wb ?_;unfold Builtin.Frozenset.intersection;have G:(Value.ref b==Value.ref a)=false:=by
  rw[D5];intro e;injection e with e
  show z e.symm
 rw[G];unfold Builtin.Frozenset.baseOf;show Wb<|Wb (wpAny_isInstance (b:=true) d sub_set_self ?_);show Wp ?_;simp only[D9];show Wb<|ym λh1 c p=>(Wb ?_);change wpAny _ _ (pure s.heap.objs.size) _ _ _;show Wp<|Wb (wpAny_holding ?_);show Wb<|ip (⟨f,c b f l,v.1⟩) ?_;simp only[D9];show Wb ?_;change wpAny _ _ (pure b) _ _ _;show Wp ?_;have m:=c b f l;have k:=c a oa y;show Wb<|Wb (wpAny_setEntries_of (s:={s with heap:=h1}) m j h.fits<|Wp ?_);show Wb<|Wb (wpAny_setEntries_of (s:={s with heap:=h1}) k i g.fits<|Wp ?_)
 split
 .dsimp only;show Wb<|wpAny_setEpoch_of (s:={s with heap:=h1}) k i g.fits (mQ (s:={s with heap:=h1}) (t.at λo e=>c b o e) k i g D (λx h1 h2=>u x h2 h1)<|Wp (Wp {_,rfl,(λe=>nomatch e),n h1 c p}))
 .dsimp only;show Wb<|wpAny_setEpoch_of (s:={s with heap:=h1}) m j h.fits (mQ (s:={s with heap:=h1}) (r.at λo e=>c a o e) m j h C u<|Wp (Wp {_,rfl,(λe=>nomatch e),n h1 c p}))
end
end TB
namespace L2
open PySem PySem.Spec PyProof.Rows
section
variable{X:Cx}
theorem zE:OpR X (binaryOp .BitAnd) (λx y H Q=>∃a b,∃ms ns:List Int,x=.ref a/\y=.ref b/\a≠b/\H a=some (fw X.w a ms)/\H b=some (fw X.w b ns)/\ms.length<=60/\ns.length<=60/\(∀x∈ns,x∉ms)/\∀q,H q=none->Q (.ref q) (upd H q<|fw X.w q [])):=by
 intro pins s σ H x y v u Q I l m h;let(a,b,ms,ns,rfl,rfl,e,d,f,j,k,g,q):=h;cases l;cases m;show TB.zD e (I.intS d) (I.intS f) j k g λh' i c=>{.ref _,_,I.layS i (A8 _) c,rfl,q _<|I.hok.fresh (A8 _)}
end
end L2
namespace TK
open PySem L2
theorem zF{n:Nd}{q:zv}{c:List (zv×(zv×Nd))}(f:∃a∈c,a.2.2.num=n.num):bW (cb c) (Sum.inl n.num) (.ref q)=cb (c.map λa=>if a.2.2.num=n.num then (q,(a.2.1,n))else a):=by
 let(b,g,d):=f;unfold bW cb;rw[A6<|any_eq_true.mpr {_,A3.mpr ⟨b,g,rfl⟩,by simp[d]},A7,A7];show D4 λa h=>?_
 by_cases e:a.2.2.num=n.num
 .simp[e]
 .simp[e]
theorem uS{t u:List Nd}{a:ZR}(b:TW.Chg t u<|kj a):(a.map (·.2.k)).Nodup:=by
 have:=b.up;unfold kj at this;rw[C0]at this;unfold Nodup;rw[C0];show this.imp λb=>by lia
section
variable{P:zi}{w:xr}{K:Frag}{mg:Str->Option zy}{base:qq}
inductive spEnt(vs:List V)(H:Hp)(Q:VK)(E_:XK):Prop
 |mk t u zs us (_:vs=[.ref t,.ref u]) (_:Tre H t zs) (_:Tre H u us) (_:∀d es H',Same H H'->H' d=some (.dK<|mP es)->es.length<=60->TW.Chg (nds zs) (nds us) (kj es)->Q (.ref d) H')
theorem GE:FnScope ["one","other"] ["one","other"] (ak cG):=fsc
theorem EX{f:zv}{a:xl}(F:Fun K "entries_by_number" "entries_by_number" cG f a)(i:Has P w K mg base 1 "by_number" ["tree"] spBynC)(j:Has P w K mg base 2 "change_between" ["one","other"] spChB):aE P w K mg base CX0 3 f a ["one","other"] spEnt:=by
 show F.okA GE λcdv A outer s H vs Q E g h=>?_
 .let(t,u,zs,us,rfl,m,n,q):=h;show{_,am<|ap (aw i (g.mono (by decide))<|aa (aw j g<|aa (pv 0) (aa (pv 1) ae)) ae),{_,rfl,_,rfl,t,u,zs,us,rfl,m,n,λc es H1 s1 b e=>?_}};show{c,es,rfl,b,uS e,λd H2 l _ k=>q d es H2 (s1.trans l) k b.len e}
structure OneW(zf zo zg:ZN)(a b:Nd):Prop where
 ch:TW.Chg (nds zf) (nds zg) [⟨a.num,some a,some b⟩]
 mem:a∈nds zo
 num:b.num=a.num
theorem OneW.apart{g c l:ZN}{a b:Nd}(d:OneW g c l a b)(T:TW.Tree1<|nds c){f:List Row}(i:TW.Chg (nds g) (nds c) f){r:Row}(j:r∈f):r.k≠a.num:=λe=>by
 let(h1,h2,h3):=(i.mem r).mp j;let(h,_,_):=(d.ch.mem _).mp (B8.mpr rfl);rw[e]at h1 h2;show h3<|(h1.trans h.symm).trans ?_;rw[h2];show(TW.cy T d.mem rfl).symm
inductive spCla(vs:List V)(H:Hp)(Q:VK)(E_:XK):Prop
 |mk f o g zf zo zg a b (_:vs=[.ref f,.ref o,.ref g]) (_:Tre H f zf) (_:Tre H o zo) (_:Tre H g zg) (_:OneW zf zo zg a b) (_:∀l H',Same H H'->H' l=some (.lst [])->Q (.ref l) H')
theorem zG:FnScope ["first","one","other","mine","theirs"] ["first","one","other"] (ak iP):=fsc
theorem EY{f:zv}{t:xl}(F:Fun K "clashing" "clashing" iP f t)(T:Txt mg)(CE:Has P w K mg base 3 "entries_by_number" ["one","other"] spEnt):aE P w K mg base CX0 4 f t ["first","one","other"] spCla:=by
 show F.okA zG λcdv A outer s H vs Q E c h=>?_
 .let(r,oa,S,L,c1,c0,a,b,rfl,I,J,b3,D,q):=h;show{_,af (ar (i:=3) zG.nd rfl (Or.inr rfl)<|aw CE c (aa (pv 0)<|aa (pv 1) ae)) (af (ar (i:=4) zG.nd rfl (Or.inr rfl)<|aw CE c (aa (pv 0)<|aa (pv 2) ae))
   (am<|ap (cN (fs:=["mine","theirs"]) (js:=[3,4]) lcF (bw<|ay (gY rfl) rfl T.sorted Ee (aa (aO zE (aD eZ rfl T.set rfl<|aa (pv 3) ae)<|aD eZ rfl T.set rfl (aa (pv 4) ae)) ae))
   (λs H fp=>aq eG (cB (bv c) (pv 1) (pv 0) λ_ _=>rfl) (cB (bv c) (pv 2) (pv 0) λ_ _=>rfl)<|av _) (λs H fp=>pv 0)))),{_,rfl,_,rfl,r,oa,L,c1,rfl,I,J,λd es H1 s1 U X ch=>?_}}
  show{_,rfl,_,rfl,r,S,L,c0,rfl,I.same s1,b3.same s1,λO es2 H2 G W Y N=>?_};have ks:∀x:Int,x∈es2.map (·.2.k)->x∉es.map (·.2.k):=λx h2 h1=>by
   let(o,n,rfl):=A3.mp h2;let(R,j,e):=A3.mp h1;have:o.2∈kj es2:=A3.mpr ⟨o,n,rfl⟩;rw[show kj es2=_ from N.uniq D.ch,B8]at this;show D.apart J.tr ch (A3.mpr ⟨R,j,rfl⟩) (by rw[e,this])
  show{_,rfl,d,_,es.map (·.2.k),rfl,.inl<|G _ _ U,by unfold mP;rw[A7,A7];rfl,by rw[A1];lia,λj a1 v a9 C=>{_,rfl,O,_,es2.map (·.2.k),rfl,.inl<|bh C W,by unfold mP;rw[A7,A7];rfl,by rw[A1];lia,λn a2 B p2 g=>?_}};have le:∀{m:List Int}{es:ZR},m.Nodup->(∀x,x∈m↔x∈es.map (·.2.k))->es.length<=60->m.length<=60:=λ{m es} a0 Z u=>by
   have:=Nodup.length_le_of_subset a0 λx a6=>(Z x).mp a6;rw[A1]at this
   lia
  show{a9,p2,j,n,rfl,rfl,ao ac g,bh g ac,ac,le a1 v X,le a2 B Y,λx h2 h1=>ks x ((B x).mp h2)<|(v x).mp h1,λb1 a4=>{b1,[],rfl,ac,CI _,λns a3 _ l u=>?_}};obtain rfl:ns=[]:=List.perm_nil.mp a3;show{l,rfl,⟨_,SqL.of ac⟩,λp hp=>(cZ (α:=Int) [] V.int (CI _) hp (cr<|SqL.of ac) rfl (λ_=>true) (λz y _=>y=.int z) (λ_ _ _ _ h _=>h) (λk H' a8 mk=>nomatch mk) (λk H' a8 mk=>nomatch mk) λys M b2 a5 a7=>?_)};cases a7;show q p M (((((s1.trans G).trans (ag C)).trans (ag g)).trans ((ag a4).trans (ag u))).trans b2) a5
inductive spApp(vs:List V)(H:Hp)(Q:VK)(E_:XK):Prop
 |mk t c zs e a b (_:vs=[.ref t,.ref c]) (_:Tre H t zs) (_:ChgAt H c [(e,⟨a.num,some a,some b⟩)]) (_:a∈nds zs) (_:b.num=a.num) (_:TW.Tree1<|(nds zs).map (TW.put b)) (_:∀n∈(nds zs).map (TW.put b),iI n) (_:∀us t' H',Same H H'->Tre H' t' us->nds us=(nds zs).map (TW.put b)->Q (.ref t') H')
theorem wA:FnScope ["tree","change","parts","number","old","new","behind"] ["tree","change"] (ak jV):=fsc
theorem EZ{f:zv}{a4:xl}(F:Fun K "applied" "applied" jV f a4)(T:Txt mg)(c6:Has P w K mg base 1 "parts_by_number" ["tree"] spPart)(c7:Has P w K mg base 4 "is_tree" ["thing"] spTree):aE P w K mg base CX0 5 f a4 ["tree","change"] spApp:=by
 show F.okA wA λcdv A outer s H vs Q E u h=>?_
 .let(t,c,zs,e,a,b,rfl,a0,a5,e8,a2,N,a7,q):=h;show{_,af (ar (i:=2) wA.nd rfl (Or.inr rfl)<|aw c6 (u.mono (by decide)) (aa (pv 0) ae))
   (af (fZ PassesOwn.never rfl (bE<|pv 1) (jD (n:=3) rfl<|bO (bf (i:=3) wA.nd rfl<|Or.inl rfl) (bO (bf (i:=4) wA.nd rfl<|Or.inl rfl)<|bO (bf (i:=5) wA.nd rfl<|Or.inl rfl) ig))
    (af (aQ (aq (yr<|bv u) (lQ (bv u) (pv 2) (pv 3) ⟨rfl,rfl,rfl,rfl⟩) (pv 4)<|av _) aA ax)
    (am<|jg (bv u) (pv 2) (pv 3) (pv 5) rfl)))
   (af (ar (i:=6) wA.nd rfl (Or.inl rfl)<|aD aS rfl T.tuple rfl (aa (cN (fs:=["parts"]) (cl:=[("parts",s.heap.objs.size+1)]) (js:=[2]) lcF (bw<|ay (mI rfl) rfl T.sorted Ee (aa (pv 2) ae))
    (λs H fp=>aq oZ (cB (bv u) (pv 1) (pv 0) λ_ _=>rfl) cW<|av _) (λs H fp=>aO (r:=rCatT K) ij (aK<|aa (pv 0) ae)<|cB (bv u) (pv 1) (pv 0) (λ_ _=>rfl))) ae))
   (af (aQ (cm<|cF (aw c7 u<|aa (pv 6) ae) (λ_=>rfl)) aA ax)
   (am<|ap (pv 6))))),?_}
  have a6:=a0.len;show{_,rfl,t,zs,rfl,a0,λd as H1 s1 d3 bk O=>?_};have I:=a5.same s1;let((f2,f1,d7,G,d8),_):=I.at' _<|B8.mpr rfl;obtain⟨m,rfl,W⟩:∃m,f1=.ref m/\H1 m=some (.tup<|cj b):=by
   obtain⟨_,z⟩|⟨m,n,h1,h2,h3⟩:=d8
   .cases z
   .cases h3;show⟨m,h1,h2⟩
  generalize U:(as.map λx=>if x.2.2.num=b.num then (m,(x.2.1,b))else x)=D
  generalize a3:(zs.map λz=>if z.2.num=b.num then (z.1,b)else z)=zs'
  have b2:nds zs'=(nds zs).map (TW.put b):=by
   rw[<-a3];unfold nds;rw[A7,A7];show D4 λz _=>?_;change(if z.2.num=b.num then (z.1,b)else z).2=if z.2.num=b.num then b else z.2
   split<;>rfl
  have f3:zs'.length=zs.length:=by rw[<-au,b2,A1,au]
  rw[<-b2]at N a7 q;have c1:∀{o},Same H (upd H1 d o):=aV d3 s1;have L:Book (upd H1 d<|.dK (cb D)) d D zs':=by
   show{.inl ac,?_,λx j=>?_}
   .rw[<-U,<-a3,<-bk.of,A7,A7];show D4 λx _=>?_;change(if x.2.2.num=b.num then (m,(x.2.1,b))else x).2=if x.2.2.num=b.num then (x.2.1,b)else x.2
    split<;>rfl
   .rw[<-U]at j;let(y,hy,rfl):=A3.mp j
    split
    .change upd H1 d _ m=_;rw[aj (λe=>by rw[e,O]at W;cases W)];show W
    .have:=bk.at' y hy;rw[aj (λe=>by rw[e,O]at this;cases this)];show this
  show{_,rfl,c,rfl,⟨_,SqT.of I.tup⟩,oX (xs:=[.ref e]) (λi σ H'=>(i=0/\σ=[some<|.ref t,some<|.ref c,some<|.ref d,none,none,none,none]/\H'=H1)\/(i=1/\∃c3 c4 c5,σ=[some<|.ref t,some<|.ref c,some<|.ref d,c3,c4,c5,none]/\H'=upd H1 d (.dK<|cb D))) (.inl ⟨rfl,rfl,rfl⟩) (λi σ H' _ h=>?_) (λi x σ H' j h=>?_) λσ H' h=>?_}
  .rcases h with⟨_,_,rfl⟩|⟨_,_,_,_,_,rfl⟩
   .show SqT.of I.tup
   .show SqT.of<|c1 _ _ a5.tup
  .rcases h with⟨rfl,rfl,rfl⟩|⟨rfl,_⟩
   .cases j;let(z,v,rfl):=bZ e8;let(f0,d4,e0):=bk.get (bi a0.tr) v;show{e,_,rfl,SqT.of d7,rfl,_,_,rfl,_,_,rfl,_,_,rfl,rfl,?_};show{_,rfl,d,rfl,.inl ⟨_,.inl O⟩,_,rfl,_,d4,_,rfl,_,_,.inr ⟨f0,cj z.2,rfl,e0,rfl,mG z.2⟩,G.ot,_,rfl,?_};rw[C7 (show some (cj z.2)=Option.map cj (some z.2)from rfl)];show aM {_,rfl,_,rfl,_,rfl,d,_,rfl,qp.k (k:=Sum.inl z.2.num) O<|aU ?_,.inr {rfl,_,_,_,rfl,?_}}
    .have:=congrArg length bk.of;rw[A1]at this;unfold cb;rw[A1]
     lia
    .rw[<-U,<-zF (q:=m) (n:=b) (by
      rw[<-bk.of]at v;let(x,j,ex):=A3.mp v;show{x,j,by rw[ex,a2]}),a2]
   .cases j
  rcases h with⟨d5,_⟩|⟨_,c3,c4,c5,rfl,rfl⟩
  .cases d5
  have b3:=c1 (o:=.dK<|cb D);generalize upd H1 d (.dK<|cb D)=H' at L b3|-;have Y:=bi N;show{_,rfl,d,_,(nds zs').map (·.num),rfl,L.dict,gk L.of,Y,by rw[A1,au];lia,λms e2 e5 l a6=>?_};have d6:ms=zs'.map λz=>z.2.num:=by
   have:(nds zs').map (·.num)=zs'.map λz=>z.2.num:=by unfold nds;rw[A7];rfl
   rw[<-this];show e2.eq_of_pairwise (le:=(· < ·)) (λa b _ _ h1 h2=>by lia) e5<|C0.mpr N.rise
  rw[d6,A7];have Z:=ag (o:=.lst<|zs'.map (V.int∘λz=>z.2.num)) a6;have G:upd H' l (.lst<|zs'.map (V.int∘λz=>z.2.num)) l=some (.lst<|zs'.map (V.int∘λz=>z.2.num)):=ac;generalize upd H' l (.lst<|zs'.map (V.int∘λz=>z.2.num))=H2 at Z G|-;show{l,rfl,⟨_,SqL.of G⟩,λp hp=>?_};have a1:=L.same Z;show cZ (fr:=[some<|.ref d]) zs' (λz=>V.int z.2.num) (by lia) hp (cr<|SqL.of G) rfl (λ_=>true) (λz y H'=>∃q,y=.ref q/\q≠p/\H' q=some (.tup<|vals z.2)) (λz y H H' ⟨q,e,b1,h⟩ ex=>⟨q,e,b1,ex q _ b1 h⟩) (λz C e7 v J _ X=>?_) (λz C e7 v _ J e3 X=>?_) λys C J e1 a9=>?_
  .let(a,g,_):=(a1.same J).get Y v;show{_,rfl,_,rfl,d,_,rfl,g,rfl,_,rfl,X C<|Same.refl _}
  .show{_,rfl,(show 1<=sizeLine from aF (by decide)),λd2 I=>?_};have B:=ag (o:=.tup [.int z.2.num]) I;let(a,g,d9):=(a1.same<|J.trans B).get Y v;show{_,rfl,_,rfl,d,_,rfl,g,d2,a,_,_,rfl,rfl,SqT.of ac,SqT.of d9,by simp,(show 4<=sizeLine from aF (by decide)),λh=>absurd h<|cons_ne_nil _ _,λ_ e9 a8=>?_};show X _ _ (B.trans<|ag a8) {e9,rfl,fi (let⟨ys,e⟩:=e3;⟨ys,B _ _ e⟩) a8,ac}
  .rw[List.filter_eq_self.mpr λ_ _=>rfl]at a9;let(bs,c9,d0,d1):=dD (val:=V.ref) (S:=λ(z:zv×Nd) (q:zv)=>C q=some (.tup<|vals z.2)) a9 λz y _ ⟨q,e,_,h⟩=>⟨q,e,h⟩;show{p,_,rfl,.inl {SqL.of e1,λR e4=>?_}};have B:=ag (o:=.tup ys) e4;have M:nds (bs.map λx=>(x.2,x.1.2))=nds zs':=by rw[<-c9];unfold nds;rw[A7,A7];rfl
   have c2:Tre (upd C R<|.tup ys) R (bs.map λx=>(x.2,x.1.2)):={by rw[ac,d0,<-aN,A7];rfl,λz e6=>by
    let(x,j,rfl):=A3.mp e6;show B _ _<|d1 x j,by rw[M];show N,by rw[<-au,M,au];lia}
   show{_,rfl,R,_,rfl,c2,by rw[M];show a7,λc8 c0=>{_,rfl,aM {_,rfl,q _ R c8 ((((b3.trans Z).trans J).trans B).trans c0) (c2.same c0) M}}}
inductive spMer(vs:List V)(H:Hp)(Q:VK)(E_:XK):Prop
 |mk f o g zf zo zg a b (_:vs=[.ref f,.ref o,.ref g]) (_:Tre H f zf) (_:Tre H o zo) (_:Tre H g zg) (_:OneW zf zo zg a b) (_:TW.Tree1<|(nds zo).map (TW.put b)) (_:∀n∈(nds zo).map (TW.put b),iI n) (_:∀us t' H',Same H H'->Tre H' t' us->nds us=(nds zo).map (TW.put b)->Q (.ref t') H')
theorem Cc:FnScope ["first","one","other","mine"] ["first","one","other"] (ak mD):=fsc
theorem Fa{f:zv}{J:xl}(F:Fun K "merged" "merged" mD f J)(T:Txt mg)(Z:Has P w K mg base 4 "clashing" ["first","one","other"] spCla)(CE:Has P w K mg base 3 "entries_by_number" ["one","other"] spEnt)(Y:Has P w K mg base 2 "change_between" ["one","other"] spChB)(X:Has P w K mg base 5 "applied" ["tree","change"] spApp):aE P w K mg base CX0 6 f J ["first","one","other"] spMer:=by
 show F.okA Cc λcdv A outer s H vs Q E j h=>?_
 .let(v,oa,L,D,G,W,a,b,rfl,C,t,U,m,a4,a7,q):=h;have a9:Room 1 _:=j.mono (by decide);show{_,af (aQ (lI (aw Z (j.mono (by decide))<|aa (pv 0) (aa (pv 1)<|aa (pv 2) ae)) λ_=>rfl) aA ax)
   (af (ar (i:=3) Cc.nd rfl (Or.inr rfl)<|aw CE (j.mono (by decide)) (aa (pv 0)<|aa (pv 1) ae))
   (am<|ap (aw X j<|aa (pv 1) (aa (aD aS rfl T.tuple rfl<|aa (cN (fs:=["mine"]) (js:=[3]) lcF (bE<|aw Y (j.mono (by decide)) (aa (pv 0)<|aa (pv 2) ae))
   (λs H fp=>iB<|fJ (bv a9) (ixT K (pv 0) ai) (pv 1)) (λs H fp=>pv 0)) ae) ae)))),?_}
  show{_,rfl,_,rfl,_,rfl,v,oa,L,D,G,W,a,b,rfl,C,t,U,m,λl H1 s1 a6=>{_,.inl ⟨_,SqL.of a6,rfl⟩,aM ?_}};show{_,rfl,_,rfl,v,oa,D,G,rfl,C.same s1,t.same s1,λd es H2 b3 a5 c5 ch=>?_};have r:=s1.trans b3;show{_,rfl,_,rfl,_,rfl,v,L,D,W,rfl,C.same r,U.same r,λc I c3 R n a1=>?_};obtain⟨e,rfl⟩:∃e,I=[(e,⟨a.num,some a,some b⟩)]:=by
   let(x,O):=List.map_eq_singleton_iff.mp (show I.map (·.2)=_ from a1.uniq m.ch);show{x.1,by rw[O.1,<-O.2]}
  show{c,rfl,⟨_,SqT.of n.tup⟩,λp hp=>(cZ (α:=zv) (fr:=[some<|.ref d]) [e] V.ref (by simp) hp (bx<|SqT.of n.tup) rfl (λ_=>true) (λz y _=>y=.ref z) (λ_ _ _ _ h _=>h) (λk H' b2 mk g _ B=>?_) (λk H' b2 mk _ g _ B=>{_,rfl,B _ H' (Same.refl _) rfl}) λys c4 g a8 b1=>?_)}
  .obtain rfl:=B8.mp mk;let((c7,c6,a3,_),_):=n.at' _<|B8.mpr rfl;have a2:dM H' d (.int a.num) none:=by
    obtain⟨y,hy,u,_⟩|⟨_,h⟩:=zC (g _ _<|R _ _ a5) (uS ch) a.num
    .show absurd u<|m.apart t.tr ch (A3.mpr ⟨y,hy,rfl⟩)
    .show h
   show{_,rfl,k,_,_,_,rfl,rfl,SqT.of<|g _ _ a3,rfl,_,rfl,d,_,rfl,a2,_,rfl,B H'<|Same.refl _}
  have u:=aG (f:=V.ref) b1 λz y _ h=>h;show{p,_,rfl,.inl {SqL.of a8,λc1 N=>?_}};rw[u];have S:=(R.trans g).trans (ag (o:=.tup<|[e].map V.ref) N);have M:=n.same<|g.trans (ag (o:=.tup<|[e].map V.ref) N);show{oa,c1,G,e,a,b,rfl,t.same<|r.trans S,⟨ac,M.at',M.len⟩,m.mem,m.num,a4,a7,λus c2 a0 c0 h1 h2=>q us c2 a0 ((r.trans S).trans c0) h1 h2}
end
def n20:Nd:={20,0,"zz",none}
def n21:Nd:={21,20,"f",some 5}
def n77:Nd:={21,20,"f",some 77}
structure Two(Z O:List Nd):Prop where
 z:TW.Tree1 Z
 o:TW.Tree1 O
 zg:∀n∈Z,qV n
 og:∀n∈O,qV n
 zl:Z.length<=6
 ol:O.length<=4
def T0(Z:List Nd):List Nd:=Z++[n20,n21]
def Gf(Z O:List Nd):List Nd:=T0 Z++O.map (TW.grN 20 21)
def Wg(Z O:List Nd):List Nd:=(Gf Z O).map (TW.put n77)
theorem jA{n:Nd}(h:qV n):n.nm≠"zz"/\n.nm≠"f"/\n.nm≠"top":=by
 let(_,_,h,_):=h;rcases h with h|h|h|h<;>rw[h]<;>decide +kernel
theorem tu(Z:List Nd)(n:Nd)(h:n∈T0 Z):n∈Z\/n=n20\/n=n21:=by
 unfold T0 at h;simpa using h
theorem Fb{t:List Nd}(T:TW.Tree1 t):shT 20 21 t=t.map (TW.grN 20 21):=D4 λn a=>by
 change(⟨shf 20 21 n.num,_,_,_⟩:Nd)=_;rw[ly<|T.pos n a];rfl
section
variable{Z O:List Nd}
theorem jB(f:Two Z O):TW.Tree1 (T0 Z):=by
 have a:TW.Tree1 (Z++[n20]):=TW.made f.z (n:=n20) (FL _ _) (pairwise_append.mpr {f.z.rise,List.pairwise_singleton _ _,λa c b g=>by
  rw[B8.mp g];have:=(f.zg a c).2.1;change a.num<20
  lia}) (by decide) (Or.inl rfl) λm d ⟨_,e⟩=>(jA<|f.zg m d).1 e
 have e:T0 Z=(Z++[n20])++[n21]:=by unfold T0;simp
 rw[e];show TW.made a (n:=n21) (FL _ _) (pairwise_append.mpr {a.rise,List.pairwise_singleton _ _,λa c b g=>?_}) (by decide) (Or.inr ⟨n20,by simp,rfl,rfl⟩) λm d ⟨_,e⟩=>?_
 .rw[B8.mp g];change a.num<21;rcases C6.mp c with c|c
  .have:=(f.zg a c).2.1;lia
  .rw[B8.mp c];decide
 .rcases C6.mp d with d|d
  .show(jA<|f.zg m d).2.1 e
  .rw[B8.mp d]at e;show absurd e (by decide +kernel)
theorem uT(b:Two Z O):∀n∈T0 Z,n.num<=21:=λn a=>by
 rcases tu Z n a with a|rfl|rfl
 .have:=(b.zg n a).2.1;lia
 .decide
 .decide
theorem zH(b:Two Z O){n:Nd}(a:n∈T0 Z)(e:n.par=20):n=n21:=by
 rcases tu Z n a with a|rfl|rfl
 .rcases TW.gD b.z a with c|⟨m,d,c⟩
  .lia
  .have:=(b.zg m d).2.1;lia
 .cases e
 .rfl
theorem zI:TW.Fold (T0 Z) 20:=.inr {n20,by unfold T0;simp,rfl,rfl}
theorem ia(a:Two Z O):TW.Tree1 (Gf Z O):=TW.Ba (jB a) a.o zI (uT a) (by decide) ((TW.wg (jB a) a.o zI (uT a) (by decide)).mpr λm b _ n c e z=>by
 rw[zH a c e]at z;show(jA<|a.og m b).2.1 z.symm)
theorem GF{n:Nd}(a:n∈Gf Z O):n∈Z\/n=n20\/n=n21\/∃m∈O,n=TW.grN 20 21 m:=by
 rcases C6.mp a with a|a
 .rcases tu Z n a with a|a|a
  .show .inl a
  .show .inr<|.inl a
  .show .inr<|.inr (.inl a)
 .let(m,b,e):=A3.mp a;show .inr<|.inr (.inr ⟨m,b,e.symm⟩)
theorem zJ{m:Nd}(h:m∈O):TW.grN 20 21 m∈Gf Z O:=CH _<|A3.mpr ⟨m,h,rfl⟩
theorem mR:n20∈Gf Z O:=CT _ (by unfold T0;simp)
theorem tD:n21∈Gf Z O:=CT _ (by unfold T0;simp)
theorem Fc(h:Two Z O):∀n∈Gf Z O,iI n/\n.num<=33/\n.nm≠"top":=λn f=>by
 rcases GF f with f|rfl|rfl|⟨m,j,rfl⟩
 .show{(h.zg n f).ok,by have:=(h.zg n f).2.1;lia,(jA<|h.zg n f).2.2}
 .show{{by decide,by decide,by unfold jR n20;simp,λi e=>by cases e},by decide,by decide +kernel}
 .show{{by decide,by decide,by unfold jR n21;simp,λi e=>by cases e;decide},by decide,by decide +kernel}
 .have g:=h.og m j;let(a,b,c,d):=g.ok;have:=g.2.1;show{{by change 1<=m.num+21;lia,by change m.num+21<=60;lia,c,d},by change m.num+21<=33;lia,(jA g).2.2}
theorem rL(h:Two Z O):(Gf Z O).length<=12:=by
 have:=h.zl;have:=h.ol;unfold Gf T0;rw[B0,B0,A1];change _+2+_<=12
 lia
structure Ord(O ns:List Nd):Prop where
 perm:ns.Perm O
 ord:∀i n,ns[i]?=some n->n.par=0\/n.par∈(ns.take i).map (·.num)
def mkD(n:Nd):TW.Deed Str:=.make (n.num+21) (if n.par=0 then 20 else n.par+21) n.nm n.st
def Us(Z O ns:List Nd)(i:Nat):List Nd:=(Gf Z O).filter λm=>decide (m.num<=21)||decide (m.num-21∈(ns.take i).map (·.num))
theorem fA{ns:List Nd}{i:Nat}{m:Nd}:m∈Us Z O ns i↔m∈Gf Z O/\(m.num<=21\/m.num-21∈(ns.take i).map (·.num)):=by
 unfold Us;rw[CF,or_eq_true,C8,C8]
theorem uU{t:List Nd}(h:TW.bV t):t.Nodup:=h.imp λh e=>by rw[e]at h;lia
theorem jC(h:Two Z O)(ns:List Nd)(i:Nat):TW.bV (Us Z O ns i):=(ia h).rise.sublist D1
theorem GH(b:Two Z O)(ns:List Nd):Us Z O ns 0=T0 Z:=TW.eP (jC b ns 0) (jB b).rise λx=>by
 rw[fA];constructor
 .rintro⟨a,e⟩;rcases C6.mp a with a|a
  .show a
  .let(m,c,rfl):=A3.mp a;have:=b.o.pos m c;rcases e with e|e
   .show absurd (show m.num+21<=21 from e) (by lia)
   .simp at e
 .show λa=>{CT _ a,.inl<|uT b x a}
theorem GJ(b:Two Z O){ns:List Nd}(o:Ord O ns):Us Z O ns ns.length=Gf Z O:=TW.eP (jC b ns _) (ia b).rise λx=>by
 rw[fA,take_length];constructor
 .show λa=>a.1
 .intro a;show{a,?_};rcases C6.mp a with a|a
  .show .inl<|uT b x a
  .let(m,c,rfl):=A3.mp a;show .inr<|A3.mpr {m,o.perm.mem_iff.mpr c,by change m.num=m.num+21-21;lia}
theorem uV(b:Two Z O){ns:List Nd}(o:Ord O ns){i:Nat}{n:Nd}(f:ns[i]?=some n):TW.Told (Us Z O ns i) (mkD n) (.inr<|Us Z O ns (i+1)):=by
 have G:=ia b;have j:=o.perm.mem_iff.mp<|C3 f;have k:TW.grN 20 21 n∈Gf Z O:=zJ j;have D:=b.o.pos n j;let(C,B):=A9.mp f;have r:ns.take (i+1)=ns.take i++[n]:=by rw[take_add_one,f];rfl
 have w:(ns.map (·.num)).Nodup:=(o.perm.map _).nodup_iff.mpr (bi b.o);have fresh:n.num∉(ns.take i).map (·.num):=λz=>by
  have s:((ns.take<|i+1).map (·.num)).Nodup:=w.sublist<|(take_sublist _ _).map _;rw[r,CG,nodup_append]at s;show s.2.2 _ z n.num (by simp) rfl
 have p:¬TW.gQ (Us Z O ns i) (n.num+21):=λ⟨m,c,e⟩=>by
  obtain⟨_,h|h⟩:=fA.mp c
  .lia
  .rw[e,Int.add_sub_cancel]at h;show fresh h
 show .made p ?_ (λm c ⟨t,u⟩=>?_) ((List.perm_ext_iff_of_nodup (uU<|jC b ns _)<|E7.mpr {λz=>p ⟨_,z,rfl⟩,uU<|jC b ns i}).mpr λa=>?_)<|jC b ns _
 .rcases o.ord i n f with e|e
  .rw[A6 e];show .inr {n20,fA.mpr {mR,.inl (by decide)},rfl,rfl}
  .let(m,c,q):=A3.mp e;have l:=o.perm.mem_iff.mp<|List.mem_of_mem_take c;have:=b.o.pos m l;rw[A4 (by lia)];obtain A|⟨y,hy,ys,ey⟩:=TW.jO b.o j
   .lia
   .obtain rfl:=b.o.inj hy l<|ey.trans q.symm;show .inr {TW.grN 20 21 y,fA.mpr {zJ l,.inr<|A3.mpr {y,c,by change y.num=y.num+21-21;lia}},ys,by change y.num+21=n.par+21;rw[q]}
 .have v:=(fA.mp c).1;have e:m=TW.grN 20 21 n:=wd (g:=λx:Nd=>(x.par,x.nm)) G.own v k<|Prod.ext t u;show p {m,c,by rw[e];rfl}
 .rw[B3,fA,fA,r,CG,C6];constructor
  .rintro⟨d,e|e|e⟩
   .show .inr ⟨d,.inl e⟩
   .show .inr ⟨d,.inr e⟩
   .show .inl<|G.inj d k ?_;have:a.num-21=n.num:=by simpa using e
    change a.num=n.num+21
    lia
  .rintro(e|⟨d,e|e⟩)
   .rw[e];show{k,.inr<|.inr (by simp)}
   .show{d,.inl e}
   .show{d,.inr<|.inl e}
theorem uW(f:Two Z O){n:Nd}(h:n∈O):dc (mkD n)/\zB (mkD n):=by
 let((a,b,c,d),_):=Fc f _<|zJ (Z:=Z) h;show{{a,b,?_,?_,c,d},trivial}
 .rcases TW.gD f.o h with e|⟨m,g,e⟩
  .rw[A6 e];decide
  .have:=f.o.pos m g;rw[A4 (by lia)];lia
 .rcases TW.gD f.o h with e|⟨m,g,e⟩
  .rw[A6 e];decide
  .have:=f.o.pos m g;have:=(f.og m g).2.1;rw[A4 (by lia)];lia
theorem pU:TW.Told (Gf Z O) (.write 21 77) (.inr<|Wg Z O):=.wrote (y:=n21) tD rfl (by decide)
theorem Cd{n:Nd}(a:n∈Wg Z O):n=n77\/n∈Gf Z O/\n.num≠21:=by
 let(m,b,rfl):=A3.mp a
 by_cases e:m.num=21
 .show .inl<|TW.cK e
 .rw[TW.bj e];show .inr ⟨b,e⟩
theorem pV(h:Two Z O):TW.Tree1 (Wg Z O):=pU.tree (ia h) trivial
theorem GK(b:Two Z O):∀n∈Wg Z O,iI n/\n.num<=33/\n.nm≠"top":=λn a=>by
 rcases Cd a with rfl|⟨a,_⟩
 .show{{by decide,by decide,by unfold jR n77;simp,λi e=>by cases e;decide},by decide,by decide +kernel}
 .show Fc b n a
theorem BE:n77∈Wg Z O:=A3.mpr ⟨n21,tD,rfl⟩
theorem Hv(p:Two Z O){d g f:ZN}(h:nds d=T0 Z)(l:nds g=Gf Z O)(i:nds f=(T0 Z).map (TW.put n77)):OneW d g f n21 n77:=by
 have T:=jB p;have a:n21∈T0 Z:=by unfold T0;simp
 have b:TW.Tree1 ((T0 Z).map (TW.put n77)):=(TW.Told.wrote (y:=n21) a rfl (by decide):TW.Told (T0 Z) (.write 21 77) _).tree T trivial;have c:n77∈(T0 Z).map (TW.put n77):=A3.mpr ⟨n21,a,rfl⟩;show{?_,by rw[l];show tD,rfl};rw[h,i];show{List.pairwise_singleton _ _,λr=>?_};rw[B8];constructor
 .rintro rfl;show{(TW.cy T a rfl).symm,(TW.cy b c rfl).symm,by simp[n21,n77]}
 .rintro⟨h1,h2,h3⟩;have e:r.k=21:=Classical.byContradiction λz=>h3<|h1.trans ((TW.vW T b (k:=r.k) λm j=>TW.AQ (by rw[j];show z)).symm.trans h2.symm);let(k,o,n):=r;obtain rfl:k=21:=e;rw[show o=some n21 from h1.trans<|TW.cy T a rfl,show n=some n77 from h2.trans<|TW.cy b c rfl];rfl
end
section
variable{P:zi}{w:xr}{K:Frag}{mg:Str->Option zy}{base:qq}
inductive spPof(vs:List V)(H:Hp)(Q:VK)(E:XK):Prop
 |mk t zs z p (_:vs=[.ref t,.int z.2.num]) (_:Tre H t zs) (_:z∈zs) (_:TW.PathTo (nds zs) z.2.num p) (_:∀t' H',Same H H'->H' t'=some (.tup<|p.map V.str)->Q (.ref t') H')
theorem Ce:FnScope ["tree","number","nodes"] ["tree","number"] (ak Dt):=fsc
theorem Fd{f:zv}{c:xl}(F:Fun K "path_of" "path_of" Dt f c)(j:Has P w K mg base 1 "by_number" ["tree"] spByn)(CN:Has P w K mg base 1 "node_of" ["nodes","number"] spNof)(k:Has P w K mg base 1 "path_up" ["nodes","number"] spPup):
  aE P w K mg base CX0 2 f c ["tree","number"] spPof:=by
 show F.okA Ce λcdv A outer s H vs Q E b h=>?_
 .let(t,zs,z,p,rfl,a,m,hp,q):=h;have e:=bi a.tr;have r:=a.len;show{_,af (ar (i:=2) Ce.nd rfl (Or.inl rfl)<|aw j b (aa (pv 0) ae))
   (af (aZ<|aw CN b (aa (pv 2)<|aa (pv 1) ae))
   (am<|ap (aw k b<|aa (pv 2) (aa (pv 1) ae)))),?_}
  show{_,rfl,t,zs,rfl,a.tup,a.nod,by lia,e,λd H1 s1 g=>?_};show{_,rfl,_,rfl,d,zs,z,rfl,g,e,m,_,rfl,_,rfl,d,_,zs,p,rfl,g,a.nod.same s1,a.tr,by lia,hp,λo H2 n l=>q o H2 (s1.trans n) l}
inductive spDep(vs:List V)(H:Hp)(Q:VK)(E:XK):Prop
 |mk t zs z p (_:vs=[.ref t,.int z.2.num]) (_:Tre H t zs) (_:z∈zs) (_:TW.PathTo (nds zs) z.2.num p) (_:∀H',Same H H'->Q (.int p.length) H')
theorem GL:FnScope ["tree","number"] ["tree","number"] (ak iR):=fsc
theorem Fe{f:zv}{a:xl}(F:Fun K "depth_of" "depth_of" iR f a)(T:Txt mg)(b:Has P w K mg base 2 "path_of" ["tree","number"] spPof):aE P w K mg base CX0 3 f a ["tree","number"] spDep:=by
 show F.okA GL λcdv A outer s H vs Q E c h=>?_
 .let(t,zs,z,p,rfl,i,e,hp,q):=h;show{_,am<|ap (ay aP rfl T.len F3<|aa (aw b c<|aa (pv 0) (aa (pv 1) ae)) ae),?_};show{_,rfl,_,rfl,t,zs,z,p,rfl,i,e,hp,λg H' s' d=>{g,_,rfl,.inr<|SqT.of d,?_}};rw[A1];show q H' s'
end
def eQ(k:Int)(z:zv×Nd):Bool:=decide<|z.2.par=k
def wB:Str:=("children"++".<locals>.")++"<lambda>"
inductive spKeyC(c:zv)(vs:List V)(H:Hp)(Q:VK)(E_:XK):Prop
 |mk (z:zv×Nd) (_:vs=[.ref z.1]) (_:H z.1=some (.tup<|vals z.2)) (_:H c=some (.ext<|cdφ c wB)) (_:Q (.str z.2.nm) H)
theorem Cf:FnScope ["tree","number","members"] ["tree","number"] (ak iS):=fsc
def Ff(H:Hp)(v:V):Str:=match v with
 |.ref a=>match H a with
  |some (.tup [_,_,.str x,_])=>x
  |_=>""
 |_=>""
theorem uX{H:Hp}{z:zv×Nd}(h:H z.1=some (.tup<|vals z.2)):Ff H (.ref z.1)=z.2.nm:=by
 change(match H z.1 with
  |some (.tup [_,_,.str x,_])=>x
  | _=>"")=_
 rw[h];rfl
theorem tE{zs:ZN}(c:TW.bY<|nds zs)(k:Int):((zs.filter<|eQ k).map λz=>z.2.nm).Nodup:=by
 unfold TW.bY nds at c;rw[A7]at c;unfold Nodup at c|-;rw[C0]at c|-;show(c.sublist D1).imp_of_mem λ{a b} g i h e=>h ?_;have d:a.2.par=k:=by simpa [eQ]using (CF.mp g).2
 have f:b.2.par=k:=by simpa [eQ]using (CF.mp i).2
 change(a.2.par,a.2.nm)=(b.2.par,b.2.nm);rw[d,f,e]
section
variable{P:zi}{w:xr}{K:Frag}{mg:Str->Option zy}{base:qq}{f c0 Pt:zv}
inductive spChk(Pt:zv)(vs:List V)(H:Hp)(Q:VK)(E_:XK):Prop
 |mk t k zs (_:vs=[.ref t,.int k]) (_:Tre H t zs) (_:Fold zs k) (_:dY H Pt wB) (_:∀l (ns:List Int) H',fz Pt H H'->dY H' Pt wB->ns.Perm (nums<|zs.filter (eQ k))->H' l=some (.lst<|ns.map V.int)->Q (.ref l) H')
theorem Fg{G:xl}(F:Fun K "children" "children" iS f G)(r:G.code=.ref c0)(T:Txt mg)(a3:CodeHd base c0 Pt)(a2:BmB base mg)(a4:Has P w K mg base 1 "by_number" ["tree"] spByn)(a5:Has P w K mg base 2 "check_folder" ["nodes","number"] spCFk):aE P w K mg base CX0 4 f G ["tree","number"] (spChk Pt):=by
 show F.okT r Cf (λvs H Q E h=>by let(t,k,zs,rfl):=h;rfl) λA outer s H vs Q E u h=>?_
 .let(t,k,zs,rfl,j,l,a8,q):=h;have S:=j.len;have U:=bi j.tr;have c5:Room 1 _:=u.mono (by decide);have c6:Room 2 _:=u.mono (by decide);show{_,af (aZ<|aw a5 c6 (aa (aw a4 c5<|aa (pv 0) ae)<|aa (pv 1) ae))
   (af (AJ (fs:=["number"]) (js:=[1]) (ii:=2) lcF Cf.nd (bE<|pv 0) (λs H fp=>aq cT (ixT K (pv 0) ai) (pv 1)<|av _) λs H fp=>pv 0)
   (am<|ap (bH lcS (bw<|yM (k:=1) (y:="node") (qual:=wB) (spK:=λf c=>spKeyC c) (key:=Ff) a3 rfl a2 rfl rfl rfl ?hK ?hbn u rfl T.sorted (pv 2)) λs H fp=>ixT K (pv 0) ai))),?_}
  case hK =>
   intro d2 b1 c pm ctv sub c1;show uB (k:=0) (fs:=[]) (fv:=[]) c1 (λvs H Q E h=>?_) {rfl,rfl,rfl,by decide +kernel,λx I=>?_,by decide +kernel,λx h=>?_,λx y c h=>by simp at h} {λx c h=>by simp at h,rfl,λi x v h=>by simp at h} (λvs H Q E h=>?_) λA outer s H vs Q E u h=>?_
   .let(z,_,_,h,_):=h;show h
   .have:x="node":=by simpa using I
    subst this;rfl
   .show absurd rfl<|(by decide +kernel:∀y∈_,y.2≠NameKind.free) _ (CK h)
   .let(z,rfl,_):=h;rfl
   .let(z,rfl,a,r,q):=h;show{_,ixT K (pv 0) ai,_,rfl,z.1,_,_,_,rfl,rfl,SqT.of a,at2 z.2,q}
  case hbn=>show λpm ctv c=>.all λus S=>match us,S with | [_],_=>rfl
  show{_,rfl,t,zs,rfl,j.tup,j.nod,by lia,U,λd H1 s1 c9=>{_,rfl,d,k,zs,rfl,c9,j.nod.same s1,U,l,?_}};have Y:=s1 _ _ j.tup;show{_,rfl,t,rfl,⟨_,SqT.of Y⟩,λp hp=>?_};show cZ (fr:=[some<|.int k]) zs (λz=>V.ref z.1) (by lia) hp (bx (by rw[aN];show SqT.of Y)) rfl (eQ k) (λz y _=>y=.ref z.1) (λ_ _ _ _ h _=>h) (λz H' Z B C _ l=>?_) (λz H' Z B _ C _ l=>{_,rfl,l _ H' (Same.refl _) rfl}) λys H2 C c2 c7=>?_
  .show{_,rfl,z.1,_,_,_,rfl,rfl,SqT.of<|C _ _ (s1 _ _<|j.nod z B),at1 z.2,_,rfl,rfl,_,rfl,?_};rw[show decide (V.int z.2.par=V.int k)=eQ k z by unfold eQ;simp];show l H'<|Same.refl _
  have L:=s1.trans C;have b3:(zs.filter<|eQ k).length<=zs.length:=D0 _ _;have O:H2 p=some (.lst<|(zs.filter<|eQ k).map λz=>V.ref z.1):=by rw[c2,aG (f:=λz:zv×Nd=>V.ref z.1) c7 λz y _ h=>h]
  have X:=tE j.tr.own k;have R:∀z∈zs.filter (eQ k),H2 z.1=some (.tup<|vals z.2):=λz a=>L _ _<|j.nod z (CF.mp a).1;generalize zs.filter (eQ k)=ms at O X R b3 q|-;have a1:=bM a8 L;show{_,rfl,p,_,rfl,O,by rw[A1];lia,a1,λb1 c N a0 d0 r=>?_};have m:∀z∈ms,N z.1=some (.tup<|vals z.2):=λz a=>fc a1 a0 (R z a) λps h=>nomatch h;show{?_,λx I=>?_,λa6 d1 hp d3 b2=>?_}
  .rw[A7,D4 (f:=Ff N∘λz:zv×Nd=>V.ref z.1) (g:=λz:zv×Nd=>z.2.nm) λz a=>uX<|m z a];show X
  .let(z,a,rfl):=A3.mp I;show{z,rfl,m z a,r,by rw[uX<|m z a],rfl}
  let(us,a9,J):=cV hp rfl;have M:=ag (o:=.lst d1) b2;show{a6,rfl,⟨_,SqL.of ac⟩,λp2 c3=>?_};show bq (fr:=[]) us (λz=>V.ref z.1) (by rw[J.length_eq];lia) c3 (cr (by rw[a9];show SqL.of ac)) rfl (λz y _=>y=.int z.2.num) (λ_ _ _ _ h _=>h) (λz H2 Z B D _ l=>{_,rfl,z.1,_,_,_,rfl,rfl,SqT.of<|D _ _ (M _ _<|m z (J.mem_iff.mp B)),at0 z.2,l _ H2 (Same.refl _) rfl}) λd4 a7 D c4 c8=>?_;show q p2 (nums us) a7 (λb o n e=>D _ _<|M _ _ (a0 b o n<|L _ _ e)) (bM (bM d0 M) D) (J.map _) (by rw[c4,aG (f:=λz:zv×Nd=>V.int z.2.num) c8 λz y _ h=>h];unfold nums;rw[A7];rfl)
end
theorem oS(x:Str):∀l:List Str,HT.cJ l (l++[x])=true
 |[]=>rfl
 |a::l=>by rw[cons_append,HT.dA,A6 rfl];show oS x l
theorem Fh{H:Hp}{os:ZN}{f:List Cp}(T:TW.Tree1<|nds os)(w:Wl H os f):∃ns,Ord (nds os) ns/\ns.map (·.num)=f.map (·.n):=by
 have X:∀f:List Cp,(∀c∈f,∃n∈nds os,n.num=c.n)->∃ns:List Nd,ns.map (·.num)=f.map (·.n)/\∀n∈ns,n∈nds os:=by
  intro f
  induction f with
  |nil=>show λ_=>{[],rfl,by simp}
  |cons c f R =>
   intro h;let(n,r,e):=h c (by simp);let(ns,o,J):=R λx Q=>h x (by simp[Q]);show{n::ns,by rw[CM,CM,e,o],by simpa using ⟨r,J⟩}
 have A:∀c∈f,TW.PathTo (nds os) c.n c.p:=λc g=>by
  let(z,_,_,hp):=(w.mem c.p c.n).mp ⟨c,g,rfl,rfl⟩;show hp
 let(ns,j,y):=X f λc g=>by
  let(z,u,e,_):=(w.mem c.p c.n).mp ⟨c,g,rfl,rfl⟩;show{z.2,bK u,e}
 have W:(f.map (·.n)).Nodup:=by
  unfold Nodup;rw[C0];show w.up.imp_of_mem λ{a b} k s h e=>?_;rw[(A a k).uniq T (e ▸ A b s),HT.ci]at h;cases h
 have B:∀m∈nds os,∀p,TW.PathTo (nds os) m.num p->∃c∈f,c.p=p/\c.n=m.num:=λm t p hp=>by
  let(z,u,rfl):=bZ t;show(w.mem p z.2.num).mpr ⟨z,u,rfl,hp⟩
 have I:∀{l:List Nd},(l.map (·.num)).Nodup->l.Nodup:=λh=>Pairwise.of_map _ (λa b n e=>n<|congrArg _ e) h;show{ns,{(List.perm_ext_iff_of_nodup (I (j ▸ W))<|I (bi T)).mpr λa=>{y a,λk=>?_},λi n hi=>?_},j}
 .let(p,hp):=TW.PathTo.ex T k;let(c,g,_,e):=B a k p hp;have:a.num∈ns.map (·.num):=by rw[j,<-e];show A3.mpr ⟨c,g,rfl⟩
  let(b,s,K):=A3.mp this
  rwa [<-T.inj (y b s) k K]
 .have r:=y n<|C3 hi;rcases TW.gD T r with e|⟨m,t,C⟩
  .show .inl e
  .have o:(f.map (·.n))[i]?=some n.num:=by rw[<-j,B7,hi];rfl
   rw[B7]at o;let(c,g,L):=map_eq_some_iff.mp o;have V:=C3 g;let(q,O,G):=(A c V).inv T r L;rw[<-C]at G;let(d,P,M,N):=B m t q G;let(v,F):=List.mem_iff_getElem?.mp P;have lt:HT.cJ d.p c.p=true:=by rw[M,O];show oS _ q
   show .inr ?_;rw[List.map_take,j,<-List.map_take,<-C,<-N];show A3.mpr {d,List.mem_iff_getElem?.mpr {v,?_},rfl};let(S,D):=A9.mp g;let(U,E):=A9.mp F;rcases lt_trichotomy v i with h|h|h
   .rw[List.getElem?_take_of_lt h];show F
   .subst h;rw[<-D,<-E,HT.ci]at lt;cases lt
   .have:=D2.mp w.up i v S U h;rw[D,E]at this;have:=HT.jn this lt;rw[HT.ci]at this;cases this
section
variable{Z O:List Nd}
def nT(k:Int):Nd:={k,0,"top",none}
def Vf(Z O:List Nd)(k:Int):List Nd:=(Wg Z O).map (TW.put<|nT k)
section
variable{y:Nd}(h:Two Z O)(hy:y∈Gf Z O)(hp:y.par=20)(hs:y.st=none)
include h hy hp hs
theorem y_w:y∈Wg Z O:=A3.mpr {y,hy,TW.bj λe=>by
 have:=(ia h).inj hy tD e;rw[this]at hs;cases hs}
theorem pW:TW.Told (Wg Z O) (.move y.num 0 "top") (.inr<|Vf Z O y.num):=by
 have:=TW.Told.moved (p:=0) (nm:=("top":Str)) (y_w h hy hp hs) rfl (.inl rfl) (λe=>absurd rfl e) λm a _ ⟨_,e⟩=>(GK h m a).2.2 e
 rwa [hs]at this
theorem mS{n:Nd}:n∈Vf Z O y.num↔n=nT y.num\/n∈Wg Z O/\n.num≠y.num:=by
 unfold Vf;rw[A3];constructor
 .rintro⟨m,a,rfl⟩
  by_cases e:m.num=y.num
  .show .inl<|TW.cK e
  .rw[TW.bj (z:=nT y.num) e];show .inr ⟨a,e⟩
 .rintro(rfl|⟨a,e⟩)
  .show{y,y_w h hy hp hs,TW.cK rfl}
  .show{n,a,TW.bj e}
theorem BF:TW.PathTo (Vf Z O y.num) y.num [("top":Str)]:=.node (n:=nT y.num) ((mS h hy hp hs).mpr (.inl rfl)) .top
theorem rM(n:Nd):TW.Reach (Vf Z O y.num) y.num n↔TW.Reach (Gf Z O) y.num n:=by
 have G:=ia h;have j:=G.pos y hy;have b:y.num≠20:=λe=>by
  have:=G.inj hy mR e;rw[this]at hp;cases hp
 have same:∀n:Nd,n.num≠y.num->n.num≠21->(n∈Vf Z O y.num↔n∈Gf Z O):=λn h1 h2=>by
  rw[mS h hy hp hs];constructor
  .rintro(rfl|⟨a,_⟩)
   .show absurd rfl h1
   .rcases Cd a with rfl|⟨a,_⟩
    .show absurd rfl h2
    .show a
  .show λa=>.inr ⟨A3.mpr ⟨n,a,TW.bj h2⟩,h1⟩
 have c:∀{t:List Nd}{n:Nd},TW.Tree1 t->n20∈t->TW.Reach t y.num n->n.num≠20:=λ{t n} T g r e=>by
  obtain rfl:=T.inj r.mem g e;cases r with
  |base _ e=>have:(0:Int)=y.num:=e;lia
  |@step m _ hr _ _ e=>have:=T.pos m hr.mem;have:(0:Int)=m.num:=e;lia
 have V:=(pW h hy hp hs).tree (pV h) trivial;have i:n20∈Vf Z O y.num:=(same n20 (CD b) (by decide)).mpr mR;have d:n77∈Vf Z O y.num:=(mS h hy hp hs).mpr (.inr {BE,λe=>by
  have:=G.inj tD hy e;rw[<-this]at hs;cases hs})
 have f:nT y.num∈Vf Z O y.num:=(mS h hy hp hs).mpr (.inl rfl);constructor
 .intro r
  induction r with
  |@base n hn e =>
   show .base ((same n (λz=>?_) λz=>?_).mp hn) e
   .have:=V.inj hn f z;rw[this]at e;have:(0:Int)=y.num:=e
    lia
   .have:=V.inj hn d z;rw[this]at e;show b e.symm
  |@step m n hr hf hn e ih =>
   show .step ih hf ((same n (λz=>?_) λz=>?_).mp hn) e
   .have:=V.inj hn f z;have pm:=V.pos m hr.mem;rw[this]at e;have:(0:Int)=m.num:=e
    lia
   .have:=V.inj hn d z;rw[this]at e;show c V i hr e.symm
 .intro r
  induction r with
  |@base n hn e =>
   show .base ((same n (λz=>?_) λz=>?_).mpr hn) e
   .have:=G.inj hn hy z;rw[this,hp]at e;show b e.symm
   .have:=G.inj hn tD z;rw[this]at e;show b e.symm
  |@step m n hr hf hn e ih =>
   show .step ih hf ((same n (λz=>?_) λz=>?_).mpr hn) e
   .have:=G.inj hn hy z;rw[this,hp]at e;show c G mR hr e.symm
   .have:=G.inj hn tD z;rw[this]at e;show c G mR hr e.symm
theorem Fi:TW.km (Vf Z O y.num) y.num=TW.km (Gf Z O) y.num :=
 TW.eP (TW.iq ((pW h hy hp hs).tree (pV h) trivial).rise _) (TW.iq (ia h).rise _) λn=>by
  rw[TW.dG,TW.dG];show{λ⟨m,a,b⟩=>{m,(rM h hy hp hs m).mp a,b},λ⟨m,a,b⟩=>{m,(rM h hy hp hs m).mpr a,b}}
end
theorem zK(d:Two Z O):TW.Told (Wg Z O) (.drop 20) (.inr<|(TW.woT (Wg Z O) 20).filter λn=>!decide (n.num=20)):=by
 have T:=pV d;have f:n20∈Wg Z O:=A3.mpr ⟨n20,mR,rfl⟩;have e:(TW.woT (Wg Z O) 20).filter (λn=>!decide (n.num=20))=(Wg Z O).filter λn=>@decide (¬TW.Und (Wg Z O) 20 n.num) (Classical.propDecidable _):=TW.eP ((TW.ri T.rise 20).sublist D1) (T.rise.sublist D1) λn=>by
  rw[CF,TW.dX,CF,not_eq_true',decide_eq_false_iff_not,@decide_eq_true_iff _<|Classical.propDecidable _];constructor
  .rintro⟨⟨a,b⟩,c⟩;show{a,λu=>b<|(TW.eE T (by decide) a).mpr ⟨c,u⟩}
  .rintro⟨a,b⟩;show{{a,λu=>b ((TW.eE T (by decide) a).mp u).2},λe=>b (by rw[e];show .here)}
 rw[e];show .dropped ⟨n20,f,rfl⟩ λm g=>@decide_eq_true_iff _<|Classical.propDecidable _
end
end TK
namespace L2
open PySem PySem.Spec PyProof.Rows
theorem wC{X:Cx}:MtM X "list.index" (λx vs H Q=>∃l j y,∃bs:List Str,x=.ref l/\vs=[.str y]/\H l=some (.lst<|bs.map V.str)/\bs.length<=1000/\bs[j]?=some y/\(∀m,m<j->∀z,bs[m]?=some z->z≠y)/\Q (.int (j:Nat)) H):=by
 intro pins s σ H x vs v us Q I p o h;let(l,j,y,bs,rfl,rfl,f,B,c,g,q):=h;cases p;let(u,rfl,ty,rfl):=cD o;let(_,its,n,r,a):=I.hok l _ f;let(t,e,tl):=rg r;subst e;let(w,d):=A9.mp c;show call_meets PySem.F.slot_list_index ⟨_,a,rfl⟩ PySem.F.entry_list_index (PySem.F.args_list_index_2 _ _) (SeqAt.list_indexAt l _ n _ #[] _ (λv=>match v with | .str b _=>b==y | _=>false) j (by simp;lia) (by lia) ?_ ?_) {a,λv k=>?_,⟨.int _,H,I.tok _,⟨_,rfl⟩,q⟩}
 .simp[d]
 .intro m A i;have:=g m i bs[m] (A2 (by lia));simpa using this
 .obtain⟨z,_,rfl⟩:∃z:Str×Tok,z∈bs.zip t/\Value.str z.1 z.2=v:=by simpa using k
  show EqAt.str_str _ _ _ _
end L2
namespace TK
open PySem L2
section
variable{P:zi}{w:xr}{K:Frag}{mg:Str->Option zy}{base:qq}{f c0 Pt C:zv}
structure Steps(U:Nat->List Nd)(ds:List<|TW.Deed Str):Prop where
 ok:∀d∈ds,dc d/\zB d
 few:ds.length<=9
 told:∀i d,ds[i]?=some d->TW.Told (U i) d (.inr<|U (i+1))
 len:∀i,i<=ds.length->(U i).length<=29/\U i≠[]
inductive spRlg(C Pt:zv)(vs:List V)(H:Hp)(Q:VK)(E_:XK):Prop
 |mk ws es U ds (_:vs=[.str<|wz ws es]) (_:dY H Pt qRd) (_:TW.Tree1<|U 0) (_:∀n∈U 0,iI n) (_:(U 0).length<=20) (_:Wk (U 0) ws) (_:Steps U ds) (_:es.map (·.xs)=ds.map aT)
  (_:∀p ft t d pl al zf z es' H',fz Pt H H'->dY H' Pt qRd->LAt C H' p ft t d pl al zf z [] es' []->nds z=U ds.length->Q (.ref p) H')
theorem rN:FnScope ["thing","lines","place","ledger","line"] ["thing"] (ak fu):=fsc
theorem Fj{c7:xl}{c6:zv}{c8:xl}(F:Fun K "read_ledger" "read_ledger" fu f c7)(T:Txt mg)(e1:LCls K mg C)(d7:Has P w K mg base 1 "lines_in" ["text"] spLin)(CR:Has P w K mg base 5 "read" ["text"]<|spRead Pt)(d6:Has P w K mg base 6 "do_line" ["ledger","line"]<|spDol C)(e0:Mk K C c6)(d8:aE P w K mg base CX0 1 c6 c8 ["self","tree"]<|spLIni C)(e3:br K c8 ["self","tree"] []):aE P w K mg base CX0 7 f c7 ["thing"] (spRlg C Pt):=by
 let(k5,d1):=T.divider;show F.okA rN λcdv A outer s H vs Q E a0 h=>?_
 .let(ws,es,J,ds,rfl,d5,Z,d4,tl,W,st,X,q):=h;have g0:Room 1 _:=a0.mono (by decide);have g1:Room 2 _:=a0.mono (by decide);have g2:Room 5 _:=a0.mono (by decide);show{_,af (aQ (cm<|cF (ay cU rfl T.isin boot_isinstance<|aa (pv 0) (aa (ie (v:=.ty _) rfl T.str boot_str rfl) ae)) (λ_=>rfl)) aA ax)
   (af (ar (i:=1) rN.nd rfl (Or.inl rfl)<|aw d7 g0 (aa (pv 0) ae))
   (af (aQ (aq jb (ce (v:=.str "--") rfl d1 ⟨_,rfl⟩) (pv 1) (by with_unfolding_all rfl)) aA ax)
   (af (ar (i:=2) rN.nd rfl (Or.inl rfl)<|cE CW PySem.F.slot_list_index PySem.F.type_list_index wC (pv 1) (aa (ce (v:=.str "--") rfl d1 ⟨_,rfl⟩) ae))
   (af (ar (i:=3) rN.nd rfl (Or.inl rfl)<|tK e0 d8 g1 rfl e1.mgC e3 .nil bX (aa (aw CR g2<|aa (cE E5 slot_str_join type_str_join gZ aJ<|aa (bH lcS (bw<|cH lh (pv 1) dR (cX<|pv 2)) λs H fp=>aO dy (pv 0) aJ) ae) ae) ae))
   (af (fZ PassesOwn.never rfl (bw<|cH lh (pv 1) (cX<|aO bT (pv 2) ai) dR) (bf (i:=4) rN.nd rfl<|Or.inl rfl)<|am (aZ<|aw d6 a0 (aa (pv 3)<|aa (pv 4) ae)))
   (am<|ap (pv 3))))))),?_}
  have a3:∀n∈J 0,NodG n:=λn O=>(d4 n O).G;have R:∀n∈J 0,NodR n:=λn O=>(a3 n O).toNodR;have k6:ws.length=(J 0).length:=Wk.len Z R W;have e8:es.length=ds.length:=by have:=congrArg length X;simpa using this
  have j4:=st.few;have g9:=tm W R X st.ok;have i8:=lB Z a3 tl ws λw S=>(W.mem w.1 w.2).mp S;have g7:∀e∈es,∃d∈ds,e.xs=aT d:=λe M=>by
   have:e.xs∈ds.map aT:=X ▸ A3.mpr ⟨e,M,rfl⟩;let(d,g,L):=A3.mp this;show⟨d,g,L.symm⟩
  have tx:(wz ws es).length<=5000:=by
   have i6:=dO i8 (show("--":Str).length<=2 by decide);have i7:=dO i6 (show("\n":Str).length<=1 by decide);have k1:∀y∈es.map (λe=>gG e.xs),y.length<=61:=λy hy=>by
    let(e,M,rfl):=A3.mp hy;let(d,g,L):=g7 e M;have:=(pT (st.ok d g).1 (st.ok d g).2).2.1;rw[L];change(dH (aT d)++ch 10).length<=_;rw[bc];change _+1<=_
    lia
   have k2:=iV _ k1;rw[A1]at k2;have k3:=fY empty<|es.map λe=>gG e.xs;have g6:empty.length=0:=rfl;rw[<-StrLaws.glued_eq_join,show Builtin.Str.glued empty (es.map λe=>gG e.xs)=_ from oP _,g6,Nat.mul_zero]at k3;have:=dO i7 k3;change(txt ws++"--"++"\n"++eA _).length<=_
   lia
  show{_,rfl,_,_,_,_,rfl,.str _,(by kernel_rfl:_=some true),_,rfl,aM {_,rfl,_,_,rfl,tx,g9,λl H1 s1 Y=>?_}};have f4:∀{α:Type}(a b:List α)(c:α),(a++c::b)[a.length]?=some c:=λa b c=>by rw[D8<|A8 _,sub_self];rfl
  have j6:(nv ws es).length<=40:=by unfold nv;rw[B0,A1,CC,A1];lia
  have f6:inV (.str "--") ((nv ws es).map V.str)=true:=by
   unfold nv;simp[inV,eqV]
  show{_,rfl,l,_,rfl,.inl<|SqL.of Y,rfl,by simp[dP],?_};rw[f6];show{_,rfl,aM {_,rfl,.inl ⟨rfl,_,SqL.of Y⟩,l,ws.length,"--",nv ws es,rfl,rfl,Y,by lia,?_,λm f9 z b3=>?_,?_}}
  .have:=f4 (ws.map lnT) (es.map λe=>dH e.xs) "--";rw[A1]at this;show this
  .unfold nv at b3;rw[E9 (by rw[A1];show f9),B7]at b3;let(w,_,rfl):=map_eq_some_iff.mp b3;show GA
  have c9:H1 l=some (.lst (ws.map (λw=>V.str<|lnT w)++V.str "--"::es.map λe=>V.str<|dH e.xs)):=by
   rw[Y];unfold nv;rw[CG,CM,A7,A7];rfl
  have d2:∀w∈ws,(lnT w++ch 10).length<=900:=λw S=>by
   let(h1,h2):=(W.mem w.1 w.2).mp S;have hp:=gF (λn O=>(a3 n O).short) h2;have:=lA (a3 _ h1) hp;have:=jy hp;have:=h2.len Z;rw[bc];change _+1<=_
   lia
  show{rfl,_,rfl,_,rfl,_,rfl,l,_,rfl,SqL.of c9,λa2 f8=>?_};rw[zd (by rw[B0,A1];lia),List.take_left' (by rw[A1])];have c1:=ag (o:=.lst<|ws.map λw=>V.str<|lnT w) f8;have a8:upd H1 a2 (.lst<|ws.map λw=>V.str<|lnT w) a2=some (.lst<|ws.map λw=>V.str<|lnT w):=ac;generalize upd H1 a2 (.lst<|ws.map λw=>V.str<|lnT w)=H2 at c1 a8|-;show{a2,rfl,⟨_,SqL.of a8⟩,λu g3=>?_};show bq (fr:=[]) ws (λw=>V.str<|lnT w) (by lia) g3 (cr<|SqL.of a8) rfl (λw y _=>y=.str (lnT w++ch 10)) (λ_ _ _ _ h _=>h) (λw H' j5 h4 c2 _ f7=>?_) λys i9 c2 g4 g5=>?_
  .show{_,rfl,_,_,rfl,rfl,szl<|CL (show _<=900 by have:=d2 w h4;rw[bc]at this;show this) (by decide),f7 _ H' (Same.refl _) rfl}
  have f1:=aG (f:=λw:Wt=>V.str<|lnT w++ch 10) g5 λ_ y _ h=>h;show{empty,u,ws.map λw=>lnT w++ch 10,rfl,rfl,by rw[g4,f1,A7];rfl,ir (k:=900) (λx a1=>by
   let(w,S,rfl):=A3.mp a1;show d2 w S) (by rw[A1];lia),?_}
  rw[oP,jx];have a4:=(s1.trans c1).trans c2;show{J 0,ws,rfl,bM d5 a4,Z,d4,tl,W,λta zs I c0 i1 i4 e9=>?_};show λp dx hp f5 j7=>?_;have a5:Same I (upd (upd I dx<|.own p) p<|.ins C dx []):=λb o e=>by rw[aj<|ao e hp,aj<|ao e f5];show e
  have d0:upd (upd I dx<|.own p) p (.ins C dx []) p=some (.ins C dx []):=ac;generalize upd (upd I dx<|.own p) p (.ins C dx [])=j0 at a5 d0|-;show{p,dx,ta,zs,rfl,d0,i4.same a5,λd pl al H6 j2 f2 j3 N o=>{rfl,?_}};have c3:Same I H6:=λb u e=>o b u (a5 _ _ e) (by simpa using ao e hp);have h7:I pl=none:=kB a5 f2;have i2:=bM i1 c3;have f3:=c3 _ _<|fc (bM d5 a4) c0 (c2 _ _<|c1 _ _ c9) (λps h=>nomatch h);have h9:fz Pt H H6:=((hX a4).trans c0).trans (hX c3);show{_,rfl,_,rfl,_,_,rfl,rfl,_,rfl,l,_,rfl,SqL.of f3,λB b1=>?_};rw[show((ws.length:Int)+1)=((ws.length+1:Nat):Int)from rfl,yE (by rw[B0,A1,CC];lia),show(ws.map (λw=>V.str<|lnT w)++V.str "--"::es.map λe=>V.str<|dH e.xs).drop (ws.length+1)=es.map λe=>V.str (dH e.xs)by
   rw[show ws.map (λw=>V.str<|lnT w)++V.str "--"::(es.map λe=>V.str<|dH e.xs)=(ws.map (λw=>V.str<|lnT w)++[V.str "--"])++es.map λe=>V.str (dH e.xs)by simp,List.drop_left' (by simp)]]
  have D:=ag (o:=.lst<|es.map λe=>V.str<|dH e.xs) b1;have a9:upd H6 B (.lst<|es.map λe=>V.str<|dH e.xs) B=some (.lst<|es.map λe=>V.str<|dH e.xs):=ac;have k4:dm H6 (upd H6 B<|.lst (es.map λe=>V.str<|dH e.xs)):=cu D;generalize upd H6 B (.lst<|es.map λe=>V.str<|dH e.xs)=c4 at D a9|-;have d3:B≠p/\B≠pl:=by
   let(e5,b2):=N.ob;show{(ao b2 b1).symm,(ao N.ps b1).symm}
  show{B,rfl,⟨_,SqL.of a9⟩,gH (xs:=es.map λe=>V.str<|dH e.xs) (λi σ H'=>∃t al z j a6,σ=[some<|.str (wz ws es),some<|.ref l,some<|.int (ws.length:Nat),some<|.ref p,a6]/\LAt C H' p ta t d pl al zs z [] j []/\nds z=J i/\j.length=i/\Off [p,pl] c4 H') {ta,al,zs,[],_,rfl,N.same D,e9,rfl,λ_ _ h _=>h} (λi σ H' _ h=>?_) (λi x σ H' a1 h=>?_) λσ H' h=>?_}
  .let(t,al,z,j,a6,rfl,U,r,a7,o'):=h;show SqL.of<|o' _ _ a9 (by simp[d3.1,d3.2])
  .let(t,al,z,j,a6,rfl,U,r,a7,o'):=h;rw[B7]at a1;let(e,M,rfl):=map_eq_some_iff.mp a1;have hi:i<es.length:=(A9.mp M).1;have g:ds[i]?=some ds[i]:=A2 (by lia);have L:e.xs=aT ds[i]:=by
    have h1:(es.map (·.xs))[i]?=some e.xs:=by rw[B7,M];rfl
    rw[X,B7,g]at h1;show(Option.some.inj h1).symm
   generalize ds[i]=dd at g L;have h0:=C3 g;let(k1,k2):=st.ok dd h0;let(_,k0,sp,e6):=pT k1 k2;rw[L];show{_,rfl,_,rfl,p,_,dd,ta,t,d,pl,al,zs,z,[],j,[],J<|i+1,_,rfl,U,(by rw[<-au,r];show(st.len i (by lia)).1),by lia,by lia,sp,e6,λe=>(st.len i (by lia)).2 (by rw[<-r,e];rfl),k1.ok.pos,by rw[r];show st.told i dd g,λj9 i0 i5 j8 e2 j1 _ f0 d9 _ h8=>?_};show{i0,e2,i5,_,_,rfl,d9,f0,by rw[B0,a7];rfl,λb u e n=>h8 _ _ (o' _ _ e n) n}
  .let(t,al,z,j,a6,rfl,U,r,a7,o'):=h;rw[A1,e8]at r;have fp:∀{b u},H b=some u->b≠Pt->b∉[p,pl]:=λ{b u} e n=>by
    have:=c0 b u n<|a4 _ _ e;simp[ao this hp,ao this h7]
   show{_,rfl,q p ta t d pl al zs z j H' (λb u n e=>o' _ _ (D _ _<|h9 b u n e)<|fp e n) ?_ U r};have i3:=bM i2 D;let(ps,h1,h2,h3):=i3;have nt:∀{b u},c4 b=some u->(∀x,u≠.lst x)->(∀a b c,u≠.ins a b c)->b∉[p,pl]:=λ{b u} e h5 h6=>by
    let(e5,b2):=(N.same D).ob;have g8:=(N.same D).ps;intro z;rcases B3.mp z with rfl|z
    .rw[b2]at e;show h6 _ _ _ (Option.some.inj e).symm
    .rw[B8.mp z,g8]at e;show h5 _ (Option.some.inj e).symm
   show{ps,o' _ _ h1<|nt h1 (λ_ h=>nomatch h) (λ_ _ _ h=>nomatch h),h2,λpos e4 e=>let⟨c,e7,c5⟩:=h3 pos e4 e;{c,e7,o' _ _ c5<|nt c5 (λ_ h=>nomatch h) (λ_ _ _ h=>nomatch h)}}
inductive spCell(K:Frag)(vs:List V)(H:Hp)(Q:VK)(E_:XK):Prop
 |mk a k (_:vs=[.ref a,.int k]) (_:0<=k) (_:ScrAt K H a) (_:∀r H',Same H H'->Q (.int r) H')
theorem Fk:FnScope ["_law_script","_law_k"] ["_law_script","_law_k"] (ak yd):=fsc
theorem BG{f:zv}{d:xl}(F:Fun K "_law_cell" "_law_cell" yd f d)(T:Txt mg):aE P w K mg base CX0 1 f d ["_law_script","_law_k"] (spCell K):=by
 show F.okA Fk λcdv A outer s H vs Q E i h=>?_
 .let(a,k,rfl,e,(ns,ea),q):=h;show{_,af (aQ (aq wK (pv 1) (ay aP rfl T.len F3<|aa (pv 0) ae)<|av _) (am<|ap (cw bn (pv 0) (pv 1) λ_ _=>rfl)) ax)
   (af (aQ (aq (sx i.units0) (pv 0) (cP ae)<|av _) (am<|ap ai) ax)
   (am<|ap (aO bT (aO gf (cw bn (pv 0) (aO oY (pv 1)<|ay aP rfl T.len F3 (aa (pv 0) ae)) λ_ _=>rfl) ai)<|pv 1))),{_,rfl,_,rfl,a,_,rfl,.inl<|ea,_,_,rfl,rfl,_,rfl,?_}}
  rw[A1]
  by_cases h:k<(ns.length:Int)
  .rw[C7 h];let(j,b):=qU e h;show cp {_,rfl,_,rfl,a,_,_,_,rfl,rfl,ea,b,q _ _<|Same.refl _}
  .rw[B9 h];show aM {_,rfl,CI _,λp hp=>{a,p,_,rfl,rfl,((ag hp).seq ea),SqL.of ac,_,rfl,?_}}
   by_cases c:ns=[]
   .subst c;show cp<|q _ _ (ag hp)
   .rw[B9 (by simpa using c)];have l:0<ns.length:=List.length_pos_iff.mpr c;have g:0<=k % (ns.length:Int):=Int.emod_nonneg _ (by lia);let(j,b):=qU g<|Int.emod_lt_of_pos _ (by lia);show aM {_,rfl,_,rfl,_,rfl,a,_,rfl,.inl<|((ag hp).seq ea),_,_,rfl,rfl,by rw[A1];lia,a,_,_,_,rfl,rfl,((ag hp).seq ea),(by rw[A1];show b),_,_,rfl,rfl,.inr ⟨by decide,by decide⟩,_,rfl,_,_,rfl,rfl,q _ _<|ag hp}
inductive spPick(K:Frag)(vs:List V)(H:Hp)(Q:VK)(E_:XK):Prop
 |mk a k m (_:vs=[.ref a,.int k,.int m]) (_:0<=k) (_:0<m) (_:ScrAt K H a) (_:∀r H',0<=r->r<m->Same H H'->Q (.int r) H')
theorem zL:FnScope ["_law_script","_law_k","_law_many","_law_drawn"] ["_law_script","_law_k","_law_many"] (ak ye):=fsc
theorem BH{f:zv}{b:xl}(F:Fun K "_law_pick" "_law_pick" ye f b)(T:Txt mg)(C:Has P w K mg base 1 "_law_cell" ["_law_script","_law_k"]<|spCell K):aE P w K mg base CX0 2 f b ["_law_script","_law_k","_law_many"] (spPick K):=by
 show F.okA zL λcdv A outer s H vs Q E g h=>?_
 .let(a,k,m,rfl,e,c,d,q):=h;show{_,(af (ar (i:=3) zL.nd rfl (Or.inl rfl)<|aO oY (aO gf (aO bT (aw C g<|aa (pv 0) (aa (pv 1) ae))<|aO gf ai (aO bT (pv 1) ai)) ai) ai)
   (am<|ap (aO oY (aO oY (aO bT (aO gf (pv 3)<|pv 3)<|aO zV (pv 3) ai) ai)<|pv 2))),?_}
  show{_,rfl,_,rfl,a,k,rfl,e,d,λr H1 s1=>{_,rfl,_,_,rfl,rfl,_,_,rfl,rfl,.inl ⟨by decide,by decide⟩,_,_,rfl,rfl,_,_,rfl,rfl,.inr ⟨by decide,by decide⟩,_,_,rfl,rfl,(by decide),?_}};generalize l:(r+6151*(k+1))*40692 % 2147483399=j;show{_,rfl,_,rfl,_,_,rfl,rfl,.inl ⟨by lia,by lia⟩,_,rfl,_,_,rfl,rfl,⟨by decide,by decide⟩,_,_,rfl,rfl,_,_,rfl,rfl,(by decide),_,rfl,_,_,rfl,rfl,c,(q _ _ (Int.emod_nonneg _ (by lia)) (Int.emod_lt_of_pos _ c) s1)}
inductive spBuild(K:Frag)(vs:List V)(H:Hp)(Q:VK)(E_:XK):Prop
 |mk a at' m (_:vs=[.ref a,.int at',.int m]) (_:0<=at') (_:0<=m) (_:m<=9) (_:ScrAt K H a) (_:∀t zs H',H' t=some (.tup<|aI zs)->At H' zs->(zs.length:Int)<=m->TW.Tree (nds zs)->(∀z∈zs,qV z.2)->Same H H'->Q (.ref t) H')
theorem scB:FnScope ["_law_script","_law_at","_law_most","_law_left","_law_folders","_law_nodes","_law_k","_law_number","_law_parent","_law_name","_law_stamp"] ["_law_script","_law_at","_law_most"] (ak kg):=fsc
def buS(i:Nat):Stmt:=match (bJ kg).getD 3 (.Pass ⟨0,0,0,0⟩)with
 |.For _ _ b _ _=>b.getD i<|.Pass ⟨0,0,0,0⟩
 |x=>x
abbrev BX(P:zi)(w:xr)(K:Frag)(mg:Str->Option zy)(base:qq)(f:zv)(cdv:zy)(A:xx)(outer:List Env)(s:zn)(H:Hp)(E:XK):Cx:=(kU CX0 P w K mg base ["_law_script","_law_at","_law_most","_law_left","_law_folders","_law_nodes","_law_k","_law_number","_law_parent","_law_name","_law_stamp"] "_law_tree" (ak kg) f cdv A outer s H E).nox
theorem GM{f:zv}{cdv:zy}{A:xx}{outer:List Env}{s:zn}{H0:Hp}{E:XK}(c2:Room 2<|A.deeper (PyProof.Rows.envOfC "_law_tree" (ak kg) s.heap.objs.size f cdv)):
  ∃t,PS (BX P w K mg base f cdv A outer s H0 E) (buS 5) t/\∀(I:Ends)(H H6:Hp)(pl j pn:zv)(O Q x R:Option V)(M:List Int)(zs:ZN)(num a:Int)(nm:Str)(st:Option Int),Sta H pl j pn H6 M (0::TW.aX (nds zs)) zs->zs.length<=20 ->
   (∀H',Sta H pl j pn H' M (0::TW.aX (nds zs)) zs->I.nx [O,Q,x,some<|.ref pl,some<|.ref j,some<|.ref pn,R,some<|.int num,some<|.int a,some<|.str nm,some<|stV st] H') ->
   (∀q H',(∀z∈zs,¬(z.2.par=a/\z.2.nm=nm))->Sta H pl j pn H' M (0::TW.aX (nds<|zs++[(q,⟨num,a,nm,st⟩)])) (zs++[(q,⟨num,a,nm,st⟩)])->I.nx [O,Q,x,some<|.ref pl,some<|.ref j,some<|.ref pn,R,some<|.int num,some<|.int a,some<|.str nm,some<|stV st] H') ->
   t I [O,Q,x,some<|.ref pl,some<|.ref j,some<|.ref pn,R,some<|.int num,some<|.int a,some<|.str nm,some<|stV st] H6:=by
 show{_,aQ (aq (mU<|bv c2) (aK<|aa (pv 8) (aa (pv 9) ae)) (bH lcS (bw<|pv 5)
     (λs H fp=>cH (r:=rSlT K) lL (pv 0) (cX ai)<|cX ai)) rfl) (af (aZ<|cE CW CP CS ck (pv 5) (aa (aK<|aa (pv 7) (aa (pv 8)<|aa (pv 9) (aa (pv 10) ae))) ae))<|am (aQ (aq iC (pv 10) cW<|av _) (am<|aZ (cE CW CP CS ck (pv 4)<|aa (pv 7) ae)) ax)) ax,?_}
 intro I H H6 pl j pn O Q x R M zs num a nm st a3 c9 c7 a2;show{_,rfl,_,rfl,le2,λN c1=>?_};have l:=a3.grow<|ag (o:=.tup [.int a,.str nm]) c1;have Y:(upd H6 N<|.tup [.int a,.str nm]) N=some (.tup<|[Sum.inl a,Sum.inr nm].map kV):=ac;show{_,rfl,pn,rfl,⟨_,SqL.of l.n⟩,λp hp=>?_};generalize upd H6 N (.tup [.int a,.str nm])=a4 at l Y hp|-;show xE (k:=1) (js:=[]) (J:=Itl K pn) (p:=p) zs.length (by lia) (λi ys D H'=>∃b:List<|zv×List Key,ys=(b.map (·.1)).map V.ref/\b.map (·.2)=((nds zs).take i).map plK/\b.length=i/\(∀z∈b,H' z.1=some (.tup<|z.2.map kV))/\D.length=1/\Same a4 H'/\H' p=some (.lst ys))
  {[],rfl,rfl,rfl,by simp,rfl,ag hp,ac} (λi ys D H' h=>?_) (λi ys D H' hi h=>?_) (λys D H' h=>?_) (λi ys D H' hi h v H2 hy=>?_) ?_ ?_
 .let(b,rfl,_,e,_):=h;rw[A1,A1];lia
 .let(_,_,_,_,_,_,d,_):=h;show{_,_,SqL.of<|d _ _ l.n,jo<|A2 hi}
 .let(b,S,L,X,T,_,d,C):=h;show{{_,SqL.of<|d _ _ l.n,by rw[ba];show A8 _},?_};subst S;show{N,p,_,b,rfl,d _ _ Y,rfl,SqL.of C,T,_,rfl,?_};rw[E4 (by rw[au];show A8 _)]at L;have G:=l.grow d;cases ea:(b.any λz=>decide<|z.2=[Sum.inl a,Sum.inr nm])with
  |true=>show aM<|c7 _ G
  |false =>
   have a0:∀z∈zs,¬(z.2.par=a/\z.2.nm=nm):=λz u ⟨h1,h2⟩=>by
    let(y,hy,c0):=A3.mp (by rw[L];show A3.mpr ⟨z.2,A3.mpr ⟨z,u,rfl⟩,rfl⟩);have:(b.any λz=>decide<|z.2=[Sum.inl a,Sum.inr nm])=true:=any_eq_true.mpr {y,hy,by rw[C8,c0];unfold plK;rw[h1,h2]};rw[ea]at this;cases this
   show cp {_,rfl,.inl ⟨rfl,_,SqL.of G.n⟩,_,rfl,_,rfl,_,rfl,_,rfl,(show 4<=sizeLine from aF (by decide)),λq g=>{pn,_,_,rfl,rfl,bh g G.n,aU (by rw[ba];lia),?_}};have B:=(G.grow<|ag (o:=.tup<|vals ⟨num,a,nm,st⟩) g).node (n:=⟨num,a,nm,st⟩) ac;show{_,rfl,rfl,_,rfl,?_};cases st with
   |some c6 =>
    have U:(0::TW.aX (nds zs))=(0:Int)::TW.aX (nds<|zs++[(q,⟨num,a,nm,some c6⟩)]):=by simp[TW.aX,nds]
    rw[U]at B;show aM<|a2 q _ a0 B
   |none =>
    show cp {_,rfl,.inl ⟨rfl,_,SqL.of B.f⟩,_,rfl,j,_,_,rfl,rfl,B.f,aU ?_,?_}
    .have:=TW.eX<|nds zs;rw[au]at this;rw[A1,CC];lia
    .have W:=B.fold num;have U:(0::TW.aX (nds zs))++[num]=(0:Int)::TW.aX (nds<|zs++[(q,⟨num,a,nm,none⟩)]):=by simp[TW.aX,nds]
     rw[U]at W;show a2 q _ a0 W
 .let(b,S,L,X,T,b2,d,C):=h;let(d0,rfl):=one_of b2;let(rfl,c3):=hy;let(c,Z,rfl):=db<|c3 _ (SqL.of<|d _ _ l.n);have b3:iu (vals c.2) (some 1) (some 3)=[.int c.2.par,.str c.2.nm]:=rfl;show{_,rfl,_,rfl,_,rfl,c.1,_,rfl,SqT.of<|d _ _ (l.nd c<|C3 Z),(λh=>by cases h.1),λq g=>?_};rw[b3];show{bh g C,b++[(q,plK c.2)],by rw[S];simp,?_,by simp[X],?_,rfl,aV hp<|d.trans (ag g),ac}
  .rw[CG,L,take_succ,show(nds zs)[i]?=some c.2 by unfold nds;rw[B7,Z];rfl,CG];rfl
  .intro z u;have a1:q≠p:=λz=>by rw[z,C]at g;cases g
   rcases C6.mp u with u|u
   .have:=bh (o:=.tup [.int c.2.par,.str c.2.nm]) g<|T z u;rw[aj]
    .show this
    .intro e;rw[e,aj<|CD a1,C]at this;cases this
   .have e:z=(q,plK c.2):=by simpa using u
    subst e;rw[aj a1];show ac
 .rintro _ _ _ _ _ m h;show m _ _ h
 .rintro _ _ _ _ m ⟨c8,b0,c4,a6,c5,a7,a5,x,a8,a9,b1,q⟩;show{c8,b0,c4,a6,c5,a7,a5,x,a8,a9,b1,λp hp=>m _ _<|q p hp}
theorem zM{f:zv}{b3:xl}(F:Fun K "_law_tree" "_law_tree" kg f b3)(T:Txt mg)(C:Has P w K mg base 2 "_law_pick" ["_law_script","_law_k","_law_many"]<|spPick K):aE P w K mg base CX0 3 f b3 ["_law_script","_law_at","_law_most"] (spBuild K):=by
 show F.okA scB λcdv A outer s H vs Q E t h=>?_
 .let(a,b1,m,rfl,e2,e5,e6,u,k):=h;let(h5,a2,c0):=GM (P:=P) (w:=w) (mg:=mg) (base:=base) (f:=f) (cdv:=cdv) (A:=A) (outer:=outer) (s:=s) (H0:=H) (E:=E) t;show{_,(af (ar (i:=3) scB.nd rfl (Or.inl rfl)<|aD (mW rfl) rfl T.list rfl (aa (aD vC rfl T.range rfl<|aa ai (aa (aO bT (pv 2) ai) ae)) ae))
    (af (ar (i:=4) scB.nd rfl (Or.inl rfl)<|cP (aa ai ae))
    (af (ar (i:=5) scB.nd rfl (Or.inl rfl)<|cP ae)
    (af (fZ PassesOwn.never rfl (vc rfl T.range<|aa (aw C t<|aa (pv 0) (aa (pv 1)<|aa (aO bT (pv 2) ai) ae)) ae) (bf (i:=6) scB.nd rfl<|Or.inl rfl)
    (af (ar (i:=7) scB.nd rfl (Or.inl rfl)<|cE CW slot_list_pop type_list_pop xa (pv 3) (aa (aw C t<|aa (pv 0) (aa (aO bT (aO bT (pv 1) ai)<|aO gf ai (pv 6))<|aa (ay aP rfl T.len F3<|aa (pv 3) ae) ae)) ae))
    (af (ar (i:=8) scB.nd rfl (Or.inl rfl)<|cw bn (pv 4) (aw C t<|aa (pv 0) (aa (aO bT (aO bT (pv 1) ai)<|aO gf ai (pv 6))<|aa (ay aP rfl T.len F3<|aa (pv 4) ae) ae)) (λ_ _=>rfl))
    (af (ar (i:=9) scB.nd rfl (Or.inl rfl)<|cw bn (cP<|aa aJ (aa aJ<|aa aJ (aa aJ ae))) (aw C t<|aa (pv 0) (aa (aO bT (aO bT (pv 1) ai)<|aO gf ai (pv 6))<|aa ai ae)) (λ_ _=>rfl))
    (af (ar (i:=10) scB.nd rfl (Or.inl rfl) cW)
    (af (aQ (aq Fz (aw C t<|aa (pv 0) (aa (aO bT (aO bT (pv 1) ai)<|aO gf ai (pv 6))<|aa ai ae)) ai<|av _) (am<|ar (i:=10) scB.nd rfl (Or.inl rfl) (cw bn (cP<|aa ai (aa ai<|aa ai (aa ai ae))) (aw C t<|aa (pv 0) (aa (aO bT (aO bT (pv 1) ai)<|aO gf ai (pv 6))<|aa ai ae)) λ_ _=>rfl)) ax)
    (am a2)))))))
    (am<|ap (aD aS rfl T.tuple rfl<|aa (ay jM rfl T.sorted Ee<|aa (pv 5) ae) ae)))))),?_}
  show{_,rfl,_,_,rfl,rfl,_,_,rfl,λa1 J=>{a1,_,_,rfl,ac,⟨by decide,by decide,by lia,by lia⟩,by lia,λpl L=>{aF (by decide),λpf x=>{CI _,λpn v=>?_}}}};have d1:Same H (upd (upd (upd (upd H a1<|.rng 1 (m+4)) pl<|.lst ((List.range (m+4-1:Int).toNat).map λk=>V.int<|1+(k:Nat))) pf<|.lst [.int 0]) pn<|.lst []):=(((ag J).trans (ag L)).trans (ag x)).trans (ag v);have S:pl≠pf:=λe=>by rw[<-e,ac]at x;cases x
  have c3:pl≠pn:=λe=>by rw[<-e,aj S,ac]at v;cases v
  have c1:pf≠pn:=λe=>by rw[<-e,ac]at v;cases v
  have d5:Sta H pl pf pn (upd (upd (upd (upd H a1<|.rng 1 (m+4)) pl<|.lst ((List.range (m+4-1:Int).toNat).map λk=>V.int<|1+(k:Nat))) pf<|.lst [.int 0]) pn<|.lst []) (lf0 m) [0] [] :=
   {d1,by rw[aj c3,aj S,ac,lf0,A7];rfl,by rw[aj c1,ac];rfl,ac,λz g=>by simp at g,(ag J).free L,((ag J).trans (ag L)).free x,(((ag J).trans (ag L)).trans (ag x)).free v,S,c3,c1}
  show{_,rfl,_,rfl,_,rfl,_,_,rfl,rfl,a,_,_,rfl,e2,by lia,u.same d1,λr H1 h3 h4 s1=>{r,rfl,by lia,by lia,?_}};show vg (n:=r.toNat) (λi σ H'=>∃c zs X Y Z a0 W,σ=[some<|.ref a,some<|.int b1,some<|.int m,some<|.ref pl,some<|.ref pf,some<|.ref pn,X,Y,Z,a0,W]/\Sta H pl pf pn H' c (0::TW.aX (nds zs)) zs/\Bd zs c/\(c.length:Int)+i=m+3/\zs.length<=i)
   {_,[],_,_,_,_,_,rfl,d5.grow s1,(Bd.zero e6),by rw[AG e5];lia,A8 _} (λi σ H' hi h=>?_) (λσ H' h=>?_)
  .let(c,zs,X,Y,Z,a0,W,rfl,d,B,e4,f1):=h;have g6:i<10:=by lia
   have h6:(0:Int)<=b1+1+6*(0+(i:Int)):=by lia
   show{_,rfl,.inl ⟨rfl,_,SqL.of d.l⟩,_,rfl,_,rfl,_,_,rfl,rfl,_,rfl,_,_,rfl,rfl,.inl ⟨by decide,by decide⟩,_,_,rfl,rfl,_,rfl,pl,_,rfl,.inl<|SqL.of d.l,a,_,_,rfl,by lia,by rw[A1];lia,u.same d.same,λj H2 f2 c7 f9=>?_};rw[A1]at c7;have a4:=d.grow f9;obtain⟨num,R⟩:∃num,c[j.toNat]?=some num:={_,A2 (by lia)};show{pl,_,j,j.toNat,.int num,rfl,rfl,a4.l,by lia,by lia,by rw[A1];show Dk f2 c7,by rw[B7,R];rfl,?_};rw[oC];have G:=a4.pop<|c.eraseIdx j.toNat;have I:(c.eraseIdx j.toNat).length=c.length-1:=List.length_eraseIdx_of_lt (by lia);generalize upd H2 pl (.lst<|(c.eraseIdx j.toNat).map V.int)=g3 at G|-;show{_,rfl,_,rfl,_,rfl,_,_,rfl,rfl,_,rfl,_,_,rfl,rfl,.inl ⟨by decide,by decide⟩,_,_,rfl,rfl,_,rfl,pf,_,rfl,.inl<|SqL.of G.f,a,_,_,rfl,by lia,by rw[A1,CC];lia,u.same G.same,λg7 g4 f3 c8 g0=>?_};rw[A1]at c8;let(M,d0,e0):=AD f3 c8;have a5:=G.grow g0;show{pf,_,_,_,rfl,rfl,SqL.of a5.f,e0,{aF (by decide),λf8 e8=>?_}};have a6:=a5.grow<|ag (o:=.lst [.str "a",.str "b",.str "c",.str "abcde"]) e8;show{_,rfl,_,rfl,_,_,rfl,rfl,_,rfl,_,_,rfl,rfl,.inl ⟨by decide,by decide⟩,_,_,rfl,rfl,a,_,_,rfl,by lia,by decide,u.same a6.same,λg8 g5 f4 f5 d2=>?_};let(nm,c5,d9):=AE f4 f5;show{f8,_,_,_,rfl,rfl,SqL.of<|d2 _ _ ac,d9,?_};have a7:=a6.grow d2;show{_,rfl,_,rfl,_,_,rfl,rfl,_,rfl,_,_,rfl,rfl,.inl ⟨by decide,by decide⟩,_,_,rfl,rfl,a,_,_,rfl,by lia,by decide,u.same a7.same,λg9 d6 h0 h1 g1=>{_,_,rfl,rfl,_,rfl,?_}};have a8:=a7.grow g1;show Hr (λe3=>?_) λe3=>?_
   .show{aF (by decide),λa2 e9=>?_};have a9:=a8.grow<|ag (o:=.lst [.int 0,.int 1,.int 2,.int 999]) e9;show{_,rfl,_,rfl,_,_,rfl,rfl,_,rfl,_,_,rfl,rfl,.inl ⟨by decide,by decide⟩,_,_,rfl,rfl,a,_,_,rfl,by lia,by decide,u.same a9.same,λh2 d7 f6 f7 d3=>?_};let(c6,f0,e1):=AF f6 f7;show{a2,_,_,_,rfl,rfl,SqL.of<|d3 _ _ ac,e1,?_};show c0 _ H d7 pl pf pn _ _ _ _ (c.eraseIdx j.toNat) zs num M nm (some c6) (a9.grow d3) (by lia) (λH' N=>{_,zs,_,_,_,_,_,rfl,N,B.skip _,by rw[I];lia,by lia})
     (λq H' U O=>{_,_,_,_,_,_,_,rfl,O,B.add (q:=q) (n:={num,M,nm,(some c6)}) R d0 U c5 f0,by rw[I];lia,by rw[B0,E8];lia})
   .show c0 _ H d6 pl pf pn _ _ _ _ (c.eraseIdx j.toNat) zs num M nm none a8 (by lia) (λH' N=>{_,zs,_,_,_,_,_,rfl,N,B.skip _,by rw[I];lia,by lia})
     (λq H' U O=>{_,_,_,_,_,_,_,rfl,O,B.add (q:=q) (n:=⟨num,M,nm,none⟩) R d0 U c5<|.inl rfl,by rw[I];lia,by rw[B0,E8];lia})
  .let(c,zs,X,Y,Z,a0,W,rfl,d,B,e4,f1):=h;have e7:(zs.map tp).map (·.2.1)=(nds zs).map (·.num):=by
    unfold nds;simp only[A7];rfl
   have c4:((nds zs).map (·.num)).Nodup:=(nodup_append.mp B.nd).1;show{_,rfl,pn,zs.map tp,rfl,SqL.of (by rw[d.n,lr]),λz g=>?_,by rw[e7];show c4,by rw[A1];lia,λD pm g2 p hp=>?_}
   .let(y,hy,rfl):=A3.mp g;show d.nd y hy
   .let(a3,b2):=back pm;have d8:(D.map (·.1)).map V.ref=aI (D.map un):=by rw[<-lr,b2]
    rw[d8];show{p,_,rfl,.inl {SqL.of ac,λl c2=>?_}};have c9:∀z,z∈D.map un->z∈zs:=λz g=>a3.mem_iff.mp g;show k l (D.map un) _ ac ?_ (by rw[a3.length_eq];show by lia) ?_ (λz g=>B.ok z<|c9 z g)<|(d.same.trans<|ag hp).trans (ag c2)
    .intro z g;show((ag hp).trans (ag c2)) _ _ (d.nd z<|c9 z g)
    .show TW.AB B.built (a3.map _) ?_ c4 B.own;unfold nds;rw[C0];have d4:((D.map un).map tp).Pairwise (λa b=>a.2.1<b.2.1):=by rw[b2];show g2
     rw[C0]at d4;show d4.imp λh=>Int.le_of_lt h
end
theorem wD(b:List Ent)(e:Ent):(bU<|b++[e])[(bU<|b++[e]).length-1]?=some (V.ref e.a):=by
 simp
theorem wE(es:List Ent)(e:Ent):(bU<|es++[e]).dropLast=bU es:=by
 simp
section
variable{P:zi}{w:xr}{K:Frag}{mg:Str->Option zy}{base:qq}
inductive spLPo(C:zv)(vs:List V)(H:Hp)(Q:VK)(E:XK):Prop
 |mk p dx ft t d pl al sl tl z gs ss' e y ts (_:vs=[.ref p,.ref sl,.ref tl]) (_:H p=some (.ins C dx<|flL ft t d pl al)) (_:Tre H t z) (_:Tags H d gs) (_:H sl=some (.lst<|bU (ss'++[e]))) (_:H tl=some (.lst<|bU ts)) (_:sl≠tl) (_:EntAt H e) (_:e.xs[0]?=some y) (_:ts.length<=200) (_:∀q H',H' p=some (.ins C dx<|flL ft e.ta e.da pl al)->H' sl=some (.lst<|bU ss')->H' tl=some (.lst<|bU (ts++[⟨q,e.sa,t,d,e.xs,z,gs⟩]))->EntAt H' ⟨q,e.sa,t,d,e.xs,z,gs⟩->dm H H'->Off [p,sl,tl] H H'->Q y H')
theorem Cg:FnScope ["self","source","target","entry"] ["self","source","target"] (ak de):=fsc
theorem Fl{f C:zv}{R:xl}(F:Fun K "pass_over" "Ledger.pass_over" de f R)(T:LCls K mg C):aE P w K mg base CX0 1 f R ["self","source","target"] (spLPo C):=by
 show F.okA Cg λcdv A outer s H vs Q E b3 h=>?_
 .let(p,dx,ft,t,d,pl,al,sl,tl,z,gs,c,e,y,k,rfl,hp,b1,tg,r,U,Z,E0,hy,b2,a9):=h;show{_,af (aQ (cm<|lI (pv 1) (λ_=>rfl)) aA ax)
   (af (ar (i:=3) Cg.nd rfl (Or.inl rfl)<|wY CW slot_list_pop type_list_pop wZ (pv 1))
   (af (aZ<|cE CW CP CS ck (pv 2) (aa (aK<|aa (ixT K (pv 3) ai) (aa (dJ (pv 0) rfl)<|aa (dJ (pv 0) rfl) ae)) ae))
   (af (ff (pv 0) (ixT K (pv 3) ai) rfl)
   (af (ff (pv 0) (ixT K (pv 3) ai) rfl)
   (am<|ap (ixT K (ixT K (pv 3) ai) ai)))))),{_,rfl,_,.inl ⟨_,SqL.of r,rfl⟩,?_}}
  change if (!(!(bU<|c++[e]).isEmpty))=true then _ else _
  rw[show(!(!(bU<|c++[e]).isEmpty))=false by unfold bU;rw[CG];simp];show aM {_,rfl,.inl ⟨rfl,_,SqL.of r⟩,sl,_,_,rfl,rfl,r,wD c e,?_};rw[wE];have G:p≠sl:=tG hp r (by intro h;cases h);have I:p≠tl:=tG hp U (by intro h;cases h);have k1:=mO (ys:=bU c) r;have v:upd H sl (.lst<|bU c) p=some (.ins C dx<|flL ft t d pl al):=by rw[aj G];show hp
  have x:upd H sl (.lst<|bU c) tl=some (.lst<|bU k):=by rw[aj<|CD Z];show U
  have V:upd H sl (.lst<|bU c) sl=some (.lst<|bU c):=ac;have a0:Off [p,sl,tl] H (upd H sl<|.lst (bU c)):=λb o h g=>by rw[aj λz=>g (by rw[z];simp)];show h
  generalize upd H sl (.lst<|bU c)=H1 at k1 v x V a0|-;have M:=E0.stay k1;show{_,rfl,.inl ⟨rfl,_,SqL.of x⟩,_,rfl,e.a,_,_,_,rfl,rfl,SqT.of M.ob,rfl,_,rfl,p,C,dx,_,_,rfl,v,T.cl,T.n1,uQ,_,rfl,p,C,dx,_,_,rfl,v,T.cl,T.n2,zu,(show 3<=sizeLine from aF (by decide)),λq a8=>?_};have l:=ag (o:=.tup [.ref e.sa,.ref t,.ref d]) a8;have S:upd H1 q (.tup [.ref e.sa,.ref t,.ref d]) q=some (.tup [.ref e.sa,.ref t,.ref d]):=ac;generalize upd H1 q (.tup [.ref e.sa,.ref t,.ref d])=H2 at l S|-;show{tl,_,_,rfl,rfl,l _ _ x,aU (by rw[A1];lia),?_};have k3:=mO (ys:=bU k++[.ref q])<|l _ _ x;have J:upd H2 tl (.lst<|bU k++[.ref q]) p=some (.ins C dx<|flL ft t d pl al):=by rw[aj I];show l _ _ v
  have W:upd H2 tl (.lst<|bU k++[.ref q]) sl=some (.lst<|bU c):=by rw[aj Z];show l _ _ V
  have a5:upd H2 tl (.lst<|bU k++[.ref q]) tl=some (.lst<|bU (k++[⟨q,e.sa,t,d,e.xs,z,gs⟩])):=by rw[ac];unfold bU;rw[CG];rfl
  have a1:Off [p,sl,tl] H2 (upd H2 tl<|.lst (bU k++[.ref q])):=λb o h g=>by rw[aj λz=>g (by rw[z];simp)];show h
  generalize upd H2 tl (.lst<|bU k++[.ref q])=m at k3 J W a5 a1|-;have N:=(M.stay<|cu l).stay k3;show{_,rfl,e.a,_,_,_,rfl,rfl,SqT.of N.ob,rfl,_,rfl,p,C,dx,_,rfl,J,T.cl,T.n1,jz,?_};rw[zt];have u:=hZ (gs:=flL ft e.ta d pl al) J;have L:upd m p (.ins C dx<|flL ft e.ta d pl al) p=some (.ins C dx<|flL ft e.ta d pl al):=ac;have X:upd m p (.ins C dx<|flL ft e.ta d pl al) sl=some (.lst<|bU c):=by rw[aj<|CD G];show W
  have a6:upd m p (.ins C dx<|flL ft e.ta d pl al) tl=some (.lst<|bU (k++[⟨q,e.sa,t,d,e.xs,z,gs⟩])):=by rw[aj<|CD I];show a5
  have a2:Off [p,sl,tl] m (upd m p<|.ins C dx (flL ft e.ta d pl al)):=λb o h g=>by rw[aj λz=>g (by rw[z];simp)];show h
  generalize upd m p (.ins C dx<|flL ft e.ta d pl al)=n at u L X a6 a2|-;have O:=N.stay u;show{_,rfl,e.a,_,_,_,rfl,rfl,SqT.of O.ob,rfl,_,rfl,p,C,dx,_,rfl,L,T.cl,T.n2,jz,?_};rw[zw];have k5:=hZ (gs:=flL ft e.ta e.da pl al) L;have a4:upd n p (.ins C dx<|flL ft e.ta e.da pl al) p=some (.ins C dx<|flL ft e.ta e.da pl al):=ac;have Y:upd n p (.ins C dx<|flL ft e.ta e.da pl al) sl=some (.lst<|bU c):=by rw[aj<|CD G];show X
  have a7:upd n p (.ins C dx<|flL ft e.ta e.da pl al) tl=some (.lst<|bU (k++[⟨q,e.sa,t,d,e.xs,z,gs⟩])):=by rw[aj<|CD I];show a6
  have a3:Off [p,sl,tl] n (upd n p<|.ins C dx (flL ft e.ta e.da pl al)):=λb o h g=>by rw[aj λz=>g (by rw[z];simp)];show h
  generalize upd n p (.ins C dx<|flL ft e.ta e.da pl al)=H5 at k5 a4 Y a7 a3|-;have B:=O.stay k5;have D:dm H H5:=(((k1.trans<|cu l).trans k3).trans u).trans k5;show{_,rfl,e.a,_,_,_,rfl,rfl,SqT.of B.ob,rfl,e.sa,_,_,_,rfl,rfl,SqT.of B.st,pe (j:=0) hy,?_};show a9 q H5 a4 Y a7 {((k3.trans u).trans k5).tup S,B.st,b1.stay D,tg.stay D} D λb o h g=>a3 _ _ (a2 _ _ (a1 _ _ (l _ _<|a0 _ _ h g) g) g) g
inductive spLBk(C:zv)(vs:List V)(H:Hp)(Q:VK)(E:XK):Prop
 |mk p ft t d pl al zf z gs es e y as (_:vs=[.ref p]) (_:LAt C H p ft t d pl al zf z gs (es++[e]) as) (_:e.xs[0]?=some y) (_:as.length<=200) (_:∀q H',LAt C H' p ft e.ta e.da pl al zf e.z e.gs es (as++[⟨q,e.sa,t,d,e.xs,z,gs⟩])->dm H H'->Off [p,pl,al] H H'->Q y H')
theorem GO:FnScope ["self"] ["self"] (ak gw):=fsc
theorem zN{f C g:zv}{i j:xl}(F:Fun K "back" "Ledger.back" gw f i)(T:LCls K mg C)(n:Meth K C "pass_over" g)(m:aE P w K mg base CX0 1 g j ["self","source","target"]<|spLPo C)(r:br K j ["self","source","target"] []):aE P w K mg base CX0 2 f i ["self"] (spLBk C):=by
 show F.okA GO λcdv A outer s H vs Q E B h=>?_
 .show{_,am<|ap (gg (pv 0) T.cl n m B r .nil bX<|aa (dJ (pv 0) rfl) (aa (dJ (pv 0) rfl) ae)),?_};let(p,ft,t,d,pl,al,L,z,u,es,e,y,as,rfl,a,hy,v,I):=h;let(dx,hp):=a.ob;show{_,rfl,p,dx,_,rfl,hp,bA,_,rfl,p,C,dx,_,_,rfl,hp,T.cl,T.n3,zx,_,rfl,p,C,dx,_,_,rfl,hp,T.cl,T.n4,Gx,{p,dx,ft,t,d,pl,al,pl,al,z,u,es,e,y,as,rfl,hp,a.tr,a.tg,a.ps,a.ah,a.ne,a.ep e (by simp),hy,v,λq H' G D J l k o=>?_}};have c:=(a.ep e (by simp)).stay k;show I q H' ⟨⟨dx,G⟩,a.tf.stay k,c.tr,c.tg,D,J,a.ne,(λx b=>(a.ep x<|CT _ b).stay k),λx b=>by
   rcases C6.mp b with h|h
   .show(a.ea x h).stay k
   .rw[B8.mp h];show l⟩ k o
end
end TK
namespace L2
open PySem PySem.Spec PyProof.Rows
theorem ib{X:Cx}{a b:List Expr}{k:Nat}{p:Pos}{c:TE}{t:TA}(d:PE X (.Tuple a k p) c)(e:PA X b t):PA X (.Tuple a k p::b) (nD c t):=aa d e rfl
inductive rCatN(K:Frag)(x y:V)(H:Hp)(Q:VK):Prop
 |mk t c xs ys (_:x=.ref t) (_:y=.ref c) (_:SqT K H t xs) (_:H c=some (.tup ys)) (_:ys≠[]) (_:xs.length+ys.length<=sizeLine) (_:∀l H',Same H H'->H' l=some (.tup<|xs++ys)->Q (.ref l) H')
theorem BI{X:Cx}:OpR X (binaryOp .Add) (rCatN X.K):=λpins s σ H x y v u Q I g i ⟨t,c,xs,ys,ex,d,f,a,hy,b,q⟩=>(xz.or ij) pins s σ H x y v u Q I g i (by
 by_cases h:xs=[]
 .subst h;show .inl {t,c,ys,ex,d,f,SqT.of a,q c H (Same.refl _) a}
 .show .inr {t,c,xs,ys,ex,d,f,SqT.of a,h,b,λe=>absurd e hy,λ_ l b=>q l _ (ag b) ac})
end L2
namespace TK
open PySem L2
def N95:List Str:=["_law_script","_law_tree_here","_law_other","_law_book_here","_law_ledger","_law_due","_law_path_here","_law_number","_law_parent","_law_name","_law_stamp","_law_wrote","_law_one","_law_inner","_law_was","_law_again","_law_left"]
theorem iW:FnScope N95 ["_law_script"] (ak sO):=fsc
abbrev EL(P:zi)(w:xr)(K:Frag)(mg:Str->Option zy)(base:qq)(f:zv)(cdv:zy)(A:xx)(outer:List Env)(s:zn)(H:Hp)(E:XK):Cx:=(kU CX0 P w K mg base N95 "law" (ak sO) f cdv A outer s H E).nox
def lS(i:Nat):Stmt:=(bJ sO).getD i (.Pass ⟨0,0,0,0⟩)
abbrev R95(A:xx)(s:zn)(f:zv)(cdv:zy):=Room 7<|A.deeper (PyProof.Rows.envOfC "law" (ak sO) s.heap.objs.size f cdv)
abbrev lσ(a c b bk p d:zv)(l m n o e f g h i j k:Option V):St:=[some<|.ref a,some<|.ref c,some<|.ref b,some<|.ref bk,some<|.ref p,some<|.ref d,l,m,n,o,e,f,g,h,i,j,k]
inductive HM(P:zi)(w:xr)(K:Frag)(mg:Str->Option zy)(base:qq)(C:zv)(k:Nat)(m:Str)(ps:List Str)(sp:Sp):Prop
 |mk f fd (_:Meth K C m f) (_:aE P w K mg base CX0 k f fd ps sp) (_:br K fd ps [])
structure Lc(H:Hp)(ta oa bk ua:zv)(zs os us:ZN)(as:List<|zv×(zv×Nd))(Z:List Nd):Prop where
 tr:Tre H ta zs
 ur:Tre H oa os
 bo:Book H bk as os
 bd:∃o,H bk=some (.frz o<|.dK (cb as))
 gr:Tre H ua us
 ez:nds zs=T0 Z
 eu:nds us=Gf Z (nds os)
 two:Two Z<|nds os
theorem Lc.stay{H c:Hp}{g f bk h:zv}{zs os i:ZN}{d:List (zv×(zv×Nd))}{Z:List Nd}(b:Lc H g f bk h zs os i d Z)(s:dm H c):Lc c g f bk h zs os i d Z:={b.tr.stay s,b.ur.stay s,{s.rd b.bo.dict,b.bo.of,λa j=>s.tup<|b.bo.at' a j},let⟨o,e⟩:=b.bd;{o,s _ _ e (λ_ b=>nomatch b) (λ_ _ _ b=>nomatch b) λ_ b=>nomatch b},b.gr.stay s,b.ez,b.eu,b.two}
theorem rO{H d:Hp}{S:List zv}{g:zv}{q:Str}(T:dY H g q)(o:Off S H d)(a:∀b∈S,(∃xs,H b=some (.lst xs))\/∃C dx fs,H b=some (.ins C dx fs)):dY d g q:=by
 let(ps,h1,h2,h3):=T;have k:∀{b u},H b=some u->(∀xs,u≠.lst xs)->(∀C dx fs,u≠.ins C dx fs)->d b=some u:=λ{b u} e m n=>o b u e λl=>by
  rcases a b l with⟨xs,f⟩|⟨C,dx,fs,f⟩
  .rw[f]at e;show m xs (Option.some.inj e).symm
  .rw[f]at e;show n C dx fs (Option.some.inj e).symm
 show{ps,k h1 (λ_ a=>nomatch a) (λ_ _ _ a=>nomatch a),h2,λpos h e=>let⟨c,i,j⟩:=h3 pos h e;{c,i,k j (λ_ a=>nomatch a) λ_ _ _ a=>nomatch a}}
def Tb(PL PC:zv)(H:Hp):Prop:=dY H PL qRd/\dY H PC wB
theorem Tb.same{PL PC:zv}{H H':Hp}(t:Tb PL PC H)(s:Same H H'):Tb PL PC H':=⟨bM t.1 s,bM t.2 s⟩
theorem Tb.off{PL PC:zv}{H H':Hp}{S:List zv}(t:Tb PL PC H)(o:Off S H H')(h:∀b∈S,(∃xs,H b=some (.lst xs))\/∃C dx fs,H b=some (.ins C dx fs)):Tb PL PC H':=⟨rO t.1 o h,rO t.2 o h⟩
section
variable{P:zi}{w:xr}{K:Frag}{mg:Str->Option zy}{base:qq}{f C fI PL PC:zv}{cdv:zy}{fdI:xl}{A:xx}{outer:List Env}{s:zn}{H0:Hp}{E:XK}
theorem b0(R:R95 A s f cdv)(b2:Has P w K mg base 3 "_law_tree" ["_law_script","_law_at","_law_most"]<|spBuild K)(e3:Has P w K mg base 1 "_law_book" ["_law_tree_here"] spPart)(e4:Has P w K mg base 3 "grafted" ["tree","number","other"] spGra)(e8:LCls K mg C)(e7:Mk K C fI)(e5:aE P w K mg base CX0 1 fI fdI ["self","tree"]<|spLIni C)(e9:br K fdI ["self","tree"] [])(d1:List Stmt)(d2:TS)(h1:PSs (EL P w K mg base f cdv A outer s H0 E) d1 d2):
  ∃d0,PSs (EL P w K mg base f cdv A outer s H0 E) (lS 0::lS 1::lS 2::lS 3::d1) d0/\∀{L:Ends}{H:Hp}{a:zv}{d8 d9 e0 e1 e2 a7 a8 a9 b1 a0 a1 a2 a3 a4 a5 a6:Option V},ScrAt K H a->Tb PL PC H ->
   (∀ta oa bk p ua d pl al zs os us as Z H',Lc H' ta oa bk ua zs os us as Z->LAt C H' p ta ta d pl al zs zs [] [] []->Tb PL PC H'->d2 L (lσ a ta oa bk p ua a7 a8 a9 b1 a0 a1 a2 a3 a4 a5 a6) H')->d0 L [some<|.ref a,d8,d9,e0,e1,e2,a7,a8,a9,b1,a0,a1,a2,a3,a4,a5,a6] H:=by
 have S:Room 3 _:=R.mono (by decide);have g6:Room 2 _:=R.mono (by decide);have g5:Room 1 _:=R.mono (by decide);show{_,af (ar (i:=1) iW.nd rfl (Or.inl rfl)<|aO (r:=rCatN K) BI (aw b2 S<|aa (pv 0) (aa ai<|aa ai ae)) (aK<|ib (aK<|aa ai (aa ai<|aa aJ (aa cW ae))) (ib (aK<|aa ai (aa ai<|aa aJ (aa ai ae))) ae)))
   (af (ar (i:=2) iW.nd rfl (Or.inl rfl)<|aw b2 S (aa (pv 0)<|aa ai (aa ai ae)))
   (af (ar (i:=3) iW.nd rfl (Or.inr rfl)<|aw e3 g5 (aa (pv 2) ae))
   (af (wc<|rk (i:=4) (j:=5) rfl iW.nd rfl rfl (Or.inl rfl) (Or.inl rfl) rfl rfl (aK<|aa (tK e7 e5 g6 rfl e8.mgC e9 .nil bX<|aa (pv 1) ae) (aa (aw e4 S<|aa (pv 1) (aa ai<|aa (pv 2) ae)) ae))) h1))),?_}
 intro L H a d8 d9 e0 e1 e2 a7 a8 a9 b1 a0 a1 a2 a3 a4 a5 a6 c7 tb q;show{_,rfl,a,0,6,rfl,by decide,by decide,by decide,c7,λh3 g H1 g7 f4 i1 f7 c6 s1=>?_};show{aF (by decide),λv g3=>{aF (by decide),λx c9=>{le2,λc Q=>?_}}};obtain⟨H2,F⟩:∃H2,H2=(upd (upd (upd H1 v<|.tup [.int 20,.int 0,.str "zz",.non]) x<|.tup [.int 21,.int 20,.str "f",.int 5]) c<|.tup [.ref v,.ref x]):=⟨_,rfl⟩;have X:Same H1 H2:=F ▸ ((ag g3).trans (ag c9)).trans (ag Q);have f1:H2 v=some (.tup<|vals n20):=F ▸ bh Q (bh c9 ac);have f2:H2 x=some (.tup<|vals n21):=F ▸ bh Q ac;have f3:H2 c=some (.tup [.ref v,.ref x]):=F ▸ ac;rw[<-F];show{h3,c,_,_,rfl,rfl,SqT.of<|X _ _ g7,f3,by simp,(aF (by rw[ba];change g.length+2<=1000;lia)),λta h5 d4 g8=>?_};have f6:TW.Tree1 (nds g):={f7,λn t=>by let(z,k,rfl):=bZ t;show(c6 z k).1};have f5:∀n∈nds g,qV n:=λn t=>by let(z,k,rfl):=bZ t;show c6 z k
 have d3:=(s1.trans X).trans d4;show{_,rfl,a,200,4,rfl,by decide,by decide,by decide,c7.same d3,λoa os b3 g0 g1 i2 g2 c8 T=>?_};have O:TW.Tree1 (nds os):={g2,λn t=>by let(z,k,rfl):=bZ t;show(c8 z k).1};have J:Two (nds g) (nds os):={f6,O,f5,λn t=>by let(z,k,rfl):=bZ t;show c8 z k,by rw[au];lia,by rw[au];lia};have l:nds (g++[(v,n20),(x,n21)])=T0 (nds g):=by unfold T0 nds;rw[CG];rfl
 have I:Tre b3 ta (g++[(v,n20),(x,n21)]):=⟨by rw[T _ _ g8];unfold aI;rw[CG,CG];rfl,λz k=>by
  show T _ _<|d4 _ _ ?_;rcases C6.mp k with h|h
  .show X _ _ (f4 z h)
  .rcases B3.mp h with rfl|h
   .show f1
   .rw[B8.mp h];show f2,by rw[l];show jB J,by rw[B0];change g.length+2<=30;lia⟩
 generalize g++[(v,n20),(x,n21)]=zs at l I;have Y:Tre b3 oa os:=⟨g0,g1,O,by lia⟩;have i4:zs.length<=8:=by
  have:=congrArg length l;rw[au]at this;have:=J.zl;unfold T0 at *;rw[B0]at *;change _<=8;have e:[n20,n21].length=2:=rfl
  lia
 show{_,rfl,oa,os,rfl,Y,λbk as M h2 b0 c2 c0=>{bk,_,c0,λm=>?_}};have B:=aV (o:=.frz m<|.dK (cb as)) b0 h2;have N:upd M bk (.frz m<|.dK (cb as)) bk=some (.frz m<|.dK (cb as)):=ac;have c1:Book (upd M bk<|.frz m (.dK<|cb as)) bk as os:={.inr ⟨m,N⟩,c2.of,λa f8=>by
  have:=c2.at' a f8;rw[aj λe=>by rw[e,c0]at this;cases this];show this}
 generalize upd M bk (.frz m<|.dK (cb as))=D at B N c1|-;show{_,rfl,λp dx hp f9 i3=>?_};have W:Same D (upd (upd D dx<|.own p) p<|.ins C dx []):=λb o e=>by rw[aj<|ao e hp,aj<|ao e f9];show e
 have c5:upd (upd D dx<|.own p) p (.ins C dx []) p=some (.ins C dx []):=ac;generalize upd (upd D dx<|.own p) p (.ins C dx [])=h6 at W c5|-;show{p,dx,ta,zs,rfl,c5,(I.same B).same W,λd pl al H7 h8 h9 i0 e6 o=>{rfl,?_}};have d6:Same D H7:=λb u e=>o b u (W _ _ e) (by simpa using ao e hp);have d5:=B.trans d6;have c3:nds zs++shT 20 21 (nds os)=Gf (nds g) (nds os):=by rw[l,Fb O];rfl
 let(y,h0,c4):=bZ (show n20∈nds zs by rw[l];unfold T0;simp);have g9:(nums zs)[(nums zs).length-1]?=some 21:=by
  rw[show nums zs=(nds zs).map (·.num)by unfold nums nds;rw[A7];rfl,l];unfold T0;simp[n20,n21]
 show{_,rfl,_,rfl,ta,20,oa,zs,os,21,rfl,I.same d5,Y.same d5,.inr {y,h0,by rw[c4];rfl,by rw[c4];rfl},g9,by rw[c3];show ia J,by lia,λus ua h7 d7 h4 f0=>?_};show{le2,λr g4=>?_};have U:=ag (o:=.tup [.ref p,.ref ua]) g4;have G:=(d6.trans d7).trans U;show{r,_,_,rfl,SqT.of ac,q ta oa bk p ua d pl al zs os us as (nds g) _ {I.same<|B.trans G,Y.same<|B.trans G,c1.same G,⟨m,G _ _ N⟩,h4.same U,l,f0.trans c3,J} (e6.same<|d7.trans U)<|tb.same (((d3.trans T).trans B).trans G)}
end
theorem GQ{H:Hp}{p pl C a:zv}{fs:List _}{xs:List V}(d:H p=some (.ins C a fs))(h2:H pl=some (.lst xs)):∀b∈[p,pl],(∃xs,H b=some (.lst xs))\/∃C a fs,H b=some (.ins C a fs):=λb c=>by
 rcases B3.mp c with rfl|c
 .show .inr ⟨_,_,_,d⟩
 .rw[B8.mp c];show .inl ⟨_,h2⟩
section
variable{P:zi}{w:xr}{K:Frag}{mg:Str->Option zy}{base:qq}{f C PL PC:zv}{cdv:zy}{A:xx}{outer:List Env}{s:zn}{H0:Hp}{E:XK}
theorem b4(a4:R95 A s f cdv)(d2:LCls K mg C)(c9:HM P w K mg base C 5 "do" ["self","deed"]<|spLDo C)(c6:Has P w K mg base 2 "walked" ["tree"] spWal):
  ∃c4,PS (EL P w K mg base f cdv A outer s H0 E) (lS 4) c4/\∀{a0:Ends}{H:Hp}{a ta oa bk p ua d pl al:zv}{zs os us:ZN}{as:List (zv×(zv×Nd))}{Z:List Nd}{j m r u g J L M N O Q:Option V},Lc H ta oa bk ua zs os us as Z->LAt C H p ta ta d pl al zs zs [] [] []->Tb PL PC H ->
   (∀ns t al z es j m r u g H',Ord (nds os) ns->Lc H' ta oa bk ua zs os us as Z->LAt C H' p ta t d pl al zs z [] es []->Tb PL PC H'->nds z=Gf Z (nds os)->es.map (·.xs)=ns.map (λn=>aT<|mkD n)->a0.nx (lσ a ta oa bk p ua j m r u g J L M N O Q) H')->c4 a0 (lσ a ta oa bk p ua j m r u g J L M N O Q) H:=by
 let(g2,g3,d1,c7,d6):=c9;have e5:Room 5 _:=a4.mono (by decide);show{_,fZ PassesOwn.never rfl (bw<|aw c6 (a4.mono (by decide)) (aa (pv 2) ae)) (jD (n:=2) rfl<|bO (bf (i:=6) iW.nd rfl<|Or.inl rfl) (bO (bf (i:=7) iW.nd rfl<|Or.inl rfl) ig))
  (af (Co (cB (bv a4) (pv 3) (pv 7) λ_ _=>rfl)<|jD (n:=3) rfl (bO (bf (i:=8) iW.nd rfl<|Or.inl rfl)<|bO (bf (i:=9) iW.nd rfl<|Or.inl rfl) (bO (bf (i:=10) iW.nd rfl<|Or.inl rfl) ig)))
  (am<|aZ (gg (pv 4) d2.cl d1 c7 e5 d6 .nil bX<|aa (aK<|aa aJ (aa (aO bT (pv 7) ai)<|aa (fF (aq cT (pv 8) ai<|av _) ai<|aO bT (pv 8) ai) (aa (pv 9)<|aa (pv 10) ae))) ae))),?_}
 intro a0 H a ta oa bk p ua d pl al zs os us as Z j m r u g J L M N O Q W a1 tb q;show{_,rfl,oa,os,rfl,W.ur,λy l H1 s1 c5 g4 b2 b3=>?_};have B:=W.two;let(ns,Y,a7):=Fh B.o c5;have e9:ns.length=y.length:=by have:=congrArg length a7;simpa using this
 have f0:pl≠l:=ao a1.ps b2;let(g1,e4):=a1.ob;have f1:p≠l:=ao e4 b2;have f2:=B.ol;rw[au]at f2;have cl:y.length<=4:=by lia
 show{l,rfl,⟨_,SqL.of b3⟩,gH (xs:=y.map λc=>V.ref c.a) (λi σ H'=>∃t al z es j m r u g,σ=lσ a ta oa bk p ua j m r u g J L M N O Q/\Lc H' ta oa bk ua zs os us as Z/\LAt C H' p ta t d pl al zs z [] es []/\Tb PL PC H'/\nds z=Us Z (nds os) ns i/\es.map (·.xs)=(ns.take i).map (λn=>aT<|mkD n)/\H' l=some (.lst<|y.map λc=>V.ref c.a)/\∀c∈y,vL H' c)
  {ta,al,zs,[],j,m,r,u,g,rfl,W.stay<|cu s1,a1.same s1,tb.same s1,by rw[GH B];show W.ez,rfl,b3,c5.at'} (λi σ H' _ h=>?_) (λi x σ H2 c1 h=>?_) (λσ H' h=>?_)}
 .let(t,al,z,es,j,m,r,u,g,_,_,_,_,_,_,h,_):=h;show SqL.of h
 .let(t,al,z,es,j,m,r,u,g,rfl,L2,R,a6,D,I,e2,b1):=h;rw[B7]at c1;let(c,S,rfl):=map_eq_some_iff.mp c1;have hi:i<y.length:=(A9.mp S).1;have T:ns[i]?=some ns[i]:=A2 (by lia);have a3:ns[i].num=c.n:=by
   have h1:(ns.map (·.num))[i]?=some ns[i].num:=by rw[B7,T];rfl
   rw[a7,B7,S]at h1;show(Option.some.inj h1).symm
  generalize ns[i]=n at T a3;have c2:=Y.perm.mem_iff.mp<|C3 T;let(g7,e6,e0):=bZ c2;let(f3,a2,c0):=L2.bo.get (bi B.o) e6;rw[e0]at a2 c0;rw[a3]at a2;let(d7,g0):=b1 c<|C3 S;let(dx,hp):=R.ob;have f6:=uV B Y T;have G:=rL B;have g6:(Us Z (nds os) ns i).length<=12:=CL (D0 _ _) G;have f7:Us Z (nds os) ns i≠[]:=λe=>by
   have:n20∈Us Z (nds os) ns i:=fA.mpr {mR,.inl (by decide)};rw[e]at this;cases this
  have d8:ns.take (i+1)=ns.take i++[n]:=by rw[take_add_one,T];rfl
  have a8:∀k:Int,k=(if n.par=0 then 20 else n.par+21)->∀(v:zv),H2 v=none->spLDo C [.ref p,.ref v] (upd H2 v<|.tup [.str "make",.int<|c.n+21,.int k,.str n.nm,stV n.st]) (λ_ H'=>(∃t al z es j m r u g,lσ a ta oa bk p ua (some<|.ref c.t) (some<|.int c.n) (some<|.int n.par) (some<|.str n.nm) (some<|stV n.st) J L M N O Q=lσ a ta oa bk p ua j m r u g J L M N O Q/\Lc H' ta oa bk ua zs os us as Z/\LAt C H' p ta t d pl al zs z [] es []/\Tb PL PC H'/\nds z=Us Z (nds os) ns (i+1)/\es.map (·.xs)=(ns.take<|i+1).map (λn=>aT<|mkD n)/\H' l=some (.lst<|y.map λc=>V.ref c.a)/\∀c∈y,vL H' c)) E0:=λk e1 v U=>by
   have F:=ag (o:=.tup<|aT (mkD n)) U;have a9:upd H2 v (.tup<|aT (mkD n)) v=some (.tup<|aT (mkD n)):=ac;rw[show([V.str "make",.int<|c.n+21,.int k,.str n.nm,stV n.st]:List V)=aT (mkD n)by rw[e1,<-a3];rfl];generalize upd H2 v (.tup<|aT (mkD n))=f9 at F a9|-;show{p,ta,t,d,pl,al,zs,z,[],es,[],v,mkD n,_,rfl,R.same F,by rw[<-au,D];lia,λe=>f7 (by rw[<-D,e];rfl),a9,(uW (Z:=Z) B c2).1.ok.pos,?_,by rw[D];show f6,λf5 f8 g5 d5 c8 _ d9 d0 f4 c3=>?_}
   .have:=congrArg length I;rw[A1,A1,D6]at this
    lia
   .have a5:=(cu F).trans f4;have e3:∀{b:zv}{o:HO},H2 b=some o->b≠p->b≠pl->c8 b=some o:=λe e7 e8=>c3 _ _ (F _ _ e) (by simp[e7,e8]);show{f5,d5,f8,_,_,_,_,_,_,rfl,L2.stay a5,d0,(a6.same F).off c3 (GQ (F _ _ hp)<|F _ _ R.ps),d9,?_,e3 e2 f1.symm f0.symm,λc S=>?_}
    .rw[CG,I,d8,CG];rfl
    .let(d3,d4):=b1 c S;show{a5.tup d3,a5.tup d4}
  show{c.a,_,rfl,SqT.of d7,rfl,_,_,rfl,_,_,rfl,rfl,?_};show{_,rfl,_,rfl,bk,_,rfl,a2,f3,_,rfl,SqT.of c0,rfl,_,_,rfl,_,_,rfl,_,_,rfl,rfl,?_};show{_,rfl,p,dx,_,rfl,hp,bA,_,rfl,_,_,rfl,rfl,_,rfl,rfl,_,rfl,?_}
  by_cases X:n.par=0
  .rw[C7 (by rw[X])];show cp {_,rfl,_,rfl,(show 5<=sizeLine from aF (by decide)),λv U=>a8 20 (by rw[A6 X]) v U}
  .rw[B9 λe=>X (by injection e)];show aM {_,rfl,_,_,rfl,rfl,_,rfl,_,rfl,(show 5<=sizeLine from aF (by decide)),λv U=>a8 _ (by rw[A4 X]) v U}
 .let(t,al,z,es,j,m,r,u,g,rfl,L2,R,a6,D,I,_,_):=h;rw[A1,<-e9]at D I;rw[GJ B Y]at D;rw[take_length]at I;show q ns t al z es j m r u g H' Y L2 R a6 D I
end
structure Jl(PL PC C:zv)(H:Hp)(ta oa bk p ua t d pl al:zv)(zs os us z:ZN)(es ps:List Ent)(as:List<|zv×(zv×Nd))(Z:List Nd):Prop where
 L:Lc H ta oa bk ua zs os us as Z
 A:LAt C H p ta t d pl al zs z [] es ps
 tb:Tb PL PC H
section
variable{PL PC C:zv}{H H':Hp}{ta oa bk p ua t d pl al:zv}{zs os us z:ZN}{es ps:List Ent}{as:List (zv×(zv×Nd))}{Z:List Nd}
theorem Jl.same(j:Jl PL PC C H ta oa bk p ua t d pl al zs os us z es ps as Z)(s:Same H H'):Jl PL PC C H' ta oa bk p ua t d pl al zs os us z es ps as Z:={j.L.stay<|cu s,j.A.same s,j.tb.same s}
theorem oT{a:zv}{q:Str}(T:dY H a q)(o:fz a H H'):dm H H':=λ_ _ e _ _ n=>fc T o e n
theorem LAt.offp{gs:TG}{c:zv}{b:zv}{q:Str}(a:LAt C H p c t d pl al zs z gs es ps)(T:dY H b q)(o:fz b H H'):LAt C H' p c t d pl al zs z gs es ps:=by
 let(dx,hp):=a.ob;show a.off (oT T o) (λu e=>by rw[hp]at e;cases e;show fc T o hp λ_ a=>nomatch a) (λu e=>by rw[a.ps]at e;cases e;show fc T o a.ps λ_ a=>nomatch a) (λu e=>by rw[a.ah]at e;cases e;show fc T o a.ah λ_ a=>nomatch a)
theorem Jl.offp(j:Jl PL PC C H ta oa bk p ua t d pl al zs os us z es ps as Z)(n:PC≠PL)(o:fz PC H H')(g:dY H' PC wB):Jl PL PC C H' ta oa bk p ua t d pl al zs os us z es ps as Z:=by
 let(ps,h1,h2,h3):=j.tb.1;show{j.L.stay<|oT j.tb.2 o,j.A.offp j.tb.2 o,{ps,o _ _ n.symm h1,h2,λpos a e=>let⟨c,b,f⟩:=h3 pos a e;{c,b,fc j.tb.2 o f λ_ h=>nomatch h}},g}
end
theorem Fm{l m:List Int}(d:l.Pairwise λa b:Int=>a<b)(e:m.Pairwise λa b:Int=>a<b)(c:l.Perm m):l=m:=c.eq_of_pairwise (le:=(· < ·)) (λa b _ _ h1 h2=>by lia) d e
section
variable{P:zi}{w:xr}{K:Frag}{mg:Str->Option zy}{base:qq}{f C PL PC:zv}{cdv:zy}{A:xx}{outer:List Env}{s:zn}{H0:Hp}{E:XK}
theorem b5(T:Txt mg)(x:R95 A s f cdv)(v:LCls K mg C)(G:HM P w K mg base C 1 "now" ["self"]<|spLNow C)(I:HM P w K mg base C 1 "steps" ["self"]<|spLSte C):
  ∃B,PS (EL P w K mg base f cdv A outer s H0 E) (lS 5) B/\∀{c:Ends}{H:Hp}{a ta oa bk p ua t d pl al:zv}{zs os us z:ZN}{es:List Ent}{as:List (zv×(zv×Nd))}{Z:List Nd}{n o r u e g h i j k m:Option V},Jl PL PC C H ta oa bk p ua t d pl al zs os us z es [] as Z->nds z=Gf Z (nds os)->es.length=os.length ->
   (∀H',Same H H'->c.nx (lσ a ta oa bk p ua n o r u e g h i j k m) H')->B c (lσ a ta oa bk p ua n o r u e g h i j k m) H:=by
 let(U,X,J,D,N):=G;let(W,Y,M,F,O):=I;have y:Room 1 _:=x.mono (by decide);show{_,aQ (PW.pt<|pw_or (aq (iH<|jP x) (bp (pv 4) v.cl J D y N .nil bX) (pv 5)<|av _) (pw_or1<|aq eG (ay aP rfl T.len F3<|aa (bp (pv 4) v.cl M F y O .nil bX) ae) (ay aP rfl T.len F3<|aa (pv 2) ae) (av _))) aA ax,?_};intro c H a ta oa bk p ua t d pl al zs os us z es as Z n o r u e g h i j k m b R Q q;let(dx,hp):=b.A.ob;have a0:=b.L.ur.len;show{_,rfl,p,dx,_,rfl,hp,bA,p,ta,t,d,pl,al,zs,z,[],es,[],rfl,b.A,_,rfl,.inr {t,ua,_,_,rfl,rfl,cz (R.trans b.L.eu.symm) b.A.tr.nod b.L.gr.nod,.inr ⟨b.A.tr.tup,b.L.gr.tup⟩,_,rfl,aM ?_}};show{_,rfl,p,dx,_,rfl,hp,bA,p,ta,t,d,pl,al,zs,z,[],es,[],rfl,b.A,by lia,λl H1 s1 S=>{l,_,rfl,.inl<|SqL.of S,_,rfl,oa,_,rfl,.inr<|SqT.of (b.same s1).L.ur.tup,rfl,_,rfl,?_}};rw[A1,ba,Q];simp only[decide_true,Bool.not_true];show aM<|q H1 s1
end
theorem zO{Z O:List Nd}(b:Two Z O):((Gf Z O).filter λn=>decide<|n.par=20).map (·.num)=21::(O.filter λn=>decide<|n.par=0).map λn=>n.num+21:=by
 have c:Z.filter (λn=>decide<|n.par=20)=[]:=List.filter_eq_nil_iff.mpr λn a e=>by
  have:=zH b (CT _ a)<|of_decide_eq_true e;rw[this]at a;show absurd (b.zg n21 a).2.1 (by decide)
 have d:(O.map<|TW.grN 20 21).filter (λn=>decide<|n.par=20)=(O.filter λn=>decide<|n.par=0).map (TW.grN 20 21):=by
  rw[filter_map];show congrArg _<|filter_congr λn a=>?_;change decide ((if n.par=0 then (20:Int)else n.par+21)=20)=_
  rcases TW.gD b.o a with e|⟨m,f,e⟩
  .rw[A6 e,e];rfl
  .have:=b.o.pos m f;rw[A4 (by lia),B9 (by lia),B9 (by lia)]
 unfold Gf T0;rw[filter_append,filter_append,c,d,List.nil_append,CG,A7];rfl
theorem zP{zs:ZN}(g:Nd->Bool):nums (zs.filter λz=>g z.2)=((nds zs).filter g).map (·.num):=by
 unfold nums nds;rw[filter_map,A7];rfl
theorem tF(H:Hp)(ms:List Int):fM H (ms.map V.int) (ms.map V.int):={rfl,λi x y a hy=>by
 rw[a]at hy;cases hy;let(k,_,rfl):=A3.mp<|C3 a;show mw ⟨rfl,rfl⟩}
section
variable{P:zi}{w:xr}{K:Frag}{mg:Str->Option zy}{base:qq}{f C PL PC:zv}{cdv:zy}{A:xx}{outer:List Env}{s:zn}{H0:Hp}{E:XK}
theorem b6(T:Txt mg)(v:R95 A s f cdv)(n:PC≠PL)(a9:Has P w K mg base 4 "children" ["tree","number"]<|spChk PC):
  ∃a6,PS (EL P w K mg base f cdv A outer s H0 E) (lS 6) a6/\∀{l:Ends}{H:Hp}{a ta oa bk p ua t d pl al:zv}{zs os us z:ZN}{es:List Ent}{as:List (zv×(zv×Nd))}{Z:List Nd}{Q R S U F G I J M N O:Option V},Jl PL PC C H ta oa bk p ua t d pl al zs os us z es [] as Z ->
   (∀H',Jl PL PC C H' ta oa bk p ua t d pl al zs os us z es [] as Z->l.nx (lσ a ta oa bk p ua Q R S U F G I J M N O) H')->a6 l (lσ a ta oa bk p ua Q R S U F G I J M N O) H:=by
 show{_,aQ (aq (iH<|jP v) (ay dB rfl T.sorted Ee<|aa (aw a9 (v.mono (by decide))<|aa (pv 5) (aa ai ae)) ae)
  (ay dB rfl T.sorted Ee<|aa (aO Cz (cP<|aa ai ae)<|cN (fs:=["_law_book_here"]) (js:=[3]) lcF (BO<|pv 3) (λs H fp=>aq cT (ixT K (cB (bv v) (pv 1) (pv 0) λ_ _=>rfl) ai) ai<|av _) (λs H fp=>aO bT (pv 0) ai)) ae) (av _)) aA ax,?_}
 intro l H a ta oa bk p ua t d pl al zs os us z es as Z Q R S U F G I J M N O b q;have e0:=b.L.two;let(y,d3,g):=bZ (show n20∈nds us by rw[b.L.eu];show mR);have b2:nums (us.filter<|eQ 20)=21::(os.filter λz=>decide<|z.2.par=0).map λz=>z.2.num+21:=by
  show(zP λn=>decide<|n.par=20).trans ?_;rw[b.L.eu,zO e0];unfold nds;rw[filter_map,A7];rfl
 have a5:(nums<|us.filter (eQ 20)).Nodup:=(fV<|lx b.L.gr.tr).sublist (D1.map _);have e5:(nums<|us.filter (eQ 20)).length<=30:=by
  unfold nums;rw[A1];show CL (D0 _ _) b.L.gr.len
 show{_,rfl,ua,20,us,rfl,b.L.gr,.inr {y,d3,by rw[g];rfl,by rw[g];rfl},b.tb.2,λd2 ns H1 d4 d9 u c1=>?_};have X:=b.offp n d4 d9;show{d2,ns,rfl,c1,u.nodup_iff.mpr a5,by rw[u.length_eq];lia,λc c4 up1 k c5=>?_};have B:=ag (o:=.lst<|c.map V.int) c5;have Y:upd H1 k (.lst<|c.map V.int) k=some (.lst<|c.map V.int):=ac;generalize upd H1 k (.lst<|c.map V.int)=H2 at B Y|-;show{aF (by decide),λi c2=>?_};have D:=ag (o:=.lst [.int 21]) c2;have a0:upd H2 i (.lst [.int 21]) i=some (.lst [.int 21]):=ac;generalize upd H2 i (.lst [.int 21])=e2 at D a0|-;have d7:=B.trans D;have m:=X.same d7;let(c0,a2):=m.L.bd;have e4:=m.L.ur.len;show{_,rfl,bk,c0,_,rfl,a2,λp2 c6=>?_};have b3:(cb as).map (λx=>kV x.1)=os.map λz=>V.int z.2.num:=by
  rw[<-b.L.bo.of];unfold cb;rw[A7,A7];rfl
 show cZ (fr:=[some<|.ref bk]) os (λz=>V.int z.2.num) (by lia) c6 (by rw[<-b3];show qQ a2) rfl (λz=>decide<|z.2.par=0) (λz y _=>y=.int (z.2.num+21)) (λ_ _ _ _ h _=>h) (λz H' d1 a4 e _ r=>?_) (λz H' d1 a4 _ e _ r=>{_,rfl,_,_,rfl,rfl,r _ H' (Same.refl _) rfl}) λys W e a3 d0=>?_
 .let(d6,b1,c9):=(m.same e).L.bo.get (bi b.L.ur.tr) a4;show{_,rfl,_,rfl,bk,_,rfl,b1,d6,_,_,_,rfl,rfl,SqT.of c9,rfl,rfl,_,rfl,?_};rw[show decide (V.int z.2.par=V.int 0)=decide (z.2.par=0)by simp];show r H'<|Same.refl _
 have g:=aG (f:=λz:zv×Nd=>V.int<|z.2.num+21) d0 λz y _ h=>h;rw[g]at a3;show{i,p2,_,_,rfl,rfl,e _ _ a0,a3,aF (by rw[A1];have:=D0 (λz:zv×Nd=>decide<|z.2.par=0) os;change 1+_<=1000;lia),λj c3=>?_};have a8:=ag (o:=.lst<|[.int 21]++(os.filter λz=>decide<|z.2.par=0).map λz=>V.int<|z.2.num+21) c3;have a1:upd W j (.lst<|[.int 21]++(os.filter λz=>decide<|z.2.par=0).map λz=>V.int<|z.2.num+21) j=some (.lst<|(nums<|us.filter (eQ 20)).map V.int):=by
  rw[ac,b2,CM,A7];rfl
 generalize upd W j (.lst<|[.int 21]++(os.filter λz=>decide<|z.2.par=0).map λz=>V.int<|z.2.num+21)=e3 at a8 a1|-;show{j,_,rfl,a1,a5,by lia,λe6 c7 e1 d5 c8=>?_};obtain rfl:=Fm up1 e1<|(c4.trans u).trans c7.symm;have d8:=ag (o:=.lst<|c.map V.int) c8;have a7:=((D.trans e).trans a8).trans d8;show .inr {k,d5,_,_,rfl,rfl,tF _ c,.inl ⟨a7 _ _ Y,ac⟩,_,rfl,aM<|q _ (X.same<|B.trans a7)}
theorem Jl.did{H a:Hp}{b f bk p g t d pl al t' c:zv}{zs os h z i:ZN}{m es' ps:List Ent}{e:List (zv×(zv×Nd))}{Z:List Nd}(j:Jl PL PC C H b f bk p g t d pl al zs os h z m ps e Z)(l:LAt C a p b t' d pl c zs i [] es' [])(k:dm H a)(o:Off [p,pl] H a):Jl PL PC C a b f bk p g t' d pl c zs os h i es' [] e Z :=
 let⟨_,hp⟩:=j.A.ob
 {j.L.stay k,l,j.tb.off o<|GQ hp j.A.ps}
theorem b7(T:R95 A s f cdv)(N:LCls K mg C)(I:HM P w K mg base C 5 "do" ["self","deed"]<|spLDo C):
  ∃B,PS (EL P w K mg base f cdv A outer s H0 E) (lS 7) B/\∀{b:Ends}{H:Hp}{a ta oa bk p ua t d pl al:zv}{zs os us z:ZN}{es:List Ent}{as:List (zv×(zv×Nd))}{Z:List Nd}{r u v x h i j k l m n:Option V},Jl PL PC C H ta oa bk p ua t d pl al zs os us z es [] as Z->nds z=Gf Z (nds os)->es.length<=4 ->
   (∀t al z e H',Jl PL PC C H' ta oa bk p ua t d pl al zs os us z (es++[e]) [] as Z->nds z=Wg Z (nds os)->e.xs=aT (.write 21 77)->b.nx (lσ a ta oa bk p ua r u v x h i j k l m n) H')->B b (lσ a ta oa bk p ua r u v x h i j k l m n) H:=by
 let(a3,a4,M,D,Q):=I;show{_,aZ<|gg (pv 4) N.cl M D (T.mono (by decide)) Q .nil bX (ib (aK<|aa aJ (aa ai<|aa ai ae)) ae),?_};intro b H a ta oa bk p ua t d pl al zs os us z es as Z r u v x h i j k l m n c g a2 q;let(dx,hp):=c.A.ob;show{_,rfl,p,dx,_,rfl,hp,bA,aF (by decide),λX S=>?_};have s1:=ag (o:=.tup<|aT (.write 21 77)) S;have y:=c.same s1;have G:=rL c.L.two;have U:z≠[]:=λe=>by
  have:n20∈nds z:=by rw[g];show mR
  rw[e]at this;cases this
 show{p,ta,t,d,pl,al,zs,z,[],es,[],X,.write 21 77,_,rfl,y.A,by rw[<-au,g];lia,U,ac,trivial,by lia,by rw[g];show pU,λa0 a1 a5 O F _ R J Y W=>q a0 O a1 _ F (y.did J Y W) R rfl}
theorem b8(T:Txt mg):∃I,PS (EL P w K mg base f cdv A outer s H0 E) (lS 8) I/\∀{d:Ends}{H:Hp}{a ta oa bk p ua:zv}{zs:ZN}{t u v B j M k l m n r:Option V},Tre H ta zs->n21∈nds zs ->
   (∀L ws H',Same H H'->Tre H' L ws->nds ws=(nds zs).map (TW.put n77)->d.nx (lσ a ta oa bk p ua t u v B j (some<|.ref L) k l m n r) H')->I d (lσ a ta oa bk p ua t u v B j M k l m n r) H:=by
 show{_,ar (i:=11) iW.nd rfl (Or.inl rfl)<|aD aS rfl T.tuple rfl (aa (bH lcS (bE<|pv 1) λs H fp=>fF (aq eG (ixT K (pv 0) ai) ai<|av _) (pv 0)<|aK (aa ai<|aa ai (aa aJ<|aa ai ae))) ae),?_};intro d H a ta oa bk p ua zs t u v B j M k l m n r c a2 q;have W:=c.len;show{_,rfl,ta,rfl,⟨_,SqT.of c.tup⟩,λp2 X=>?_};show bq (fr:=[]) zs (λz=>V.ref z.1) (by lia) X (bx (by rw[aN];show SqT.of c.tup)) rfl (λz y H'=>∃q,y=.ref q/\q≠p2/\H' q=some (.tup<|vals (TW.put n77 z.2))) (λz y H H' ⟨q,e,G,h⟩ ex=>⟨q,e,G,ex q _ G h⟩) (λz H' a8 a3 s1 D C=>?_) λys N a6 Y a1=>?_
 .have b:=s1 _ _<|c.nod z a3;have a4:z.1≠p2:=λU=>by
   let(ys,h):=D;rw[<-U,b]at h;cases h
  show{_,rfl,z.1,_,_,_,rfl,rfl,SqT.of b,at0 z.2,rfl,_,rfl,?_}
  by_cases e:z.2.num=21
  .rw[show(!decide (V.int z.2.num=V.int 21))=false by simp[e]];show aM {(show 4<=sizeLine from aF (by decide)),λa5 F=>C _ _ (ag F) {a5,rfl,fi D F,by rw[TW.cK (z:=n77) e];show ac}}
  .rw[show(!decide (V.int z.2.num=V.int 21))=true by simp[e]];show cp {_,rfl,C _ H' (Same.refl _) {z.1,rfl,a4,by rw[TW.bj (z:=n77) e];show b}}
 .let(bs,O,Q,R):=dD (val:=V.ref) (S:=λ(z:zv×Nd) (q:zv)=>N q=some (.tup<|vals (TW.put n77 z.2))) a1 λz y _ ⟨q,e,_,h⟩=>⟨q,e,h⟩;show{p2,_,rfl,.inl {SqL.of Y,λa7 Z=>?_}};have J:=ag (o:=.tup ys) Z;have g:nds (bs.map λx=>(x.2,TW.put n77 x.1.2))=(nds zs).map (TW.put n77):=by rw[<-O];unfold nds;rw[A7,A7,A7];rfl
  show q a7 (bs.map λx=>(x.2,TW.put n77 x.1.2)) _ (a6.trans J) {by rw[ac,Q,<-aN,A7];rfl,λz b=>?_,?_,by rw[<-au,g,A1,au];show W} g
  .let(x,a0,rfl):=A3.mp b;show J _ _<|R x a0
  .rw[g];show(TW.Told.wrote (y:=n21) a2 rfl (by decide):TW.Told (nds zs) (.write 21 77) _).tree c.tr trivial
theorem b9(g:R95 A s f cdv)(N:LCls K mg C)(a0:HM P w K mg base C 1 "now" ["self"]<|spLNow C)(X:Has P w K mg base 6 "merged" ["first","one","other"] spMer)(Y:Has P w K mg base 2 "stamped" ["tree","low","high"] spSta):
  ∃U,PS (EL P w K mg base f cdv A outer s H0 E) (lS 9) U/\∀{h:Ends}{H:Hp}{a ta oa bk p ua t d pl al e:zv}{zs os us z ws:ZN}{es:List Ent}{as:List (zv×(zv×Nd))}{Z:List Nd}{D F G I o r u v x B:Option V},Jl PL PC C H ta oa bk p ua t d pl al zs os us z es [] as Z->nds z=Wg Z (nds os)->Tre H e ws->nds ws=(T0 Z).map (TW.put n77) ->
   (∀H',Same H H'->h.nx (lσ a ta oa bk p ua D F G I o (some<|.ref e) r u v x B) H')->U h (lσ a ta oa bk p ua D F G I o (some<|.ref e) r u v x B) H:=by
 let(a8,a9,M,J,O):=a0;have T:Room 1 _:=g.mono (by decide);show{_,aQ (PW.pt<|pw_or (aq (iH<|jP g) (aw X (g.mono (by decide))<|aa (pv 1) (aa (pv 5)<|aa (pv 11) ae)) (bp (pv 4) N.cl M J T O .nil bX)<|av _) (pw_or1<|aq jb ai (aw Y (g.mono (by decide))<|aa (bp (pv 4) N.cl M J T O .nil bX) (aa ai<|aa ai ae)) (by with_unfolding_all rfl))) aA ax,?_};intro h H a ta oa bk p ua t d pl al e zs os us z ws es as Z D F G I o r u v x B b R a7 a1 q;have k:=b.L.two;have i:(nds us).map (TW.put n77)=Wg Z (nds os):=by rw[b.L.eu];rfl
 show{_,rfl,_,rfl,_,rfl,ta,ua,e,zs,us,ws,n21,n77,rfl,b.L.tr,b.L.gr,a7,Hv k b.L.ez b.L.eu a1,by rw[i];show pV k,by rw[i];show λn a3=>(GK k n a3).1,λms m H1 s1 W Q=>?_};have c:=b.same s1;let(dx,hp):=c.A.ob;rw[i]at Q;show{_,rfl,p,dx,_,rfl,hp,bA,p,ta,t,d,pl,al,zs,z,[],es,[],rfl,c.A,.inr {m,t,_,_,rfl,rfl,cz (Q.trans R.symm) W.nod c.A.tr.nod,.inr ⟨W.tup,c.A.tr.tup⟩,_,rfl,aM ?_}};show{_,rfl,p,dx,_,rfl,hp,bA,p,ta,t,d,pl,al,zs,z,[],es,[],rfl,c.A,t,z,77,77,rfl,c.A.tr,λl H2 a6 S=>?_};let(y,a5,j):=bZ (show n77∈nds z by rw[R];show BE);have a2:(yN<|(z.filter isF).filter (inS 77 77))=(nums<|(z.filter isF).filter (inS 77 77)).map V.int:=by unfold yN nums;rw[A7];rfl
 rw[a2]at S;show{l,_,rfl,.inl<|SqL.of S,rfl,oo _,_,rfl,?_};change if (!inV (.int 21) _)=true then _ else _
 have a4:(21:Int)∈nums ((z.filter isF).filter (inS 77 77)):=A3.mpr {y,CF.mpr {CF.mpr {a5,by unfold isF;rw[j];rfl},by unfold inS;rw[j];rfl},by rw[j];rfl};rw[uh,C7 a4];show aM<|q H2 (s1.trans a6)
end
theorem zQ(xs:List V):iu xs none (some 1)=xs.take 1:=by
 cases xs with
 |nil=>rfl
 |cons a r=>show zd (k:=1) (by simp)
section
variable{P:zi}{w:xr}{K:Frag}{mg:Str->Option zy}{base:qq}{f C PL PC:zv}{cdv:zy}{A:xx}{outer:List Env}{s:zn}{H0:Hp}{E:XK}
theorem b10(D:R95 A s f cdv)(v:LCls K mg C)(g1:HM P w K mg base C 5 "do" ["self","deed"]<|spLDo C)(g2:HM P w K mg base C 1 "now" ["self"]<|spLNow C)(HB:HM P w K mg base C 2 "back" ["self"]<|spLBk C)(d2:Has P w K mg base 4 "cut_out" ["tree","number"] spCut)(f6:Has P w K mg base 3 "depth_of" ["tree","number"] spDep):
  ∃e9,PS (EL P w K mg base f cdv A outer s H0 E) (lS 10) e9/\∀{b2:Ends}{H:Hp}{a ta oa bk p ua t d pl al:zv}{zs os us z:ZN}{es:List Ent}{as:List (zv×(zv×Nd))}{Z:List Nd}{S T U W N O c g k Q R:Option V},Jl PL PC C H ta oa bk p ua t d pl al zs os us z es [] as Z->nds z=Wg Z (nds os)->es.length<=5 ->
   (∀al ps c g k H',Jl PL PC C H' ta oa bk p ua t d pl al zs os us z es ps as Z->b2.nx (lσ a ta oa bk p ua S T U W N O c g k Q R) H')->e9 b2 (lσ a ta oa bk p ua S T U W N O c g k Q R) H:=by
 let(l1,l4,g6,f8,g7):=g1;let(l2,l5,a2,Y,a3):=g2;let(l0,l3,g5,f7,bB):=HB;have a4:Room 1 _:=D.mono (by decide);have e0:Room 4 _:=D.mono (by decide);have e1:=jP D;show{_,fZ PassesOwn.never rfl (bw<|cH lh (cN lcS (bE<|pv 5) (λs H fp=>PW.pt<|pw_and (aq cT (ixT K (pv 0) ai) ai<|av _) (pw_and1<|aq iC (ixT K (pv 0) ai) cW (av _))) λs H fp=>ixT K (pv 0) ai) dR (cX ai)) (bf (i:=12) iW.nd rfl<|Or.inl rfl)
  (af (rk (i:=13) (j:=14) rfl iW.nd rfl rfl (Or.inl rfl) (Or.inl rfl) rfl rfl<|aK (aa (aw d2 e0<|aa (pv 5) (aa (pv 12) ae))<|aa (bp (pv 4) v.cl a2 Y a4 a3 .nil bX) ae))
  (af (aZ<|gg (pv 4) v.cl g6 f8 (D.mono (by decide)) g7 .nil bX (ib (aK<|aa aJ (aa (pv 12)<|aa ai (aa aJ ae))) ae))
  (af (aQ (PW.pt<|pw_or (aq (iH e1) (aw d2 e0<|aa (bp (pv 4) v.cl a2 Y a4 a3 .nil bX) (aa (pv 12) ae)) (pv 13)<|av _) (pw_or1<|aq eG (aw f6 (D.mono (by decide))<|aa (bp (pv 4) v.cl a2 Y a4 a3 .nil bX) (aa (pv 12) ae)) ai (av _))) aA ax)
  (am<|aQ (PW.pt<|pw_or (aq eG (bp (pv 4) v.cl g5 f7 (D.mono (by decide)) bB .nil bX) aJ<|av _) (pw_or1<|aq (iH e1) (bp (pv 4) v.cl a2 Y a4 a3 .nil bX) (pv 14) (av _))) aA ax)))),?_}
 intro b2 H a ta oa bk p ua t d pl al zs os us z es as Z S T U W N O c g k Q R m c3 k9 q;have M:=m.L.two;have G:=rL M;have l8:=m.L.gr.len;show{_,rfl,ua,rfl,⟨_,SqT.of m.L.gr.tup⟩,λj9 i3=>?_};show cZ (fr:=[]) us (λz=>V.ref z.1) (by lia) i3 (bx (by rw[aN];show SqT.of m.L.gr.tup)) rfl (λz=>decide (z.2.par=20)&&decide (stV z.2.st=V.non)) (λz y _=>y=.int z.2.num) (λ_ _ _ _ h _=>h) (λz H' j4 c8 s1 _ B=>?_) (λz H' j4 c8 _ s1 _ B=>{_,rfl,z.1,_,_,_,rfl,rfl,SqT.of<|s1 _ _ (m.L.gr.nod z c8),at0 z.2,B _ H' (Same.refl _) rfl}) λys H1 s1 i4 j1=>?_
 .have d6:=SqT.of (K:=K)<|s1 _ _ (m.L.gr.nod z c8);show{_,rfl,z.1,_,_,_,rfl,rfl,d6,at1 z.2,rfl,_,rfl,?_}
  by_cases e:z.2.par=20
  .rw[show decide (V.int z.2.par=V.int 20)=true by simp[e]];rw[C7 e,Bool.true_and]at B;show cp {_,rfl,z.1,_,_,_,rfl,rfl,d6,at3 z.2,rfl,_,rfl,B H'<|Same.refl _}
  .rw[show decide (V.int z.2.par=V.int 20)=false by simp[e]];rw[B9 e,Bool.false_and]at B;show aM<|B H' (Same.refl _)
 have h8:=aG (f:=λz:zv×Nd=>V.int z.2.num) j1 λz y _ h=>h;have j5:∀x∈ys,∃y∈nds us,x=.int y.num/\y.par=20/\y.st=none:=λx a5=>by
  rw[h8]at a5;let(y,hy,rfl):=A3.mp a5;let(h1,h2):=CF.mp hy;rw[D7,C8,C8]at h2;show{y.2,bK h1,rfl,h2.1,?_};cases e:y.2.st with
  |none=>rfl
  |some i=>rw[e]at h2;cases h2.2
 show{_,rfl,j9,_,rfl,SqL.of i4,λl c7=>?_};rw[zQ];have f0:=ag (o:=.lst<|ys.take 1) c7;have c5:upd H1 l (.lst<|ys.take 1) l=some (.lst<|ys.take 1):=ac;have b3:=m.same s1;have e5:l≠p:=by let(_,hp):=b3.A.ob;show(ao hp c7).symm
 have e4:l≠pl:=(ao b3.A.ps c7).symm;generalize upd H1 l (.lst<|ys.take 1)=H2 at f0 c5|-;show{l,rfl,⟨_,SqL.of c5⟩,gH (xs:=ys.take 1) (λi σ H'=>∃al ps c g k,σ=lσ a ta oa bk p ua S T U W N O c g k Q R/\Jl PL PC C H' ta oa bk p ua t d pl al zs os us z es ps as Z/\H' l=some (.lst<|ys.take 1))
  {al,[],c,g,k,rfl,b3.same f0,c5} (λi σ H' _ ⟨_,_,_,_,_,_,_,h⟩=>SqL.of h) (λi x σ k5 a5 h=>?_) (λσ H' ⟨al,ps,c,g,k,e,j,_⟩=>e ▸ q al ps c g k H' j)}
 let(d5,e8,c,g,k,rfl,c0,i0):=h;let(y,e2,rfl,b1,X):=j5 x<|List.mem_of_mem_take (C3 a5);have a7:y∈Gf Z (nds os):=by rw[<-m.L.eu];show e2
 let(k4,j6,d8):=bZ e2;let(dx,hp):=c0.A.ob;show{_,rfl,_,rfl,ua,y.num,us,rfl,c0.L.gr,.inr {k4,j6,by rw[d8],by rw[d8];show X},λa6 ics f9 c9 k3 h6=>?_};have d3:=c0.same c9;show{_,rfl,p,dx,_,rfl,c9 _ _ hp,bA,p,ta,t,d,pl,d5,zs,z,[],es,e8,rfl,d3.A,le2,λr j0=>?_};have d0:=ag (o:=.tup [.ref a6,.ref t]) j0;show{r,_,_,rfl,SqT.of ac,?_};have c1:=d3.same d0;have f3:=k3.same d0;have c6:=d0 _ _<|c9 _ _ i0;change vb _ _ _ (lσ a ta oa bk p ua S T U W N O (some<|.int y.num) (some<|.ref a6) (some<|.ref t) Q R) _;generalize upd f9 r (.tup [.ref a6,.ref t])=k6 at c1 f3 c6|-;let(g8,i5):=c1.A.ob;show{_,rfl,p,g8,_,rfl,i5,bA,_,rfl,(show 4<=sizeLine from aF (by decide)),λk0 i9=>?_};have a8:=ag (o:=.tup<|aT (.move y.num 0 "top")) i9;have d4:=c1.same a8;have j7:z≠[]:=λe=>by
  have:n77∈nds z:=by rw[c3];show BE
  rw[e]at this;cases this
 have l9:z.length<=12:=by
  have:=congrArg length c3;unfold Wg at this;rw[au,A1]at this
  lia
 show{p,ta,t,d,pl,d5,zs,z,[],es,e8,k0,.move y.num 0 "top",_,rfl,d4.A,by lia,j7,ac,trivial,by lia,by rw[c3];show pW M a7 b1 X,λJ F l6 al7 g0 h9 c2 a1 f2 e6=>?_};have g3:=d4.did a1 f2 e6;have f4:=(f3.same a8).stay f2;have i1:g0 l=some (.lst<|ys.take 1):=e6 _ _ (a8 _ _ c6) (by simp[e5,e4]);have j8:l≠al7:=ao (a8 _ _ c6) h9;let(g9,i6):=a1.ob;let(d1,e3,d7):=bZ (show nT y.num∈nds F by rw[c2];show(mS M a7 b1 X).mpr (.inl rfl));have c4:d1.2.num=y.num:=by rw[d7];rfl
 show{_,rfl,p,g9,_,rfl,i6,bA,p,ta,J,d,pl,al7,zs,F,[],_,[],rfl,a1,_,rfl,J,y.num,F,rfl,a1.tr,.inr {d1,e3,c4,by rw[d7];rfl},λj2 j3 k7 a9 f5 h7=>?_};have a0:=g3.same a9;have h5:nds j3=nds ics:=by rw[h7,h6,c2,Fi M a7 b1 X,m.L.eu]
 show{_,rfl,.inr {j2,a6,_,_,rfl,rfl,cz h5 f5.nod (f4.same a9).nod,.inr {f5.tup,(f4.same a9).tup},_,rfl,aM ?_}};let(h0,i7):=a0.A.ob;show{_,rfl,p,h0,_,rfl,i7,bA,p,ta,J,d,pl,al7,zs,F,[],_,[],rfl,a0.A,_,rfl,J,F,d1,[("top":Str)],by rw[c4];rfl,a0.A.tr,e3,by rw[c4,c2];show BF M a7 b1 X,λk8 f1=>?_};have u:=a0.same f1;let(h3,d9):=u.A.ob;show{rfl,_,rfl,aM ?_};show{_,rfl,p,h3,_,rfl,d9,bA,p,ta,J,d,pl,al7,zs,F,[],es,_,.str "move",[],rfl,u.A,rfl,by decide,λl7 HB n k1 e7=>?_};have i2:HB l=some (.lst<|ys.take 1):=e7 _ _ (f1 _ _<|a9 _ _ i1) (by simp[e5,e4,j8]);have k2:Tb PL PC HB:=u.tb.off e7 λb I=>by
  rcases B3.mp I with rfl | I
  .show .inr ⟨_,_,_,d9⟩
  rcases B3.mp I with rfl | I
  .show .inl ⟨_,u.A.ps⟩
  .rw[B8.mp I];show .inl ⟨_,u.A.ah⟩
 have g4:Jl PL PC C HB ta oa bk p ua t d pl al7 zs os us z es _ as Z:=⟨u.L.stay k1,n,k2⟩;let(h4,i8):=n.ob;show{rfl,_,rfl,aM {_,rfl,p,h4,_,rfl,i8,bA,p,ta,t,d,pl,al7,zs,z,[],es,_,rfl,n,_,rfl,.inr {t,t,_,_,rfl,rfl,cz rfl n.tr.nod n.tr.nod,.inr ⟨n.tr.tup,n.tr.tup⟩,_,rfl,aM ?_}}};show{al7,_,_,_,_,rfl,g4,i2}
end
theorem zR{d:TW.Deed Str}(c:dc d):(aT d).length<=9/\∀x∈aT d,pR x:=by
 have b:∀n:Int,0<=n->n<=999->pR (.int n):=λn h h1=>.inr<|.inr ⟨n,rfl,h,by lia⟩;have ks:∀x:Str,x.length<=100->pR (.str x):=λx c=>.inr<|.inl ⟨x,rfl,c⟩;cases d with
 |make n p nm st =>
  let(h1,h2,h3,f,e,g):=c;show{(by decide:5<=9),λx a=>?_};simp only[aT,B3,CU,G3]at a;rcases a with rfl|rfl|rfl|rfl|rfl
  .show ks _ (by decide +kernel)
  .show b _ (by lia) (by lia)
  .show b _ (by lia) (by lia)
  .show ks _ e.len
  .cases st with
   |none=>show .inl rfl
   |some i=>show b i (g i rfl).1 (g i rfl).2
 |write n st =>
  let(h1,h2,h3,f):=c;show{(by decide:3<=9),λx a=>?_};simp only[aT,B3,CU,G3]at a;rcases a with rfl|rfl|rfl
  .show ks _ (by decide +kernel)
  .show b _ (by lia) (by lia)
  .show b _ (by lia) (by lia)
 |move n p nm =>
  let(h1,h2,h3,f,e):=c;show{(by decide:4<=9),λx a=>?_};simp only[aT,B3,CU,G3]at a;rcases a with rfl|rfl|rfl|rfl
  .show ks _ (by decide +kernel)
  .show b _ (by lia) (by lia)
  .show b _ (by lia) (by lia)
  .show ks _ e.len
 |drop n =>
  show{(by decide:2<=9),λx a=>?_};simp only[aT,B3,CU,G3]at a;rcases a with rfl|rfl
  .show ks _ (by decide +kernel)
  .have c:1<=n/\n<=60:=c;show b _ (by lia) (by lia)
def Ut(Z O ns:List Nd)(i:Nat):List Nd:=if i<=ns.length then Us Z O ns i else Wg Z O
def dsT(ns:List Nd):List (TW.Deed Str):=ns.map mkD++[.write 21 77]
theorem zS{Z O ns:List Nd}(b:Two Z O)(o:Ord O ns):Steps (Ut Z O ns) (dsT ns):=by
 have f:ns.length<=4:=by have:=o.perm.length_eq;have:=b.ol;lia
 have G:=rL b;show{λd a=>?_,by unfold dsT;rw[B0,A1];change _+1<=9;lia,λi d a=>?_,λi _=>?_}
 .rcases C6.mp a with a|a
  .let(n,c,rfl):=A3.mp a;show uW (Z:=Z) b<|o.perm.mem_iff.mp c
  .rw[B8.mp a];show{by unfold dc;decide,trivial}
 .unfold dsT at a;unfold Ut;rcases lt_or_ge i ns.length with hi|hi
  .rw[E9 (by rw[A1];show hi),B7]at a;let(n,c,rfl):=map_eq_some_iff.mp a;rw[A6 (by lia),A6 (by lia)];show uV b o c
  .rw[D8 (by rw[A1];show hi),A1]at a;have e:i=ns.length:=by
    have:=(A9.mp a).1;have:i-ns.length<1:=this
    lia
   subst e;rw[sub_self]at a;obtain rfl:d=.write 21 77:=(Option.some.inj a).symm;rw[A6<|A8 _,A4 (by lia),GJ b o];show pU
 .unfold Ut
  split
  .show{CL (D0 _ _) (by lia),λe=>by
    have:n20∈Us Z O ns i:=fA.mpr {mR,.inl (by decide)};rw[e]at this;cases this}
  .show{by unfold Wg;rw[A1];lia,λe=>by
    have:=BE (Z:=Z) (O:=O);rw[e]at this;cases this}
section
variable{P:zi}{w:xr}{K:Frag}{mg:Str->Option zy}{base:qq}{f C PL PC:zv}{cdv:zy}{A:xx}{outer:List Env}{s:zn}{H0:Hp}{E:XK}
theorem b11(R:R95 A s f cdv)(CR:Has P w K mg base 7 "read_ledger" ["thing"]<|spRlg C PL)(CX:Has P w K mg base 5 "ledger_text" ["ledger"]<|spLtx C):
  ∃T,PS (EL P w K mg base f cdv A outer s H0 E) (lS 11) T/\∀{k:Ends}{H:Hp}{a ta oa bk p ua t d pl al:zv}{zs os us z:ZN}{es ps:List Ent}{as:List (zv×(zv×Nd))}{Z ns:List Nd}{J M N O y B D F G U I:Option V},Jl PL PC C H ta oa bk p ua t d pl al zs os us z es ps as Z->nds z=Wg Z (nds os)->Ord (nds os) ns->es.map (·.xs)=(dsT ns).map aT ->
   (∀c v tg o x m Q j u H',LAt C H' p ta t d pl al zs z [] es ps->LAt C H' c v tg o x m Q j [] u []->nds j=nds z->k.nx (lσ a ta oa bk p ua J M N O y B D F G (some<|.ref c) I) H')->T k (lσ a ta oa bk p ua J M N O y B D F G U I) H:=by
 show{_,ar (i:=15) iW.nd rfl (Or.inl rfl)<|aw CR R (aa (aw CX (R.mono (by decide))<|aa (pv 4) ae) ae),?_};intro k H a ta oa bk p ua t d pl al zs os us z es ps as Z ns J M N O y B D F G U I b a1 a5 r q;have g:=b.L.two;have st:=zS g a5;have a7:es.length=(dsT ns).length:=by have:=congrArg length r;simpa using this
 have a8:=st.few;have h:Ut Z (nds os) ns 0=nds zs:=by unfold Ut;rw[A6<|CI _,GH g,b.L.ez]
 have S:∀n∈nds zs,iI n:=λn a4=>(Fc g n<|CT _ (by rw[<-b.L.ez];show a4)).1;have b1:zs.length<=12:=by
  have:=congrArg length b.L.ez;have h2:=g.zl;unfold T0 at this;rw[au,B0]at this;have:zs.length=Z.length+2:=this
  lia
 show{_,rfl,p,ta,t,d,pl,al,zs,z,[],es,ps,rfl,b.A,S,by lia,by lia,λe a3=>?_,λws H1 s1 W=>?_}
 .have:e.xs∈(dsT ns).map aT:=r ▸ A3.mpr ⟨e,a3,rfl⟩;let(dd,a2,Y):=A3.mp this;rw[<-Y];show zR (st.ok dd a2).1
 have l:=b.same s1;have un:Ut Z (nds os) ns (dsT ns).length=nds z:=by
  unfold Ut dsT;rw[B0,A1,A4 (by change ¬(ns.length+1<=ns.length);lia),a1]
 show{ws,es,Ut Z (nds os) ns,dsT ns,rfl,l.tb.1,by rw[h];show b.L.tr.tr,by rw[h];show S,by rw[h,au];lia,by rw[h];show W,st,r,λc v tg o x m Q j u H2 a6 a9 X a0=>?_};show q c v tg o x m Q j u H2 (l.A.offp l.tb.1 a6) X<|a0.trans un
theorem b12(T:Txt mg)(L:R95 A s f cdv)(c:LCls K mg C)(e4:HM P w K mg base C 5 "do" ["self","deed"]<|spLDo C)(e5:HM P w K mg base C 1 "now" ["self"]<|spLNow C)(Y:Has P w K mg base 4 "cut_out" ["tree","number"] spCut)(e2:Has P w K mg base 4 "without" ["tree","number"] spWo):
  ∃c4,PSs (EL P w K mg base f cdv A outer s H0 E) [lS 12,lS 13,lS 14,lS 15] c4/\∀{a0:Ends}{H:Hp}{a ta oa bk p ua t d pl al g J tg G R F:zv}{zs z X B:ZN}{es ps I:List Ent}{Z O:List Nd}{d7 d8 d9 e0 d1 d2 d3 d4 d5 d6:Option V},Two Z O->nds z=Wg Z O->LAt C H p ta t d pl al zs z [] es ps->LAt C H g J tg G R F X B [] I []->nds B=nds z->es.length<=5 ->
   (∀H',a0.rt (.bl true) H')->c4 a0 (lσ a ta oa bk p ua d7 d8 d9 e0 d1 d2 d3 d4 d5 (some<|.ref g) d6) H:=by
 let(i5,i7,e6,e3,e8):=e4;let(i6,i8,l,j,m):=e5;have u:Room 1 _:=L.mono (by decide);have M:Room 4 _:=L.mono (by decide);have N:=jP L;show{_,af (aQ (PW.pt<|pw_or (aq (iH N) (bp (pv 15) c.cl l j u m .nil bX) (bp (pv 4) c.cl l j u m .nil bX)<|av _) (pw_or1<|aq (iH N) (aw Y M<|aa (bp (pv 15) c.cl l j u m .nil bX) (aa ai ae)) (aw Y M<|aa (bp (pv 4) c.cl l j u m .nil bX) (aa ai ae)) (av _))) aA ax)
  (af (ar (i:=16) iW.nd rfl (Or.inl rfl)<|aw e2 M (aa (bp (pv 4) c.cl l j u m .nil bX)<|aa ai ae))
  (af (aZ<|gg (pv 4) c.cl e6 e3 (L.mono (by decide)) e8 .nil bX (ib (aK<|aa aJ (aa ai ae)) ae))
  (am<|ap (lE (eR (xO N) (bp (pv 4) c.cl l j u m .nil bX) (aD aS rfl T.tuple rfl<|aa (cN lcS (bE<|pv 16) (λs H fp=>aq eG (ixT K (pv 0) ai) ai<|av _) λs H fp=>pv 0) ae)<|av _)<|lD (eR (xO N) (aw Y M<|aa (pv 16) (aa ai ae)) (aK ae)<|av _))))),?_}
 intro a0 H a ta oa bk p ua t d pl al g J tg G R F zs z X B es ps I Z O d7 d8 d9 e0 d1 d2 d3 d4 d5 d6 d0 a6 b k a4 i4 q;let(dx,hp):=b.ob;let(b2,c2):=k.ob;have fold:∀{ws:ZN},n20∈nds ws->Fold ws 20:=λ{ws} h=>by
  let(y,g9,c1):=bZ h;show .inr {y,g9,by rw[c1];rfl,by rw[c1];rfl}
 have v:n20∈nds z:=by rw[a6];show A3.mpr ⟨n20,mR,rfl⟩
 show{_,rfl,g,b2,_,rfl,c2,bA,g,J,tg,G,R,F,X,B,[],I,[],rfl,k,?_};show{_,rfl,p,dx,_,rfl,hp,bA,p,ta,t,d,pl,al,zs,z,[],es,ps,rfl,b,.inr {tg,t,_,_,rfl,rfl,cz a4 k.tr.nod b.tr.nod,.inr ⟨k.tr.tup,b.tr.tup⟩,_,rfl,aM ?_}};show{_,rfl,g,b2,_,rfl,c2,bA,g,J,tg,G,R,F,X,B,[],I,[],rfl,k,tg,20,B,rfl,k.tr,fold (by rw[a4];show v),λe9 j3 H1 s1 c7 f6=>?_};have a1:=b.same s1;show{_,rfl,p,dx,_,rfl,s1 _ _ hp,bA,p,ta,t,d,pl,al,zs,z,[],es,ps,rfl,a1,t,20,z,rfl,a1.tr,fold v,λf0 j4 H2 S c8 f7=>.inr {e9,f0,_,_,rfl,rfl,cz (by rw[f6,f7,a4]) (c7.same S).nod c8.nod,.inr {(c7.same S).tup,c8.tup},_,rfl,aM ?_}};have L2:=a1.same S;show{_,rfl,p,dx,_,rfl,S _ _<|s1 _ _ hp,bA,p,ta,t,d,pl,al,zs,z,[],es,ps,rfl,L2,t,20,z,rfl,L2.tr,fold v,λlt Q i0 h3 h7 a5=>?_};have b1:=L2.same h3;let(f3,g1):=b1.ob;show{_,rfl,p,f3,_,rfl,g1,bA,aF (by decide),λh2 g5=>?_};have c5:=ag (o:=.tup<|aT (.drop 20)) g5;have h0:z≠[]:=λe=>by rw[e]at v;cases v
 have j5:z.length<=12:=by
  have:=congrArg length a6;have:=rL d0;unfold Wg at *;rw[au,A1]at *
  lia
 have h8:TW.Told (nds z) (.drop 20) (.inr<|(TW.woT (nds z) 20).filter λn=>!decide (n.num=20)):=by
  rw[a6];show zK d0
 show{p,ta,t,d,pl,al,zs,z,[],es,ps,h2,.drop 20,_,rfl,b1.same c5,by lia,h0,ac,trivial,by lia,h8,λc9 e1 j1 e7 i1 _ f9 a2 h5 j0=>?_};have D:=(h7.same c5).stay h5;let(f4,g2):=a2.ob;have i9:=D.len;show{_,rfl,p,f4,_,rfl,g2,bA,p,ta,c9,d,pl,e7,zs,e1,[],_,[],rfl,a2,?_};show{_,rfl,lt,rfl,⟨_,SqT.of D.tup⟩,λh1 g3=>?_};show cZ (fr:=[]) Q (λz=>V.ref z.1) (by lia) g3 (bx (by rw[aN];show SqT.of D.tup)) rfl (λz=>!decide (z.2.num=20)) (λz y _=>y=.ref z.1) (λ_ _ _ _ h _=>h) (λz H' g8 c3 U _ a7=>?_) (λz H' g8 c3 _ U _ a7=>{_,rfl,a7 _ H' (Same.refl _) rfl}) λys a9 U g4 g7=>?_
 .show{_,rfl,z.1,_,_,_,rfl,rfl,SqT.of<|U _ _ (D.nod z c3),at0 z.2,rfl,_,rfl,?_};rw[show(!decide (V.int z.2.num=V.int 20)) = !decide (z.2.num=20)by simp];show a7 H'<|Same.refl _
 show{h1,_,rfl,.inl {SqL.of g4,λW g6=>?_}};have h4:=ag (o:=.tup ys) g6;have c6:=U.trans h4;have b3:upd a9 W (.tup ys) W=some (.tup<|aI (Q.filter λz=>!decide (z.2.num=20))):=by
  rw[ac,aG (f:=λz:zv×Nd=>V.ref z.1) g7 λz y _ h=>h,aN]
 have f8:nds e1=nds (Q.filter λz=>!decide (z.2.num=20)):=by
  rw[f9,<-a5];unfold nds;rw[filter_map];rfl
 have a3:=a2.same c6;have a8:=D.same c6;generalize upd a9 W (.tup ys)=i2 at b3 a3 a8|-;show .inr {c9,W,_,_,rfl,rfl,cz f8 a3.tr.nod λy hy=>a8.nod y (CF.mp hy).1,.inr ⟨a3.tr.tup,b3⟩,true,rfl,cp ?_};show{_,rfl,lt,20,Q,rfl,a8,fold ?_,λf1 h9 i3 j2 h6 c0=>{CI _,λf2 g0=>?_}}
 .rw[a5,TW.dX];show{v,λr=>?_};have:=TW.eJ b.tr.tr r;show this rfl
 have f5:h9=[]:=by
  rw[a5,TW.DN b.tr.tr]at c0;show List.map_eq_nil_iff.mp c0
 subst f5;show .inr {f1,f2,_,_,rfl,rfl,{rfl,λi x y h=>by simp[aI]at h},.inr ⟨ag g0 _ _ h6.tup,ac⟩,q _}
end
inductive spLaw(PL PC:zv)(K:Frag)(vs:List V)(H:Hp)(Q:VK)(E_:XK):Prop
 |mk (a:zv) (ns:List Int) (_:vs=[.ref a]) (_:SqL K H a<|ns.map V.int) (_:ns.length<=63) (_:H PL=some (.tbl #[])) (_:H PC=some (.tbl #[])) (_:∀H',Q (.bl true) H')
section
variable{P:zi}{w:xr}{K:Frag}{mg:Str->Option zy}{base:qq}{f C fI PL PC:zv}{fd fdI:xl}
theorem Fn:bJ sO=[lS 0,lS 1,lS 2,lS 3,lS 4,lS 5,lS 6,lS 7,lS 8,lS 9,lS 10,lS 11,lS 12,lS 13,lS 14,lS 15]:=rfl
theorem Fo(F:Fun K "law" "law" sO f fd)(T:Txt mg)(n:PC≠PL)(a5:Has P w K mg base 3 "_law_tree" ["_law_script","_law_at","_law_most"]<|spBuild K)(X:Has P w K mg base 1 "_law_book" ["_law_tree_here"] spPart)(a0:Has P w K mg base 3 "grafted" ["tree","number","other"] spGra)(c:LCls K mg C)(c1:Mk K C fI)(a7:aE P w K mg base CX0 1 fI fdI ["self","tree"]<|spLIni C)(c2:br K fdI ["self","tree"] [])(g:HM P w K mg base C 5 "do" ["self","deed"]<|spLDo C)(i:HM P w K mg base C 1 "now" ["self"]<|spLNow C)(a9:HM P w K mg base C 1 "steps" ["self"]<|spLSte C)(a8:HM P w K mg base C 2 "back" ["self"]<|spLBk C)(a6:Has P w K mg base 2 "walked" ["tree"] spWal)(a1:Has P w K mg base 4 "children" ["tree","number"]<|spChk PC)(a2:Has P w K mg base 6 "merged" ["first","one","other"] spMer)(a4:Has P w K mg base 2 "stamped" ["tree","low","high"] spSta)(o:Has P w K mg base 4 "cut_out" ["tree","number"] spCut)(Y:Has P w K mg base 3 "depth_of" ["tree","number"] spDep)(CR:Has P w K mg base 7 "read_ledger" ["thing"]<|spRlg C PL)(CX:Has P w K mg base 5 "ledger_text" ["ledger"]<|spLtx C)(a3:Has P w K mg base 4 "without" ["tree","number"] spWo):
  aE P w K mg base CX0 8 f fd ["_law_script"] (spLaw PL PC K):=by
 show F.okA iW λcdv A outer s H vs Q E b h=>?_
 .let(a,ns,rfl,d7,g0,d6,d5,q):=h;let(g7,I,c9):=b4 (PL:=PL) (PC:=PC) (outer:=outer) (H0:=H) (E:=E) b c g a6;let(g8,J,d0):=b5 (PL:=PL) (PC:=PC) (outer:=outer) (H0:=H) (E:=E) T b c i a9;let(g9,M,d1):=b6 (C:=C) (outer:=outer) (H0:=H) (E:=E) T b n a1;let(h0,N,d2):=b7 (PL:=PL) (PC:=PC) (outer:=outer) (H0:=H) (E:=E) b c g;let(h2,O,d3):=b8 (P:=P) (w:=w) (K:=K) (base:=base) (f:=f) (cdv:=cdv) (A:=A) (outer:=outer) (s:=s) (H0:=H) (E:=E) T;let(h3,R,d4):=b9 (PL:=PL) (PC:=PC) (outer:=outer) (H0:=H) (E:=E) b c i a2 a4;let(g4,B,c6):=b10 (PL:=PL) (PC:=PC) (outer:=outer) (H0:=H) (E:=E) b c g i a8 o Y;let(g5,D,c7):=b11 (PC:=PC) (outer:=outer) (H0:=H) (E:=E) b CR CX;let(g6,G,c8):=b12 (outer:=outer) (H0:=H) (E:=E) T b c g i o a3;have r:=λe1 e0=>b0 (PL:=PL) (PC:=PC) (outer:=outer) (H0:=H) (E:=E) b a5 X a0 c c1 a7 c2 [lS 4,lS 5,lS 6,lS 7,lS 8,lS 9,lS 10,lS 11,lS 12,lS 13,lS 14,lS 15] e1 e0;rw[Fn];generalize lS=st at I J M N O R B D G r|-;let(g3,d9,c5):=r _<|af I (af J<|af M (af N<|af O (af R<|af B (af D G))));show{_,d9,c5 ⟨ns,d7⟩ ⟨.start d6,.start d5⟩ λta oa bk p ua d pl al zs os us as Z H1 b3 V e5=>?_};show c9 b3 V e5 λms t al z es i0 i1 i2 i3 h6 H2 y L2 m S x u=>?_;have U:=L2.two;have c4:es.length=os.length:=by
   have h1:=congrArg length u;rw[A1,A1,y.perm.length_eq,au]at h1;show h1
  have d8:=U.ol;rw[au]at d8;show d0 ⟨L2,m,S⟩ x c4 λe7 e2=>d1 (Jl.same ⟨L2,m,S⟩ e2) λe8 b1=>d2 b1 x (by lia) λh4 f4 i4 e e9 k j ex=>d3 k.L.tr (by rw[k.L.ez];unfold T0;simp) λh5 ws f0 e3 e6 v=>?_;have l:=k.same e3;rw[l.L.ez]at v;show d4 l j e6 v λf1 e4=>c6 (l.same e4) j (by rw[B0];change es.length+1<=5;lia) λf5 ps h7 h8 h9 f2 b2=>?_;show c7 b2 j y (by unfold dsT;rw[CG,CG,u,A7];change _++[e.xs]=_;rw[ex];rfl) λg1 f9 tg f7 g2 f6 i5 i6 f8 f3 W c0 c3=>?_;show c8 U j W c0 c3 (by rw[B0];change es.length+1<=5;lia) q
end
open PySem PySem.W PyProof.Rows L2
theorem Hw{α:Type}{P:List α->Prop}{us:List α}(c:us.length=0)(b:P []):P us:=by cases us with|nil=>show b|cons a r=>cases c
theorem GR{α:Type}{P:List α->Prop}{us:List α}(b:us.length=1)(c:∀a0,P [a0]):P us:=by cases us with|nil=>cases b|cons a r=>show Hw (P:=λr=>P (a::r)) (Nat.succ.inj b)<|c a
theorem GT{α:Type}{P:List α->Prop}{us:List α}(b:us.length=2)(d:∀a0 c,P [a0,c]):P us:=by cases us with|nil=>cases b|cons a r=>show GR (P:=λr=>P (a::r)) (Nat.succ.inj b)<|d a
theorem GU{α:Type}{P:List α->Prop}{us:List α}(b:us.length=3)(e:∀a0 c d,P [a0,c,d]):P us:=by cases us with|nil=>cases b|cons a r=>show GT (P:=λr=>P (a::r)) (Nat.succ.inj b)<|e a
theorem GV{α:Type}{P:List α->Prop}{us:List α}(b:us.length=4)(f:∀a0 c d e,P [a0,c,d,e]):P us:=by cases us with|nil=>cases b|cons a r=>show GU (P:=λr=>P (a::r)) (Nat.succ.inj b)<|f a
theorem Hz{α:Type}{P:List α->Prop}{us:List α}(b:us.length=5)(g:∀a0 c d e f,P [a0,c,d,e,f]):P us:=by cases us with|nil=>cases b|cons a r=>show GV (P:=λr=>P (a::r)) (Nat.succ.inj b)<|g a
abbrev gA(K:Frag)(x:Str)(f:zv):Prop:=nsIn K mainGlobals x=some (some<|.ref f)
abbrev gN(K:Frag)(x:Str):Prop:=nsIn K mainGlobals x=some none
def Wf(K:Frag)(x:Str)(st:Stmt):Prop:=∃f d,gA K x f/\Fun K x x st f d
def All{α:Type}(P:α->Prop):List α->Prop
 |[]=>True
 |x::l=>P x/\All P l
theorem al{α:Type}{P:α->Prop}{x:α}{l:List α}(a:P x)(r:All P l):All P (x::l):=⟨a,r⟩
def Ws(K:Frag):List (Str×Stmt)->Prop
 |[]=>True
 |(x,st)::l=>Wf K x st/\Ws K l
abbrev Zs(K:Frag):List Str->Prop:=All<|gN K
def Ms(K:Frag)(C:zv):List (Str×Str×Stmt)->Prop
 |[]=>True
 |(x,q,st)::l=>(∃f d,findIn K (.ref C) x=some (some<|.ref f)/\isFn K (.ref f)=true/\Fun K x q st f d)/\Ms K C l
abbrev Ns(K:Frag)(C:zv):List Str->Prop:=All<|dz K C
theorem ws{K:Frag}{x:Str}{st:Stmt}{l:List (Str×Stmt)}{f:zv}{d:xl}(a:gA K x f)(F:Fun K x x st f d)(r:Ws K l):Ws K ((x,st)::l):=⟨⟨f,d,a,F⟩,r⟩
theorem ms{K:Frag}{C:zv}{x q:Str}{st:Stmt}{l:List (Str×Str×Stmt)}{f:zv}{d:xl}(a:findIn K (.ref C) x=some (some<|.ref f))(e:isFn K (.ref f)=true)(F:Fun K x q st f d)(r:Ms K C l):Ms K C ((x,q,st)::l):=⟨⟨f,d,a,e,F⟩,r⟩
theorem fb1{K:Frag}{x q c:Str}{st:Stmt}{f:zv}{d:xl}(F:Fun K x q st f d)(g:∀(kV b pm:zy) (a:Option zv) (cdv ct e:zy),bindArgs (fnOf x q (dS st) (bJ st) (ak st) .none kV b pm a cdv ct) {[e],[]}=pure (List.zip [c] [e]):=by intros;rfl):br K d [c] []:=F.binds λkV b pm a cdv ct us h=>GR (P:=λus=>bindArgs _ {us,[]}=pure (List.zip _ us)) h<|g kV b pm a cdv ct
theorem fb2{K:Frag}{x q c d:Str}{st:Stmt}{f:zv}{e:xl}(F:Fun K x q st f e)(i:∀(kV b pm:zy) (a:Option zv) (cdv ct g h:zy),bindArgs (fnOf x q (dS st) (bJ st) (ak st) .none kV b pm a cdv ct) {[g,h],[]}=pure (List.zip [c,d] [g,h]):=by intros;rfl):br K e [c,d] []:=F.binds λkV b pm a cdv ct us j=>GT (P:=λus=>bindArgs _ {us,[]}=pure (List.zip _ us)) j<|i kV b pm a cdv ct
theorem fb3{K:Frag}{x q c d e:Str}{st:Stmt}{f:zv}{g:xl}(F:Fun K x q st f g)(k:∀(kV b pm:zy) (a:Option zv) (cdv ct h i j:zy),bindArgs (fnOf x q (dS st) (bJ st) (ak st) .none kV b pm a cdv ct) {[h,i,j],[]}=pure (List.zip [c,d,e] [h,i,j]):=by intros;rfl):br K g [c,d,e] []:=F.binds λkV b pm a cdv ct us l=>GU (P:=λus=>bindArgs _ {us,[]}=pure (List.zip _ us)) l<|k kV b pm a cdv ct
theorem fb4{K:Frag}{x q c d e g:Str}{st:Stmt}{f:zv}{h:xl}(F:Fun K x q st f h)(m:∀(kV b pm:zy) (a:Option zv) (cdv ct i j k l:zy),bindArgs (fnOf x q (dS st) (bJ st) (ak st) .none kV b pm a cdv ct) {[i,j,k,l],[]}=pure (List.zip [c,d,e,g] [i,j,k,l]):=by intros;rfl):br K h [c,d,e,g] []:=F.binds λkV b pm a cdv ct us n=>GV (P:=λus=>bindArgs _ {us,[]}=pure (List.zip _ us)) n<|m kV b pm a cdv ct
theorem fb5{K:Frag}{x q c d e g h:Str}{st:Stmt}{f:zv}{i:xl}(F:Fun K x q st f i)(o:∀(kV b pm:zy) (a:Option zv) (cdv ct j k l m n:zy),bindArgs (fnOf x q (dS st) (bJ st) (ak st) .none kV b pm a cdv ct) {[j,k,l,m,n],[]}=pure (List.zip [c,d,e,g,h] [j,k,l,m,n]):=by intros;rfl):br K i [c,d,e,g,h] []:=F.binds λkV b pm a cdv ct us p=>Hz (P:=λus=>bindArgs _ {us,[]}=pure (List.zip _ us)) p<|o kV b pm a cdv ct
theorem fh{P:zi}{w:xr}{K:Frag}{mg:Str->Option zy}{base h:qq}(X:K.In h)(G:h.Ns mainGlobals mg){k:Nat}{x:Str}{st:Stmt}{ps:List Str}{sp:Sp}(a:Wf K x st)(O:∀{f:zv} {fd:xl},Fun K x x st f fd->aE P w K mg base CX0 k f fd ps sp)(b:∀{f:zv} {fd:xl},Fun K x x st f fd->br K fd ps []:=by intro _ _ F;first|show fb1 F|show fb2 F|show fb3 F|show fb4 F|show fb5 F):Has P w K mg base k x ps sp :=
 let⟨f,fd,g,F⟩:=a
 ⟨f,fd,O F,mg_of X G g,F.kp,b F⟩
theorem fm{P:zi}{w:xr}{K:Frag}{mg:Str->Option zy}{base:qq}{D:zv}{k:Nat}{x q:Str}{st:Stmt}{ps:List Str}{sp:Sp}(a:∃f d,findIn K (.ref D) x=some (some<|.ref f)/\isFn K (.ref f)=true/\Fun K x q st f d)(O:∀{f:zv} {fd:xl},Fun K x q st f fd->aE P w K mg base CX0 k f fd ps sp)(b:∀{f:zv} {fd:xl},Fun K x q st f fd->br K fd ps []:=by intro _ _ F;first|show fb1 F|show fb2 F|show fb3 F|show fb4 F|show fb5 F):HM P w K mg base D k x ps sp :=
 let⟨f,fd,g,i,F⟩:=a
 ⟨f,fd,⟨g,i,F.kp⟩,O F,b F⟩
theorem Fp{l:PySem.W.OpenLaw}{w:xr}{K:Frag}{p:qq}{mg:Str->Option zy}{d4 d3 d2 d1 c7 c6 PL PC OL iL:zv}{d0 c9 c8 d6:xl}{q3 q4 q5 q6 q7 q8 q9:Tok}(X:K.In p)(b:p.Ns mainGlobals mg)(o0:mg "law"=some (.ref d4))(A:Ws K [("is_whole",sK),("is_name",xT),("is_stamp",sL),("is_node",xU),("are_rising",xV),("have_own_places",Do),("numbers_inside",Dp),("is_tree",xW),("by_number",xX),("node_of",Dq),("check_folder",Dr),("path_up",Ds),("path_of",Dt),("below",Du),("walked",Dv),("walked_nodes",dh),("greatest_number",di),("with_numbers",eO),("inner_numbers",dN)])(d7:Ws K [("cut_out",jS),("without",jT),("grafted",jU),("parts_by_number",bQ),("unlike_entries",dE),("change_between",bC),("applied",jV),("check_place",Dw),("with_node",xY),("make",xZ),("write",sM),("move",ya),("drop",yb),("done",yc),("line_of",jW),("written",jX),("lines_in",iK),("number_in",gU),("parts_in",iM)])(d8:Ws K [("nodes_in",iN),("part_text",gW),("step_line",gX),("ledger_text",fq),("stamp_in",iO),("name_in",jY),("make_in",jZ),("deed_in",kb),("do_line",kc),("read_ledger",fu),("entries_by_number",cG),("clashing",iP),("merged",mD),("files_of",iQ),("stamped",kd),("depth_of",iR),("_law_cell",yd),("_law_pick",ye),("_law_tree",kg),("_law_book",qW)])(Z:Zs K ["isinstance","dict","len","tuple","list","range","sorted","reversed","ValueError","str","set","max","min","sum","zip","enumerate","all","int","bool"])(j8:gA K "law" d3)(u:Fun K "law" "law" sO d3 d0)(j7:gA K "read" d2)(j:Fun K "read" "read" sN d2 c9)(j6:gA K "children" d1)(i:Fun K "children" "children" iS d1 c8)(o4:c9.code=.ref c7)(n9:codeHdIn K c7 PL=true)(o3:c8.code=.ref c6)(n8:codeHdIn K c6 PC=true)(p9:PC≠PL)(r0:nsIn K mainGlobals "TOP"=some (some<|.int 0 q3))(r1:nsIn K mainGlobals "LETTERS"=some (some<|.str "abcdefghijklmnopqrstuvwxyz" q4))(r2:nsIn K mainGlobals "LONGEST_NAME"=some (some<|.int 5 q5))(r3:nsIn K mainGlobals "GREATEST_STAMP"=some (some<|.int 999 q6))(r4:nsIn K mainGlobals "FIGURES"=some (some<|.str "0123456789" q7))(r5:nsIn K mainGlobals "MOST_FIGURES"=some (some<|.int 9 q8))(r6:nsIn K mainGlobals "DIVIDER"=some (some<|.str "--" q9))(q0:gA K "Ledger" OL)(q1:Cls K OL)(d:makesIn K OL=true)(q2:keepIn K (.ref OL)=true)(p3:Ns K OL ["first_tree","tree","tag_trees","past","ahead"])(o1:findIn K (.ref OL) "__init__"=some (some<|.ref iL))(o2:isFn K (.ref iL)=true)(r:Fun K "__init__" "Ledger.__init__" gm iL d6)(o5:Ms K OL [("go_on","Ledger.go_on",fj),("do","Ledger.do",iJ),("now","Ledger.now",gT),("base","Ledger.base",gv),("steps","Ledger.steps",fk),("pass_over","Ledger.pass_over",de),("back","Ledger.back",gw)]):
  ∃fd:xl,(∀(s:zn)(v:zy),BindsTo s fd {[v],[]} [("_law_script",v)])/\∀base:qq,K.In base->base.Ns mainGlobals mg->BmB base mg->aE l.prog w K mg base CX0 8 d4 fd ["_law_script"] (spLaw PL PC K):=by
 let(d9,f0,g1,h2,i3,j3,j4,j5,M,e0,e1,e2,e3,e4,e5,e6,e7,e8,e9,_):=A;let(f1,f2,f3,f4,f5,f6,f7,f8,f9,g0,g2,g3,g4,g5,g6,g7,g8,g9,h0,_):=d7;let(h1,h3,h4,h5,h6,h7,h8,h9,i0,i1,i2,i4,i5,i6,i7,i8,i9,j0,j1,j2,_):=d8;let(r7,s8,s9,t0,t1,t2,t3,t4,t5,r8,r9,s0,s1,s2,s3,s4,s5,s6,s7,_):=Z;let(p4,p5,p6,p7,p8,_):=p3;let(o6,o7,o8,o9,p0,p1,p2,_):=o5;cases o0.symm.trans (mg_of X b j8);have N:=λ{x:Str} (z:gN K x)=>PySem.W.mg_none_of X b z;have k:=λ{x:Str} {f:zv} (z:gA K x f)=>mg_of X b z;have T:Txt mg:=⟨N r7,N s8,N s9,N t0,N t1,N t2,N t3,N t4,N t5,N r8,N r9,N s0,N s1,N s2,N s3,N s4,N s5,N s6,N s7,⟨_,mg_of X b r0⟩,⟨_,mg_of X b r1⟩,⟨_,mg_of X b r2⟩,⟨_,mg_of X b r3⟩,⟨_,mg_of X b r4⟩,⟨_,mg_of X b r5⟩,⟨_,mg_of X b r6⟩⟩;have a:LCls K mg OL:=⟨q1,p4,p5,p6,p7,p8,k q0⟩;have I:Mk K OL iL:=⟨d,o1,o2,q2⟩;show{d0,?_,λbase KB _ t=>?_}
 .let(_,_,_,_,_,_,_,_,_,rfl,_,_):=u.ex;show λs v=>.of_eq rfl
 have q:=@fh l.prog w K mg base p X b;have d:=@fm l.prog w K mg base;have c0:=q d9 (yR · T);have U:=q f0 (Bg · T);have a2:=q g1 (yS · T c0);have a7:=q h2 (Bi · T c0 U a2);have l5:=q i3 (Bj · T);have c1:=q j3 (DX · T);have c4:=q j4 (Dx · T);have c5:=q j5 (Bk · T a7 l5 c1 c4);have c:=q M (DA · T);have n7:=q M (BC · T);have e:=q e0 DB;have g:=q e1 (DD · T e);have V:=q e2 (DI · T);have j9:=q e3 (Fd · c e V);have m:=q e4 (DC · T c e c4);have Y:=q e5 (Er · T c V);have k0:=q e6 (Gj · c Y);have k1:=q e7 (DO · T);have a0:=q e8 (DP · T);have a1:=q e9 (DQ · T c g m);have k2:=q f1 (DR · T a1 a0);have k3:=q f2 (Gd · T a1);have k4:=q f3 (DZ · T c g k1 a0 c1);have a3:=q f4 (Bz · T);have k5:=q f5 (EU · T);have a4:=q f6 (EV · T a3 k5);have k6:=q f7 (EZ · T a3 c5);have a5:=q f8 DE;have a6:=q f9 (AS · T);have k7:=q g0 (AT · T c g a5);have k8:=q g2 (yB · c e a6);have k9:=q g3 (AU · c e g m a5 a6);have l0:=q g4 (AV · T c e m);have l1:=q g5 (AW · k7 k8 k9 l0);have l2:=q g6 Es;have a8:=q g7 (Et · l2 k0);have a9:=q g8 El;have h:=q g9 (Ej · T);have l3:=q h0 (Ek · T h);have l4:=q h1 (En · T l3);have l6:Has l.prog w K mg base 5 "read" ["text"] (spRead PL):={_,_,Bs j o4 T (codeHd_of_K KB n9) t a9 l4 c5 a8,k j7,j.kp,fb1 j};have d5:aE l.prog w K mg base CX0 1 iL d6 _ _:=Bt r a;have b1:=d o6 (EM · a);let(u3,t8,H,C,Q):=b1;have b1:HM l.prog w K mg base OL _ _ _ _:=⟨_,_,H,C,Q⟩;have n:=d o7 (EN · a l1 H C Q);let(u2,t7,G,B,P):=n;have n:HM l.prog w K mg base OL _ _ _ _:=⟨_,_,G,B,P⟩;have l7:=d o8 (Bu · a);have b2:=d o9 (Bv · a);let(u1,t6,F,y,O):=b2;have b2:HM l.prog w K mg base OL _ _ _ _:=⟨_,_,F,y,O⟩;have o:=d p0 (Bx · a);let(u5,u0,L,E,S):=o;have o:HM l.prog w K mg base OL _ _ _ _:=⟨_,_,L,E,S⟩;have b3:=d p1 (Fl · a);let(u4,t9,J,D,R):=b3;have b3:HM l.prog w K mg base OL _ _ _ _:=⟨_,_,J,D,R⟩;have l8:=d p2 (zN · a J D R);have l9:=q h3 (Eu · T);have m0:=q h4 (Ev · l9);have m1:=q h5 (ER · T a L E S F y O m0 a8);have c2:=q h6 (Ew · h a2);have m2:=q h7 (Ex · U);have m3:=q h8 (Ey · h c2 m2 a7);have m4:=q h9 (Ez · T h c2 m3);have m5:=q i0 (EO · T a m4 G B P);have m6:=q i1 (Fj · T a a9 l6 m5 I d5 (fb2 r));have c3:=q i2 (EX · n7 a4);have m7:=q i4 (EY · T c3);have m8:=q i5 (Fa · T m7 c3 a4 k6);have m9:=q i6 DJ;have n0:=q i7 (DK · m9);have n1:=q i8 (Fe · T j9);have n2:Has l.prog w K mg base 4 "children" ["tree","number"] (spChk PC):={_,_,Fg i o3 T (codeHd_of_K KB n8) t c g,k j6,i.kp,fb2 i};have n3:=q i9 (BG · T);have n4:=q j0 (BH · T n3);have n5:=q j1 (zM · T n4);have n6:=q j2 (BA · T);show Fo u T p9 n5 n6 k4 a I d5 (fb2 r) n l7 o l8 Y n2 m8 n0 k2 n1 m6 m1 k3
theorem walk{l:PySem.W.OpenLaw}{q:zi}{C:List Str}{o:(Str->Option zy)->qq->Prop}{c:xr->qq->Prop}{d:DefRec}{K:Params->Frag}(PL PC:zv)(B:l.most=some 63)(z:d.params.defaults=[])(y:∀(w:xr) (h:qq),c w h->(K w.params).In h){e:List zv}(b:∀(w:xr) (h:qq),c w h->∀t∈e,h.get? t=some (tabObj #[]))(E:PL∈e)(j:zv)(r:∀w:xr,codeHdIn (K w.params) j PL=true)(I:∀w:xr,(K w.params).lookup PL=none)(D:PC∈e)(i:zv)(p:∀w:xr,codeHdIn (K w.params) i PC=true)(G:∀w:xr,(K w.params).lookup PC=none)(F:∀(w:xr) (mg:Str->Option zy) (m:zv) (h:qq),(K w.params).In h->h.Ns mainGlobals mg->mg d.name=some (.ref m) ->
   ∃fd:xl,(∀(s:zn) (u:zy),BindsTo s fd {[u],[]} [("_law_script",u)])/\∀base:qq,(K w.params).In base->base.Ns mainGlobals mg->BmB base mg->aE l.prog w (K w.params) mg base CX0 8 m fd ["_law_script"] (spLaw PL PC<|K w.params)):
  PySem.W.WalkO q C o c l.row.toRowW d [] (λf vs=>PySem.call f vs) :=
 L2.zp (tabs:=[PL,PC]) (n:=63) (k:=8) (x:="_law_script") (sp:=λw=>spLaw PL PC<|K w.params) B (by decide) z ⟨rfl,by decide,by decide,rfl⟩ y
  (λw h g=>forall_mem_cons.mpr {b w h g _ E,forall_mem_cons.mpr {b w h g _ D,λ_ h=>nomatch h}})
  (λw=>forall_mem_cons.mpr {⟨⟨j,r w⟩,I w⟩,forall_mem_cons.mpr {⟨⟨i,p w⟩,G w⟩,λ_ h=>nomatch h}})
  F (λw H a ns A v b=>{a,ns,rfl,v,A,b PL (by simp),b PC (by simp),λ_=>rfl})
end TK
end
open PySem PySem.W PyProof.Rows
def PySem.W.Fast.tw16212549027889180817:Unit:=()
def PySem.W.Fast.tw5264638411290596977:Unit:=()
def PySem.W.Fast.tw225570053324063548:Unit:=()
def PySem.W.Fast.tw3885463473410289088:Unit:=()
def PySem.W.Fast.tw13152827485396948465:Unit:=()
def PySem.W.Fast.tw14916656070694159820:Unit:=()
def PySem.W.Fast.tw8914756782322521166:Unit:=()
def PySem.W.Fast.tw6303917779053817720:Unit:=()
def PySem.W.Fast.tw7931351229716744613:Unit:=()
def PySem.W.Fast.tw5795314143221594825:Unit:=()
def PySem.W.Fast.tw10578739116985676070:Unit:=()
def PySem.W.Fast.tw10697790503996349087:Unit:=()
def PySem.W.Fast.tw3198531883764721717:Unit:=()
def PySem.W.Fast.tw10221884647579261448:Unit:=()
def PySem.W.Fast.tw11965823873698606984:Unit:=()
def PySem.W.Fast.tw13721451343164002070:Unit:=()
def PySem.W.Fast.tw11839339753731827374:Unit:=()
def PySem.W.Fast.tw14518816502487458535:Unit:=()
def PySem.W.Fast.tw17130061460153907927:Unit:=()
def PySem.W.Fast.tw5511237067998149462:Unit:=()
def PySem.W.Fast.tw15506300350469126843:Unit:=()
def PySem.W.Fast.tw6930167111258922188:Unit:=()
def PySem.W.Fast.tw16447436047890872788:Unit:=()
def PySem.W.Fast.tw11082476914779439582:Unit:=()
def PySem.W.Fast.tw17540413437963488859:Unit:=()
def PySem.W.Fast.tw1417106188274049003:Unit:=()
def PySem.W.Fast.tw16710008349236781319:Unit:=()
def PySem.W.Fast.tw11706705539162269316:Unit:=()
def PySem.W.Fast.tw13118105318157255158:Unit:=()
def PySem.W.Fast.tw9518264071211197537:Unit:=()
def PySem.W.Fast.tw12991655008652760002:Unit:=()
def PySem.W.Fast.tw16350946087634298305:Unit:=()
def PySem.W.Fast.tw5376265667934217859:Unit:=()
def PySem.W.Fast.tw16159838045012205428:Unit:=()
def PySem.W.Fast.tw11390174065523969944:Unit:=()
def PySem.W.Fast.tw13682750831585001749:Unit:=()
def PySem.W.Fast.tw2476692838516862228:Unit:=()
def PySem.W.Fast.tw11520621882898073230:Unit:=()
def PySem.W.Fast.tw14372564427442463446:Unit:=()
def PySem.W.Fast.tw10226833850393113593:Unit:=()
def PySem.W.Fast.tw4154274841815489841:Unit:=()
def PySem.W.Fast.tw13623135744062220696:Unit:=()
def PySem.W.Fast.tw15802234722165574437:Unit:=()
def PySem.W.Fast.tw2905253497675277403:Unit:=()
def PySem.W.Fast.tw14598672908715304772:Unit:=()
def PySem.W.Fast.tw15940440259834418403:Unit:=()
def PySem.W.Fast.tw4010265739694496440:Unit:=()
def PySem.W.Fast.tw3831442783937532994:Unit:=()
def PySem.W.Fast.tw9032219847552222778:Unit:=()
def PySem.W.Fast.tw18013630917391229989:Unit:=()
def PySem.W.Fast.tw2166014946484796126:Unit:=()
def PySem.W.Fast.tw14399164022993714801:Unit:=()
def PySem.W.Fast.tw11288252633233931954:Unit:=()
def PySem.W.Fast.tw1752194370208105463:Unit:=()
def PySem.W.Fast.tw6128541526034550554:Unit:=()
set_option maxHeartbeats 0 in
theorem PySem.Challenge.cw_treewatch_k95_whole_grafts_and_ledgers_holds : PySem.Challenge.rw_treewatch_k95_whole_grafts_and_ledgers.Holds := by
 w_on; o_law; k_head; (case hw=>w_witness2)
 k_fill
 refine TK.walk (l:=PySem.Challenge.rw_treewatch_k95_whole_grafts_and_ledgers) 385 600 rfl rfl (λw h Y=>PySem.W.km_in_of Y) (λw h Y=>PySem.W.km_tabs_of Y) (by decide) 389 (λw=>by kernel_rfl) (λw=>by kernel_rfl) (by decide) 602 (λw=>by kernel_rfl) (λw=>by kernel_rfl) ?F
 case F =>
  intro w mg fa h KX G hmg
  refine' TK.Fp KX G hmg ?Aa ?Ab ?Ac ?Ad ?Ae ?Af ?Ag ?Ah ?Ai ?Aj ?Ak ?Al ?Am ?An ?Ao ?Ap ?Aq ?Ar ?As ?At ?Au ?Av ?Aw ⟨?Ax,?Ay,?Az,?AA⟩ ?AB ?AC ?AD ?AE ?AF ?AG ?AH
  (case Aw|Ae|Ag|Ai=>unfold TK.gA; k_is)
  (case AE|AF=>k_is)
  (case Af|Ah|Aj|AG=>apply L2.sq <;> k_is)
  (case Ak|Am=>exact rfl)
  (case Al|An=>kernel_rfl)
  (case Ao=>decide)
  (case Ap|Aq|Ar|As|At|Au|Av|Ax|Ay|Az|AA|AB|AC=>k_is)
  case Aa|Ab|Ac=>
   repeat (apply TK.ws; (focus (unfold TK.gA; k_is)); (focus (apply L2.sq <;> k_is)))
   exact True.intro
  case Ad=>
   repeat (apply TK.al; (focus (unfold TK.gN; k_is)))
   exact True.intro
  case AD=>
   repeat (apply TK.al; (focus (unfold L2.dz; k_is)))
   exact True.intro
  case AH=>
   repeat (apply TK.ms; (focus k_is); (focus k_is); (focus (apply L2.sq <;> k_is)))
   exact True.intro
