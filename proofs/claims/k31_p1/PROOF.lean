import PyProof.Rows.All
import Wide.All
import OpenK.AllK
import Wide.FinOn
import Lean
import PyProof.EqAt
import PyProof.EqKinds
import PyProof.TupleCall
import KE.KEqDat
import PyProof.CompMap
import PyProof.WalksEnum
import PyProof.EnumMake
import PyProof.Draws
import PyProof.Rows.SetFrom
import PyProof.SetKind
import PyProof.WalksS
import PyProof.CollectWalk
import PyProof.FactsAll.set_1
import PyProof.DictIter
import PyProof.TupleIter
import PyProof.FactsAll.set_2
import PyProof.Rows.SortStr
import PyProof.StrBlockH
import PyProof.Rows.StrClose
import PyProof.FitsInt
import PyProof.Rows.FStr
import PyProof.Rows.SortRuns
import PyProof.Rows.SortWalk
import KE.KSortTup
import PyProof.StrOps2
import PyProof.StrCalls2
import PyProof.Rows.StrJoin2
import PyProof.StrLaws
import PyProof.StrLoop
import PyProof.StrWalks
import PyProof.StrLawsIn
import PyProof.ListRange
import PyProof.ZipIter
import PyProof.SeqI3
import PyProof.WalkInts
import PyProof.Rows.CallKwBuiltin
import PyProof.FactsAll.tuple_2
import PyProof.FactsAll.tuple_3
import PyProof.TupleKey
import PyProof.FactsAll.tuple_0
import PyProof.Rows.Range3
import PyProof.SumAny
import PyProof.DictRoads
import PyProof.DictList
import KE.KDictOf
import PyProof.AttrMissHeap
import PyProof.MeetsDict
import PyProof.FactsAll.dict_3
import KE.KUnpack
import KE.KRevIter
import KE.IntBitsLaws
import PyProof.StrLawsChain
import PyProof.Conv_int
import PyProof.FactsAll.str
import PyProof.StrLawsNeg
import PyProof.NeKinds
import KE.KMinKey
import KE.KLam
import KE.KNestM
import KE.KSortKey
import PyProof.TupleOfSeq
import PySem.Challenge.RW_leafpress_k31_sizes
set_option Elab.async false
set_option linter.all false
set_option maxRecDepth 100000
set_option maxHeartbeats 4000000
set_option compiler.extract_closed false
set_option genSizeOf false
noncomputable section
local macro_rules | `(tactic| ac_rfl) => `(tactic| decide +kernel)
open PySem PySem.Spec
local macro_rules | `(tactic| omega) => `(tactic| first | with_reducible assumption | lia)
local macro_rules | `(tactic| trivial) => `(tactic| first | exact Or.inl (by rfl) | exact Or.inr (by rfl))
local macro_rules|`(tactic|let $p:term:=$e)=>do
 let w:Lean.Syntax->Lean.Syntax:=λx=>Lean.mkNode ``Lean.Parser.Tactic.rcasesPatLo #[Lean.mkNode ``Lean.Parser.Tactic.rcasesPatMed #[Lean.mkNullNode #[x]],Lean.mkNullNode]
 let q:=Id.run (p.raw.replaceM λs=>pure (if s.isIdent then some (w (Lean.mkNode ``Lean.Parser.Tactic.rcasesPat.one #[s])) else if s.isOfKind ``Lean.Parser.Term.hole then some (w (Lean.mkNode ``Lean.Parser.Tactic.rcasesPat.ignore #[s[0]])) else none))
 let q:=q.rewriteBottomUp λs=>if s.isOfKind ``Lean.Parser.Term.anonymousCtor then w (s.setKind ``Lean.Parser.Tactic.rcasesPat.tuple) else s
 let r:Lean.TSyntax ``Lean.Parser.Tactic.rcasesPatLo:=⟨q⟩
 `(tactic|rcases $e:term with $r)
local macro_rules|`(‹$h›)=>`(by simpa using $h)
local macro_rules|`(s!$x)=>`(PySem.Str.ofString $(Lean.quote (x.raw[0].isInterpolatedStrLit?.getD "")))
local macro_rules|`(()) => `(by omega)
local macro_rules|`(tactic|show $e) => `(tactic|refine $e)
local macro_rules|`(tactic|ext $p*) => `(tactic|rintro $p*)
local macro_rules|`(∅) => `(by simp)
local macro_rules(kind:=Lean.Parser.Term.structInst)|`(Lean.Parser.Term.structInst|{}) => `(by decide)
local macro_rules|`(~~~$s) => `(($s).heap.objs.size)
local macro_rules|`(!$a) => `(some $a)
local macro_rules|`(↑$x)=>`(($x).map $(Lean.mkIdent `L2.V.ref))
local macro_rules|`(⇑$x)=>`(($x).map $(Lean.mkIdent `L2.V.int))
local macro_rules|`($c:char)=>`($(Lean.mkIdent `pv) $(Lean.quote (c.getChar.toNat-48)))
local macro_rules|`($x⁻¹)=>`(($x).length)
local macro_rules|`(-⟨$x,*⟩)=>`(⟨_,rfl,$x,*⟩)
local macro_rules|`(¬⟨$x,*⟩)=>`(⟨_,rfl,_,rfl,$x,*⟩)
local macro_rules|`(tactic|let $x:ident:=$e)=>`(tactic|have $x:ident:=$e)
local macro_rules|`(tactic|let $x:ident : $t:term := $e)=>`(tactic|have $x:ident : $t := $e)
local macro_rules|`(command|$d:declaration)=>do
 if d.raw[1].getKind== ``Lean.Parser.Command.definition&&d.raw[0].getArgs.all (·.isNone) then return d.raw.modifyArg 0 (·.setArg 4 (Lean.mkNullNode #[Lean.mkNode ``Lean.Parser.Command.noncomputable #[Lean.mkAtom "noncomputable"]])) else Lean.Macro.throwUnsupported
abbrev qA:=@List.length_map
abbrev qB:=@List.getElem?_eq_getElem
abbrev qC:=@PySem.wpAny_bind
abbrev qD:=@List.map_append
abbrev qE:=@PySem.Heap.get?_push_of_some
abbrev qF:=@List.getElem?_eq_some_iff
abbrev qG:=@Nat.le_refl
abbrev qH:=@List.take_of_length_le
abbrev qI:=@List.length_append
abbrev qJ:=@List.getElem?_map
abbrev qK:=@PySem.Heap.lt_size
abbrev qL:=@List.mem_of_getElem?
abbrev qM:=@PySem.wpAny_pure
abbrev qN:=@List.mem_cons
abbrev qO:=@List.mem_map
abbrev qP:=@List.take_succ
abbrev qQ:=@decide_eq_true
abbrev qR:=@PySem.Heap.get?_push_size
abbrev qS:=@PySem.Paired.length
abbrev qT:=@absurd
abbrev qU:=@Bool.false_ne_true
abbrev qV:=@List.getD_eq_getElem?_getD
abbrev qW:=@List.mem_cons_of_mem
abbrev qX:=@if_neg
abbrev qY:=@List.size_toArray
abbrev qZ:=@if_pos
abbrev rA:=@Nat.lt_of_lt_of_le
abbrev rB:=@decide_eq_false
abbrev rC:=@Nat.ne_of_lt
abbrev rD:=@Option.some.inj
abbrev rE:=@List.mem_append
abbrev rF:=@List.mem_cons_self
abbrev rG:=@List.getElem?_append_right
abbrev rH:=@of_decide_eq_true
abbrev rJ:=@List.getElem_mem
abbrev rK:=@Nat.le_trans
abbrev rL:=@Nat.zero_le
abbrev rM:=@PySem.Heap.size_push
abbrev rN:=@List.length_cons
abbrev rO:=@List.mem_append_right
abbrev rP:=@Nat.lt_irrefl
abbrev rQ:=@List.mem_singleton
abbrev rR:=@List.eq_nil_of_length_eq_zero
abbrev rS:=@List.append_nil
abbrev rT:=@List.getElem?_cons_succ
abbrev rV:=@Ne.symm
abbrev rW:=@Nat.lt_succ_self
abbrev rX:=@Nat.le_of_lt
abbrev rY:=@List.getElem?_append_left
abbrev rZ:=@List.map_map
abbrev xA:=@List.getElem?_range
abbrev xB:=@List.filter_append
abbrev xC:=@List.mem_range
abbrev xD:=@Int.le_refl
abbrev xE:=@List.append_assoc
abbrev xF:=@Nat.not_lt_of_le
abbrev xG:=@Array.length_toList
abbrev xH:=@Option.map_eq_some_iff
abbrev xI:=@PySem.Around.under_plainId
abbrev xJ:=@congrArg
abbrev xK:=@List.foldl_cons
abbrev xL:=@List.mem_filter
abbrev xM:=@List.getElem?_eq_none
abbrev xN:=@PySem.wpAny_mono
abbrev xO:=@List.length_take
abbrev xP:=@Nat.not_lt_zero
abbrev xQ:=@Nat.lt_succ_of_lt
abbrev xS:=@PySem.wpAny_pyIter_list
abbrev xT:=@PyProof.Rows.callWith_type1
abbrev xU:=@List.length_replicate
abbrev xV:=@PySem.codeAny_builtin
abbrev xW:=@Nat.le_of_not_lt
abbrev xX:=@PySem.F.plainAttrs_list
abbrev xY:=@List.map_cons
abbrev xZ:=@PySem.wpAny_holding
abbrev x8:=@List.mem_iff_getElem
abbrev yA:=@PySem.Heap.get?_update_other
abbrev yB:=@Nat.lt_of_le_of_lt
abbrev yC:=@Int.le_trans
abbrev yD:=@Nat.lt_succ_iff_lt_or_eq
abbrev yE:=@PySem.Heap.get?_update_self
abbrev yF:=@PySem.W.mg_none_of
abbrev yG:=@Nat.ne_of_gt
abbrev yH:=@PySem.wpAny_setState_of
abbrev yI:=@PySem.wpAny_truthy_bool
abbrev yJ:=@List.length_range
abbrev yK:=@List.mem_of_mem_take
abbrev yL:=@PySem.wpAny_seqItems
abbrev yM:=@PySem.W.kia_one
abbrev yN:=@List.take_length
abbrev yO:=@Nat.succ_le_succ
abbrev yP:=@Array.getElem?_eq_getElem
abbrev yQ:=@List.map_eq_nil_iff
abbrev yR:=@Int.toNat_natCast
abbrev yS:=@Nat.le_succ
abbrev yT:=@Nat.le_succ_of_le
abbrev yU:=@List.filterMap_append
abbrev yV:=@PySem.plainId_quiet
abbrev yW:=@PySem.wpAny_askSetting
abbrev yX:=@Nat.le_add_right
abbrev yY:=@List.getElem?_set_ne
abbrev yZ:=@PySem.wpAny_newObj_type
abbrev y9:=@List.getElem?_set_self
abbrev uA:=@Bool.eq_iff_iff
abbrev uB:=@List.length_filter_le
abbrev uC:=@Bool.and_eq_true
abbrev uD:=@List.mem_filterMap
abbrev uE:=@Int.zero_add
abbrev uF:=@PySem.wpAny_setField
abbrev uG:=@List.length_set
abbrev uH:=@Nat.min_eq_left
abbrev uI:=@List.filterMap_cons
abbrev uJ:=@PyProof.Rows.F.plain_set_update_loop
abbrev uK:=@Nat.lt_trans
abbrev uL:=@List.length_drop
abbrev uM:=@List.lookup_cons
abbrev uN:=@PySem.wpAny_call_entry
abbrev uO:=@Int.emod_lt_of_pos
abbrev uP:=@PySem.wpAny_Call_Name_kw
abbrev uQ:=@List.length_singleton
abbrev uR:=@PySem.wpAny_passesOwn
abbrev uS:=@List.mem_of_mem_drop
abbrev uT:=@PySem.codeAny_mono
abbrev uU:=@List.mem_map_of_mem
abbrev uV:=@PySem.mem_of_lookup
abbrev uW:=@List.all_eq_true
abbrev uX:=@Nat.succ_ne_zero
abbrev uY:=@Int.lt_of_lt_of_le
abbrev uZ:=@Int.emod_nonneg
abbrev u6:=@List.nodup_cons
abbrev u7:=@List.of_mem_zip
abbrev u8:=@List.range_succ
abbrev u9:=@PySem.wpAny_updateSeq
abbrev vA:=@List.map_take
abbrev vB:=@Array.getElem?_toList
abbrev vC:=@List.take_append_drop
abbrev vD:=@List.ext_getElem?
abbrev vE:=@List.mem_append_left
abbrev vF:=@Nat.le_sub_one_of_lt
abbrev vG:=@List.any_eq_true
abbrev vH:=@List.map_congr_left
abbrev vI:=@List.all_cons
abbrev vJ:=@List.any_cons
abbrev vK:=@PySem.PassesOwn.never
abbrev vL:=@Nat.le_antisymm
abbrev vM:=@List.length_eq_zero_iff
abbrev vN:=@Array.getElem?_eq_none
abbrev vO:=@List.nodup_append
abbrev vP:=@Nat.le_of_lt_succ
abbrev vQ:=@Nat.lt_of_succ_lt_succ
abbrev vR:=@Option.map_some
abbrev vS:=@PySem.wpAny_execs_nil
abbrev vT:=@List.Perm.refl
abbrev vU:=@List.filterMap_map
abbrev vV:=@List.nodup_nil
abbrev vW:=@PySem.call_meets
abbrev vX:=@List.cons.inj
abbrev vY:=@List.eq_of_mem_replicate
abbrev vZ:=@List.map_drop
abbrev v0:=@PySem.F.slot_list_append
abbrev v3:=@PySem.F.slot_list_extend
abbrev v4:=@PySem.F.type_list_append
abbrev v5:=@PySem.F.type_list_extend
abbrev v6:=@PySem.wpAny_standAt
abbrev v7:=@List.cons_append
abbrev wA:=@PySem.wpAny_isInstance
abbrev wB:=@PySem.wpAny_ite_split
abbrev wC:=@Int.le_antisymm
abbrev wD:=@List.drop_zero
abbrev wE:=@PySem.isSubtype_type
abbrev wF:=@Int.le_of_lt
abbrev wG:=@List.not_lt
theorem O.{u}{α:Sort u}{a:α}:a=a:=rfl
section
open PySem PySem.Spec
abbrev TB:=List (List Int)
abbrev TC:=List (Int×Int)
abbrev TF:=List (Addr×Obj)
abbrev TH:=Value->Shared->Prop
abbrev TJ:=Str->Option Value
abbrev TK:=List (Str×Str)
abbrev TL:=List (List Nat)
abbrev TM:=List Nat
abbrev TN:=List Int
abbrev TQ:=List Addr
abbrev TU:=List Value
abbrev TV:=List Str
abbrev TW:=List Expr
end
namespace L2
open PyProof.Rows
abbrev aW:=Sum Int Str
def lZ:aW->Value->Bool
 | .inl k,v=>Value.isInt k v
 | .inr x,v=>Value.isStrOf x v
def Uq(w:World):aW->Int
 | .inl k=>hashInt k
 | .inr x=>hashStr w x
def i4:∀{k:aW} {v:Value},lZ k v=true->(∃i t,k=Sum.inl i/\v=Value.int i t)\/(∃x t,k=Sum.inr x/\v=Value.str x t)
 | .inl i, v, h => by
   let⟨t,e⟩:=Value.isInt_shape (k:=i) (v:=v) h
   show .inl ⟨i,t,O,e⟩
 | .inr x, v, h => by
   let⟨t,e⟩:=Value.isStrOf_shape (x:=x) (v:=v) h
   show .inr ⟨x,t,O,e⟩
def Ur(i:Int)(t:Tok):lZ (.inl i) (.int i t)=true:=by simp[lZ,Value.isInt]
def Us(x:Str)(t:Tok):lZ (.inr x) (.str x t)=true:=by simp[lZ,Value.isStrOf]
def Ut(a b:Int):decide ((Sum.inl a:aW)=Sum.inl b)=(a == b):=by
 by_cases e:a=b
 .subst e;simp
 .let h:¬(Sum.inl a:aW)=Sum.inl b:=λq=>e (Sum.inl.inj q)
  rw[rB h];show(beq_eq_false_iff_ne.mpr e).symm
def Uu(a b:Str):decide ((Sum.inr a:aW)=Sum.inr b)=decide (a=b):=by
 by_cases e:a=b
 .subst e;simp
 .let h:¬(Sum.inr a:aW)=Sum.inr b:=λq=>e (Sum.inr.inj q)
  rw[rB h,rB e]
def Uv(a:Int)(b:Str):decide ((Sum.inl a:aW)=Sum.inr b)=false:=rB (λq=>nomatch q)
def Uw(a:Str)(b:Int):decide ((Sum.inr a:aW)=Sum.inl b)=false:=rB (λq=>nomatch q)
def fD(prog:Program)(w:World):KeyKind prog w aW where
 is:=lZ
 hash:=Uq w
 inj:=λv a b ha hb=>by
  rcases i4 ha with⟨i,t,rfl,rfl⟩ | ⟨x,t,rfl,rfl⟩
  .rcases i4 hb with⟨j,u,rfl,e⟩ | ⟨y,u,rfl,e⟩
   .injection e with e1 _;rw[e1]
   .show nomatch e
  .rcases i4 hb with⟨j,u,rfl,e⟩ | ⟨y,u,rfl,e⟩
   .show nomatch e
   .injection e with e1 _;rw[e1]
 byValue:=λk v h=>by
  rcases i4 h with⟨i,t,rfl,rfl⟩ | ⟨x,t,rfl,rfl⟩<;>rfl
 pyHash:=λhv h=>by
  rcases i4 hv with⟨i,t,rfl,rfl⟩ | ⟨x,t,rfl,rfl⟩
  .show wpAny_pyHash_int h
  .show wpAny_pyHash_str h
 eqBool:=λhu hv h=>by
  rcases i4 hu with⟨i,t,rfl,rfl⟩ | ⟨x,t,rfl,rfl⟩
  .rcases i4 hv with⟨j,u,rfl,rfl⟩ | ⟨y,u,rfl,rfl⟩
   .rw[Ut]at h;show wpAny_eqBool_int h
   .rw[Uv]at h;show SeqAt.EqAt.int_str i t y u _ _ _ _ h
  .rcases i4 hv with⟨j,u,rfl,rfl⟩ | ⟨y,u,rfl,rfl⟩
   .rw[Uw]at h;show SeqAt.EqAt.str_int x t j u _ _ _ _ h
   .rw[Uu]at h;show wpAny_eqBool_str h
 «strs»:=λk x t v h=>by
  rcases i4 h with⟨i,u,rfl,e⟩ | ⟨y,u,rfl,e⟩
  .show nomatch e
  .injection e with e1 _
   subst e1;cases v<;>rfl
def Uy(prog:Program)(w:World)(i:Int)(t:Tok):(fD prog w).is (.inl i) (.int i t)=true:=Ur i t
def JQ(prog:Program)(w:World)(x:Str)(t:Tok):(fD prog w).is (.inr x) (.str x t)=true:=Us x t
inductive V where
 | non | bl (b:Bool) | int (i:Int) | str (x:Str) | byt (b:Array UInt8) | flt (b:UInt64) | ref (a:Addr) | ty (n:String)
 deriving DecidableEq
def RelV:V->Value->Prop
 | .non,u=>u=Value.none
 | .bl b,u=>u=Value.bool b
 | .int i,u=>∃t,u=Value.int i t
 | .str x,u=>∃t,u=Value.str x t
 | .byt b,u=>∃t,u=Value.bytes b t
 | .flt b,u=>∃t,u=Value.float b t
 | .ref a,u=>u=Value.ref a
 | .ty n,u=>u=Value.type n
abbrev Vals:List V->List Value->Prop:=Paired RelV
def Vals.length(r:Vals xs us):xs⁻¹=us⁻¹:=qS r
theorem Vals.get:∀{xs:List V} {us:TU} {i:Nat} {x:V},Vals xs us->xs[i]?=!x->∃u,us[i]?=!u/\RelV x u
 | _,_,_,_,.nil,e=>by simp at e
 | _,_,0,_,.cons r _,e=>by simp at e;subst e;show-⟨r⟩
 | _, _, i + 1, x, .cons _ t, e => by
   let⟨u,h1,h2⟩:=Vals.get (i:=i) (x:=x) t ‹e›
   show⟨u,‹h1›,h2⟩
theorem Vals.set(r:RelV x u):∀{xs:List V} {us:TU} (i:Nat),Vals xs us->Vals (xs.set i x) (us.set i u)
 | _,_,_,.nil=>.nil
 | _,_,0,.cons _ t=>.cons r t
 | _,_,i+1,.cons q t=>.cons q (Vals.set r i t)
theorem Vals.append:∀{xs ys:List V} {us ws:TU},Vals xs us->Vals ys ws->Vals (xs++ys) (us++ws)
 | _,_,_,_,.nil,s=>s
 | _,_,_,_,.cons r t,s=>.cons r (Vals.append t s)
theorem Vals.take:∀{xs:List V} {us:TU} (n:Nat),Vals xs us->Vals (xs.take n) (us.take n)
 | _,_,0,_=>.nil
 | _,_,_+1,.nil=>.nil
 | _,_,n+1,.cons r t=>.cons r (Vals.take n t)
theorem Vals.drop:∀{xs:List V} {us:TU} (n:Nat),Vals xs us->Vals (xs.drop n) (us.drop n)
 | _,_,0,r=>r
 | _,_,_+1,.nil=>.nil
 | _,_,n+1,.cons _ t=>Vals.drop n t
def RelO:Option V->Option Value->Prop
 | some v,!u=>RelV v u
 | none,none=>True
 | _,_=>False
def KV{κ:Type}:List (κ×V)->List (κ×Value)->Prop:=Paired λ(p:κ×V) (q:κ×Value)=>p.1=q.1/\RelV p.2 q.2
def kV:aW->V
 | .inl i=>.int i
 | .inr x=>.str x
inductive HO where
 | lst (xs:List V)
 | tup (xs:List V)
 | dK (ax:List (aW×V)) | dT (ax:List (List aW×V))
 | set (S:Int->Bool) (n:Nat)
 | ins (C dx:Addr) (fs:List (Str×V))
 | own (x:Addr)
 | xd (fs:List (Str×V))
 | met (f x:Addr)
 | rng (lo hi:Int)
 | frz (o:Obj) (u:HO)
 | tbl (ps:Array Value)
 | ext (φ:Heap->Prop)
abbrev Hp:=Addr->Option HO
def af(H:Hp)(a:Addr)(o:HO):Hp:=λb=>if b=a then !o else H b
def aj:af H a o a=!o:=by unfold af;rw[qZ O]
def aF(h:b≠a):af H a o b=H b:=by unfold af;rw[qX h]
def JR{H:Hp}{a b:Addr}{o u:HO}(h:H a=!o)(h':H b=!u)(d:o≠u):a≠b:=by
 intro e;subst e;rw[h]at h';show d (rD h')
def cB{H:Hp}{a b:Addr}{o:HO}(h:H a=!o)(h':H b=none):a≠b:=by
 intro e;subst e;rw[h]at h';cases h'
section
variable(P:Program)(w:World)
def ObjOk(H:Hp)(h:Heap)(a:Addr):HO->Prop
 | .lst xs=>xs⁻¹<=sizeLine/\∃(ah:TU) (n:Nat),Vals xs ah/\h.get? a=!{cls:=.type "list",data:=.seq ah.toArray n}
 | .tup xs=>xs⁻¹<=sizeLine/\∃ah:TU,Vals xs ah/\IsTup h a ah.toArray
 | .dK ax=>ax⁻¹<=sizeLine/\(a == sysModules)=false/\∃vs,KV ax vs/\h.DictOf (fD P w) a vs
 | .dT ax=>ax⁻¹<=sizeLine/\(a == sysModules)=false/\∃xs:List (List aW×Addr×Value),
   Paired (λ(p:List aW×V) (q:List aW×Addr×Value)=>p.1=q.1/\H q.2.1=!.tup (p.1.map kV)/\RelV p.2 q.2.2) ax xs /\
   ∃o es ep,h.get? a=!o/\o.ExactDict/\o.data=.dict es ep/\es.toList=xs.map (entryOfKey (tupleKind (fD P w)))/\(xs.map (·.1)).Nodup
 | .set S n=>h.SetOf (intKind P w) a S n
 | .ins C dx fs=>H dx=!.own a/\fs⁻¹<=1000/\dx≠a/\h.get? a=!W.instObj C dx /\
   ∃mA,h.Ns1 dx mA/\(∀f,RelO (fs.lookup f) (mA f))/\Within mA (fs.map (·.1))
 | .own _=>∃o,h.get? a=!o
 | .xd fs=>∃mA,h.Ns1 a mA/\∀f,RelO (fs.lookup f) (mA f)
 | .rng lo hi=>∃t u v,h.get? a=!{cls:=.type "range",data:=.fields #[.int lo t,.int hi u,.int 1 v]}
 | .frz o u=>h.get? a=!o/\ObjOk H h a u
 | .tbl ps=>h.get? a=!{cls:=.none,data:=.fields ps}
 | .met f x=>h.get? a=!W.methodObj (.ref f) (.ref x)
 | .ext φ=>φ h/\(∃o,h.get? a=!o)/\∀h1 h2:Heap,φ h1->(∀o,h1.get? a=!o->h2.get? a=!o)->φ h2
def HOk(H:Hp)(h:Heap):=∀a o,H a=!o->ObjOk P w H h a o
end
section
variable{P:Program}{w:World}{H H':Hp}{h h':Heap}{a:Addr}{o:HO}
def ObjOk.lt(x:ObjOk P w H h a o):a<h.objs.size:=by
 cases o with
 | lst xs=>let⟨_,_,_,_,e⟩:=x;show qK e
 | tup xs=>let⟨_,_,_,p⟩:=x;show p.lt
 | dK ax=>let⟨_,_,_,_,o,_,_,e,_⟩:=x;show qK e
 | dT ax=>let⟨_,_,_,_,o,_,_,e,_⟩:=x;show qK e
 | set S n=>let⟨o,_,_,_,e,_⟩:=x;show qK e
 | ins C dx fs=>let⟨_,_,_,e,_⟩:=x;show qK e
 | own y=>let⟨_,e⟩:=x;show qK e
 | xd fs=>let⟨_,⟨_,_,_,e,_⟩,_⟩:=x;show qK e
 | rng lo hi=>let⟨_,_,_,e⟩:=x;show qK e
 | frz ob u=>let⟨e,_⟩:=x;show qK e
 | tbl ps=>show qK (show h.get? a=!_ from x)
 | met f y=>show qK (show h.get? a=!_ from x)
 | ext φ=>let⟨_,⟨_,e⟩,_⟩:=x;show qK e
theorem Paired.mapP{α β:Type}{F G:α->β->Prop}:∀{JS:List α} {JT:List β},Paired F JS JT->(∀a b,F a b->G a b)->Paired G JS JT
 | _,_,.nil,_=>.nil
 | _,_,.cons r t,f=>.cons (f _ _ r) (Paired.mapP t f)
def ObjOk.stay(x:ObjOk P w H h a o)(k:∀b u,(b=a\/H b=!.own a)->h.get? b=!u->h'.get? b=!u)(ho:∀b,H b=!.own a->H' b=!.own a)(ht:∀b xs,H b=!.tup xs->H' b=!.tup xs):ObjOk P w H' h' a o:=by
 induction o with
 | lst xs=>let⟨z,ah,n,r,e⟩:=x;show⟨z,ah,n,r,k _ _ (.inl O) e⟩
 | tup xs=>let⟨z,ah,r,ob,e,c⟩:=x;show⟨z,ah,r,ob,k _ _ (.inl O) e,c⟩
 | dK ax=>let⟨z,y,vs,r,ob,es,ep,e,c⟩:=x;show⟨z,y,vs,r,ob,es,ep,k _ _ (.inl O) e,c⟩
 | dT ax =>
   let⟨z,y,xs,r,ob,es,ep,e,c⟩:=x
   show⟨z,y,xs,Paired.mapP r λp q z=>⟨z.1,ht _ _ z.2.1,z.2.2⟩,ob,es,ep,k _ _ (.inl O) e,c⟩
 | set S n=>let⟨ob,es,ep,t,e,c⟩:=x;show⟨ob,es,ep,t,k _ _ (.inl O) e,c⟩
 | ins C dx fs =>
   let⟨d,z,ne,e,mA,⟨od,es,ep,e2,c⟩,r⟩:=x
   show⟨ho _ d,z,ne,k _ _ (.inl O) e,mA,⟨od,es,ep,k _ _ (.inr d) e2,c⟩,r⟩
 | own y=>let⟨ob,e⟩:=x;show⟨ob,k _ _ (.inl O) e⟩
 | xd fs=>let⟨mA,⟨od,es,ep,e,c⟩,r⟩:=x;show⟨mA,⟨od,es,ep,k _ _ (.inl O) e,c⟩,r⟩
 | rng lo hi=>let⟨t,u,v,e⟩:=x;show⟨t,u,v,k _ _ (.inl O) e⟩
 | frz ob u ih=>let⟨e,q⟩:=x;show⟨k _ _ (.inl O) e,ih q⟩
 | tbl ps =>
   let e:h.get? a=!{cls:=.none,data:=.fields ps}:=x
   show h'.get? a=!{cls:=.none,data:=.fields ps}
   show k a _ (.inl O) e
 | met f y =>
   let e:h.get? a=!W.methodObj (.ref f) (.ref y):=x
   show h'.get? a=!W.methodObj (.ref f) (.ref y)
   show k a _ (.inl O) e
 | ext φ=>let⟨p,⟨o,e⟩,st⟩:=x;show⟨st _ _ p λo q=>k _ _ (.inl O) q,⟨o,k _ _ (.inl O) e⟩,st⟩
def HOk.lt(x:HOk P w H h)(e:H a=!o):a<h.objs.size:=(x a o e).lt
def HOk.fresh(x:HOk P w H h)(e:h.objs.size<=a):H a=none:=by
 cases q:H a with
 | none=>rfl
 | some u=>show qT (rA (x.lt q) e) (rP _)
def HOk.kept(x:HOk P w H h)(k:∀b u,h.get? b=!u->h'.get? b=!u):HOk P w H h':=λa o e =>
 (x a o e).stay (λb u _ q=>k b u q) (λ_ q=>q) λ_ _ q=>q
def HOk.laid(x:HOk P w H h)(k:∀b u,h.get? b=!u->h'.get? b=!u)(hp:h.objs.size<=a)(new:ObjOk P w (af H a o) h' a o):HOk P w (af H a o) h':=λb u e=>by
 let hn:=x.fresh hp
 by_cases hb:b=a
 .subst hb;rw[aj]at e;cases e;show new
 .rw[aF hb]at e;show(x b u e).stay (λc v _ q=>k c v q) (λc q=>by rw[aF (cB q hn)];show q) λc xs q=>by rw[aF (cB q hn)];show q
end
def Rd(H:Hp)(a:Addr)(u:HO):=H a=!u\/∃o,H a=!.frz o u
def Rd.ok(r:Rd H a u)(x:HOk P w H h):ObjOk P w H h a u:=by
 rcases r with r | ⟨o,r⟩
 .show x a u r
 .let⟨_,q⟩:=x a _ r;show q
def tq:Option HO->Prop
 | some (.lst _)=>True
 | some (.dK _)=>True
 | some (.dT _)=>True
 | some (.set _ _)=>True
 | some (.ins _ _ _)=>True
 | some (.ext _)=>True
 | _=>False
section
variable{P:Program}{w:World}{H:Hp}{h h':Heap}{x e:Addr}{o':HO}
def HOk.write(ok:HOk P w H h)(mu:tq (H x))(he:e=x\/H e=!.own x)(k:∀b u,b≠e->h.get? b=!u->h'.get? b=!u)(pG:∃u,h'.get? e=!u)(new:ObjOk P w (af H x o') h' x o'):HOk P w (af H x o') h':=λb u q=>by
 let JU:∀c y,H c=!.own y->c≠x:=λc y r z=>by subst z;rw[r]at mu;show mu
 let Uz:∀c xs,H c=!.tup xs->c≠x:=λc xs r z=>by subst z;rw[r]at mu;show mu
 by_cases hb:b=x
 .subst hb;rw[aj]at q;cases q;show new
 .rw[aF hb]at q
  by_cases nO:b=e
  .let q':H b=!.own x:=by
    rcases he with z | z
    .show qT (nO.trans z) hb
    .rw[nO];show z
   rw[q]at q';cases q';let⟨v,hv⟩:=pG;show⟨v,by rw[nO];show hv⟩
  .show(ok b u q).stay (λc v hc r=>k c v ?_ r) (λc r=>by rw[aF (JU c b r)];show r) λc xs r=>by rw[aF (Uz c xs r)];show r
   rcases hc with rfl | hc
   .show nO
   .ext rfl;rcases he with z | z
    .show JU c b hc z
    .rw[hc]at z;cases z;show hb O
end
structure Un(fs ex:TQ)(H H':Hp)(h h':Heap):Prop where
 keep:∀b o,h.get? b=!o->H b=none->b∉fs->b∉ex->h'.get? b=!o
 slot:∀b o,h.get? b=!o->H b=none->b∈fs->b∉ex->∃sl,h'.get? b=!{o with slots:=sl}
 free:∀b o,h.get? b=!o->H b=none->b∉ex->H' b=none
 there:∀b o,h.get? b=!o->b∉ex->∃o',h'.get? b=!o'
 tups:∀b xs,H b=!.tup xs->H' b=!.tup xs
 frzs:∀b o u,H b=!.frz o u->H' b=!.frz o u
 tbls:∀b ps,H b=!.tbl ps->∃more,H' b=!.tbl (ps++more)
section
variable{fs UA ex tu:TQ}{H H1 H2:Hp}{h h1 h2 h':Heap}{a x e:Addr}{o:HO}
def Un.any(u:Un fs ex H H1 h h1)(q:h.get? b=!ob)(n:H b=none)(hx:b∉ex):∃sl,h1.get? b=!{ob with slots:=sl}:=by
 by_cases hb:b∈fs
 .show u.slot b ob q n hb hx
 .show⟨ob.slots,u.keep b ob q n hb hx⟩
def Un.trans(a:Un fs ex H H1 h h1)(b:Un fs ex H1 H2 h1 h2):Un fs ex H H2 h h2 where
 keep:=λc ob q n hc hx=>b.keep c ob (a.keep c ob q n hc hx) (a.free c ob q n hx) hc hx
 slot:=λc ob q n hc hx=>by
  let⟨sl,e1⟩:=a.slot c ob q n hc hx;let⟨Dt,e2⟩:=b.slot c _ e1 (a.free c ob q n hx) hc hx;show⟨Dt,e2⟩
 free:=λc ob q n hx=>by
  let⟨o',e1⟩:=a.there c ob q hx;show b.free c o' e1 (a.free c ob q n hx) hx
 there:=λc ob q hx=>by
  let⟨o',e1⟩:=a.there c ob q hx;show b.there c o' e1 hx
 tups:=λc xs q=>b.tups c xs (a.tups c xs q)
 frzs:=λc ob xs q=>b.frzs c ob xs (a.frzs c ob xs q)
 tbls:=λc ps q=>by
  let⟨m1,e1⟩:=a.tbls c ps q;let⟨m2,e2⟩:=b.tbls c _ e1;show⟨m1++m2,by rw[e2,Array.append_assoc]⟩
def Un.kept(k:∀b u,h.get? b=!u->h'.get? b=!u):Un fs ex H H h h' :=
 ⟨λb ob q _ _ _=>k b ob q,λb ob q _ _ _=>⟨ob.slots,k b ob q⟩,λ_ _ _ n _=>n,λb ob q _=>⟨ob,k b ob q⟩,λ_ _ q=>q,λ_ _ _ q=>q,λ_ ps q=>⟨#[],by rw[q];simp⟩⟩
def Un.refl:Un fs ex H H h h:=Un.kept λ_ _ q=>q
def Un.laid(k:∀b u,h.get? b=!u->h'.get? b=!u)(hp:h.objs.size<=a)(hn:H a=none):Un fs ex H (af H a o) h h' where
 keep:=λb u q _ _ _=>k b u q
 slot:=λb u q _ _ _=>⟨u.slots,k b u q⟩
 free:=λb u q n _=>by rw[aF (rC (rA (qK q) hp))];show n
 there:=λb u q _=>⟨u,k b u q⟩
 tups:=λb xs q=>by rw[aF (cB q hn)];show q
 frzs:=λb u xs q=>by rw[aF (cB q hn)];show q
 tbls:=λb ps q=>⟨#[],by rw[aF (cB q hn),q];simp⟩
def Un.write(mu:tq (H x))(he:e=x\/H e=!.own x)(k:∀b u,b≠e->h.get? b=!u->h'.get? b=!u)(pG:∃u,h'.get? e=!u):Un fs ex H (af H x o) h h':=by
 let hx:∀b,H b=none->b≠x:=λb n z=>by subst z;rw[n]at mu;show mu
 let hb:∀b,H b=none->b≠e:=λb n z=>by
  subst z;rcases he with r | r
  .show hx b n r
  .rw[n]at r;cases r
 let hm:∀b u,H b=!u->¬tq (!u)->b≠x:=λb u q nm z=>by subst z;rw[q]at mu;show nm mu
 show⟨λb u q n _ _=>k b u (hb b n) q,λb u q n _ _=>⟨u.slots,k b u (hb b n) q⟩,λb u q n _=>by rw[aF (hx b n)];show n,λb u q _=>?_,
  λb xs q=>by rw[aF (hm b _ q λz=>z)];show q,λb u xs q=>by rw[aF (hm b _ q λz=>z)];show q,λb ps q=>⟨#[],by rw[aF (hm b _ q λz=>z),q];simp⟩⟩
 by_cases nO:b=e
 .subst nO;show pG
 .show⟨u,k b u nO q⟩
end
def AK(h:Heap)(H:Hp):TQ:=(List.range h.objs.size).filter λa=>(H a).isSome
def jD(h:Heap)(H:Hp):Heap:=W.hideAll h (AK h H)
def UC(h:Heap)(H:Hp):(jD h H).objs.size=h.objs.size:=W.hideAll_size _ _
def UD(e:h.get? b=!o)(n:H b=none):(jD h H).get? b=!o :=
 W.hideAll_get _ e λhm=>by
  let q:(H b).isSome=true:=(xL.mp hm).2;rw[n]at q;simp at q
def UE(e:(jD h H).get? b=!o):h.get? b=!o/\H b=none:=by
 let e':h.get? b=!o:=W.of_hideAll (AK h H) e;show⟨e',?_⟩;cases q:H b with
 | none=>rfl
 | some x =>
   let hm:b∈AK h H:=xL.mpr ⟨xC.mpr (qK e'),by simp[q]⟩
   let z:(jD h H).get? b=none:=W.hideAll_none (AK h H) hm
   rw[z]at e;cases e
structure Mod(K:W.Frag)(mg:TJ)(base:Heap):Prop where
 kin:K.In base
 glob:base.Ns mainGlobals mg
 blt:∃mb,base.Ns builtinsNs mb/\∀x:Str,x ≠ "__name__" -> mb x=bootBuiltins x
 nolimit:base.NoLimit
structure Cx where
 prog:Program
 w:World
 K:W.Frag
 mg:Str->Option Value
 base:Heap
 A:Around
 N:TV
 s₀:Shared
 H₀:Hp
 env:Env
 outer:List Env
 stack:List Env
 ex:TQ
 fn:Str->Bool
 calm:Bool
 pn:TF
 xe:Value->Shared->Prop
def cX(l:List Env):TQ:=l.filterMap (·.frame)
abbrev Cx.fs(X:Cx):TQ:=cX X.outer
def pH(sc:Scope)(x:Str):Prop:=sc.names.lookup x=!.local\/sc.names.lookup x=!.cell\/sc.names.lookup x=!.free
def Loc(sc:Scope)(x:Str):Prop:=sc.names.lookup x=!.local\/sc.names.lookup x=!.cell
def Look(env:Env)(h:Heap)(m:TJ)(x:Str)(u:Value):Prop :=
 (env.kindOf x=!.local/\m x=!u)\/((env.kindOf x=!.cell\/env.kindOf x=!.free)/\∃c,env.cells.lookup x=!c/\h.IsCell c (!u))
structure Cx.Ok(X:Cx):Prop where
 mod:Mod X.K X.mg X.base
 kind:X.env.scope.kind=.function
 glob:X.env.globals=mainGlobals
 blt:X.env.builtins=builtinsNs
 above: ~~~X.s₀<=X.env.locals
 inj:∀x y c,X.env.cells.lookup x=!c->X.env.cells.lookup y=!c->x=y
 has:∀x,(X.env.kindOf x=!.cell\/X.env.kindOf x=!.free)->∃c,X.env.cells.lookup x=!c
 cab:∀x c,X.fn x=true->X.env.cells.lookup x=!c-> ~~~X.s₀<=c
 hd:X.calm=true->X.A.handled=none
 frames:X.A.frames=!X.stack
 stk:X.stack=X.outer\/(X.stack=X.env::X.outer/\X.env.frame=!X.env.locals)
 exf:∀b∈X.ex,b≠X.env.locals/\∀x c,X.env.cells.lookup x=!c->c≠b
 bs:∀b o,X.base.get? b=!o->X.s₀.heap.get? b=!o/\X.H₀ b=none
 bsz:X.base.objs.size<= ~~~X.s₀
 noex:∀b o,X.base.get? b=!o->b∉X.ex
 exfs:∀b∈X.ex,b∉X.fs
 funs:X.s₀.heap.FunFrames X.base X.outer
 frf:∀b∈X.fs,X.H₀ b=none
structure Inv(X:Cx)(aa:TF)(σ:List (Option V))(H:Hp)(s:Shared):Prop where
 ok:X.Ok
 os:s.os=X.s₀.os
 bare:AllBare s.gens
 base:Un X.fs X.ex X.H₀ H X.s₀.heap s.heap
 loc:∃m,s.heap.Ns X.env.locals m/\∀(i:Nat) (x:Str) (v:V),X.N[i]?=!x->σ[i]?=!!v->pH X.env.scope x->∃u,RelV v u/\Look X.env s.heap m x u
 cell:∀x c,X.env.cells.lookup x=!c->∃v,s.heap.IsCell c v
 free:H X.env.locals=none
 freeC:∀x c,X.env.cells.lookup x=!c->H c=none
 pin:∀p∈X.pn++aa,s.heap.get? p.1=!p.2/\H p.1=none/\p.1≠X.env.locals/\p.1∉X.fs/\∀v,p.2.data≠.cell v
 hok:HOk X.prog X.w H s.heap
 len:σ⁻¹=X.N.length
section
variable{X:Cx}{aa:TF}{σ:List (Option V)}{H H':Hp}{s:Shared}{h':Heap}
def Cx.Ok.nofr(ok:X.Ok)(e:X.base.get? b=!o):b∉X.fs:=λhb=>by
 have:=(ok.funs.mem hb).1;rw[e]at this;cases this
def Inv.bs(I:Inv X aa σ H s):∀b o,X.base.get? b=!o->s.heap.get? b=!o/\H b=none:=λb o e =>
 ⟨I.base.keep b o (I.ok.bs b o e).1 (I.ok.bs b o e).2 (I.ok.nofr e) (I.ok.noex b o e),I.base.free b o (I.ok.bs b o e).1 (I.ok.bs b o e).2 (I.ok.noex b o e)⟩
def Inv.bk(I:Inv X aa σ H s):∀b o,X.base.get? b=!o->s.heap.get? b=!o:=λb o e=>(I.bs b o e).1
def Inv.mod(I:Inv X aa σ H s):Mod X.K X.mg X.base:=I.ok.mod
def Inv.kIn(I:Inv X aa σ H s):X.K.In s.heap:=I.ok.mod.kin.keeps I.bk
def Inv.lt(I:Inv X aa σ H s):X.env.locals< ~~~s:=let⟨_,hn,_⟩:=I.loc;hn.lt
def Inv.sz(I:Inv X aa σ H s): ~~~X.s₀<= ~~~s:=rK I.ok.above (rX I.lt)
def Inv.nofs(I:Inv X aa σ H s)(h: ~~~s<=a):a∉X.fs:=λhb=>by
 let⟨_,o,ho,_⟩:=I.ok.funs.mem hb;show qT (rA (qK ho) (rK I.sz h)) (rP _)
def Inv.cne(I:Inv X aa σ H s):∀x c,X.env.cells.lookup x=!c->c≠X.env.locals:=λx c e z=>by
 let⟨v,o,ho,hd⟩:=I.cell x c e;let⟨m,⟨o',es,ep,kB,Du,_⟩,_⟩:=I.loc;rw[z,kB]at ho;cases ho;rw[Du]at hd;cases hd
def Inv.funs(I:Inv X aa σ H s):s.heap.FunFrames X.base X.outer:=by
 have all:∀(l:List Env),(∀b∈cX l,b∈X.fs)->X.s₀.heap.FunFrames X.base l->s.heap.FunFrames X.base l:=by
  intro l
  induction l with
  | nil=>intro _ _;trivial
  | cons env r ih =>
    intro hs hl
    let⟨hk,⟨L,o,hf,hn,ho,hd⟩,hr⟩:=hl
    let hL:L∈X.fs:=hs L (by unfold cX;rw[uI,hf];show rF)
    let⟨sl,e⟩:=I.base.slot L o ho (I.ok.frf L hL) hL λz=>I.ok.exfs L z hL
    show⟨hk,⟨L,_,hf,hn,e,hd⟩,ih (λb hb=>hs b (by unfold cX;rw[uI,hf];show qW _ hb)) hr⟩
 show all X.outer (λ_ hb=>hb) I.ok.funs
def Inv.stack(I:Inv X aa σ H s):s.heap.FunFrames X.base X.stack:=by
 rcases I.ok.stk with e | ⟨e,hf⟩
 .rw[e];show I.funs
 .rw[e];let⟨m,hn,_⟩:=I.loc;show .cons (by rw[I.ok.kind];decide) hf hn ?_ I.funs;show Heap.get?_none_of_le (rK I.ok.bsz I.ok.above)
def Inv.stkSub(I:Inv X aa σ H s):∀b∈cX X.stack,b∈X.env.locals::X.fs:=λb hb=>by
 rcases I.ok.stk with e | ⟨e,hf⟩
 .rw[e]at hb;show qW _ hb
 .rw[e]at hb;unfold cX at hb;rw[uI,hf]at hb;show hb
def Inv.stkFree(I:Inv X aa σ H s):∀b∈cX X.stack,H b=none:=λb hb=>by
 rcases qN.mp (I.stkSub b hb)with e | hb
 .rw[e];show I.free
 .let⟨_,o,ho,_⟩:=I.ok.funs.mem hb;show I.base.free b o ho (I.ok.frf b hb) λz=>I.ok.exfs b z hb
def Inv.step{g':Array GenState}{t':Nat}{d':Drawn}{ch:TQ}(I:Inv X aa σ H s)(eJ:∀b∈ch,(b∈X.ex\/~~~X.s₀<=b)/\b≠X.env.locals/\(∀x c,X.env.cells.lookup x=!c->c≠b)/\∀p∈X.pn++aa,p.1≠b)(keep:∀b o,b≠X.env.locals->b∉X.fs->b∉ch->s.heap.get? b=!o->H b=none->h'.get? b=!o)(slot:∀b o,b≠X.env.locals->b∈X.fs->b∉ch->s.heap.get? b=!o->H b=none->∃sl,h'.get? b=!{o with slots:=sl})(free:∀b o,b∉ch->s.heap.get? b=!o->H b=none->H' b=none)(there:∀b o,b∉ch->s.heap.get? b=!o->∃o',h'.get? b=!o')(tups:∀b xs,H b=!.tup xs->H' b=!.tup xs)(frzs:∀b o u,H b=!.frz o u->H' b=!.frz o u)(tbls:∀b ps,H b=!.tbl ps->∃more,H' b=!.tbl (ps++more))(ns:∀m,s.heap.Ns X.env.locals m->h'.Ns X.env.locals m)(hok:HOk X.prog X.w H' h')(hg:AllBare g') :
  Inv X aa σ H' {s with heap:=h',gens:=g',drawn:=d',toks:=t'}:=by
 let JV:∀b o,X.s₀.heap.get? b=!o->b≠X.env.locals:=λb o e=>rC (rA (qK e) I.ok.above)
 let pI:∀b o,X.s₀.heap.get? b=!o->b∉X.ex->b∉ch:=λb o e hx hb=>by
  rcases(eJ b hb).1 with z | z
  .show hx z
  .show qT (rA (qK e) z) (rP _)
 let JW:∀x c,X.env.cells.lookup x=!c->∀v,s.heap.IsCell c v->h'.IsCell c v:=λx c e v ⟨o,ho,hd⟩=>by
  let tz:c∉ch:=λz=>(eJ c z).2.2.1 x c e O
  by_cases hc:c∈X.fs
  .let⟨sl,q⟩:=slot c o (I.cne x c e) hc tz ho (I.freeC x c e);show⟨_,q,hd⟩
  .show⟨o,keep c o (I.cne x c e) hc tz ho (I.freeC x c e),hd⟩
 show⟨I.ok,I.os,hg,⟨λb o e n hb hx=>?_,λb o e n hb hx=>?_,λb o e n hx=>?_,λb o e hx=>?_,λb xs e=>tups b xs (I.base.tups b xs e),λb o xs e=>frzs b o xs (I.base.frzs b o xs e),λb ps e=>?_⟩,?_,λx c e=>?_,?_,λx c e=>?_,λp hp=>?_,hok,I.len⟩
 .show keep b o (JV b o e) hb (pI b o e hx) (I.base.keep b o e n hb hx) (I.base.free b o e n hx)
 .let⟨sl,e1⟩:=I.base.slot b o e n hb hx;let⟨Dt,e2⟩:=slot b _ (JV b o e) hb (pI b o e hx) e1 (I.base.free b o e n hx);show⟨Dt,e2⟩
 .let⟨o',e1⟩:=I.base.there b o e hx;show free b o' (pI b o e hx) e1 (I.base.free b o e n hx)
 .let⟨o',e1⟩:=I.base.there b o e hx;show there b o' (pI b o e hx) e1
 .let⟨m1,e1⟩:=I.base.tbls b ps e;let⟨m2,e2⟩:=tbls b _ e1;show⟨m1++m2,by rw[e2,Array.append_assoc]⟩
 .let⟨m,hn,hl⟩:=I.loc;show⟨m,ns m hn,λi x v e1 e2 e3=>?_⟩;let⟨u,r,l⟩:=hl i x v e1 e2 e3;show⟨u,r,?_⟩;rcases l with l | ⟨k,c,e,z⟩
  .show .inl l
  .show .inr ⟨k,c,e,JW x c e _ z⟩
 .let⟨v,z⟩:=I.cell x c e;show⟨v,JW x c e v z⟩
 .let⟨m,⟨o,_,_,ho,_⟩,_⟩:=I.loc;show free _ o (λz=>(eJ _ z).2.1 O) ho I.free
 .let⟨v,o,ho,hd⟩:=I.cell x c e;show free c o (λz=>(eJ c z).2.2.1 x c e O) ho (I.freeC x c e)
 .let⟨e,n,ne,nf,d⟩:=I.pin p hp;let tz:p.1∉ch:=λz=>(eJ p.1 z).2.2.2 p hp O
  show⟨keep p.1 p.2 ne nf tz e n,free p.1 p.2 tz e n,ne,nf,d⟩
def Inv.un{t':Nat}(I:Inv X aa σ H s)(u:Un X.fs [] H H' s.heap h')(hok:HOk X.prog X.w H' h'):Inv X aa σ H' {s with heap:=h',toks:=t'}:=by
 let⟨m,⟨o,es,ep,ho,r⟩,_⟩:=id I.loc;let⟨sl,hL⟩:=u.any ho I.free ∅;show I.step (g':=s.gens) (d':=s.drawn) (ch:=[]) (λ_ z=>nomatch z) (λb o _ hb _ e n=>u.keep b o e n hb ∅) (λb o _ hb _ e n=>u.slot b o e n hb ∅) (λb o _ e n=>u.free b o e n ∅) (λb o _ e=>u.there b o e ∅) u.tups u.frzs u.tbls (λm' hm=>by
  let⟨o',nQ,tD,kB,r'⟩:=hm;rw[ho]at kB;cases kB;show⟨_,nQ,tD,hL,r'⟩) hok I.bare
def Inv.call{g':Array GenState}{t':Nat}{d':Drawn}{ch:TQ}(I:Inv X aa σ H s)(u:Un (cX X.stack) ch H H' s.heap h')(hok:HOk X.prog X.w H' h')(hg:AllBare g')(eJ:∀b∈ch,(b∈X.ex\/~~~X.s₀<=b)/\b≠X.env.locals/\(∀x c,X.env.cells.lookup x=!c->c≠b)/\∀p∈X.pn++aa,p.1≠b) :
  Inv X aa σ H' {s with heap:=h',gens:=g',drawn:=d',toks:=t'}:=by
 let⟨m,⟨o,es,ep,ho,r⟩,_⟩:=id I.loc;let⟨sl,hL⟩:=u.any ho I.free λz=>(eJ _ z).2.1 O
 show I.step (ch:=ch) eJ (λb o hL hb hc e n=>u.keep b o e n (λz=>(qN.mp (I.stkSub b z)).elim hL hb) hc) (λb o _ _ hc e n=>u.any e n hc) (λb o hc e n=>u.free b o e n hc) (λb o hc e=>u.there b o e hc) u.tups u.frzs u.tbls (λm' hm=>by
  let⟨o',nQ,tD,kB,r'⟩:=hm;rw[ho]at kB;cases kB;show⟨_,nQ,tD,hL,r'⟩) hok hg
def Inv.turned{t':Nat}{it:Addr}(I:Inv X aa σ H s)(k:∀b o,b≠it->s.heap.get? b=!o->h'.get? b=!o)(hn:H it=none)(hL:it≠X.env.locals)(h1:it∈X.ex\/~~~X.s₀<=it)(h2:∀x c,X.env.cells.lookup x=!c->c≠it)(h3:∀p∈X.pn++aa,p.1≠it):Inv X aa σ H {s with heap:=h',toks:=t'}:=by
 let JX:∀b u,H b=!u->b≠it:=λb u e z=>by rw[z,hn]at e;cases e
 show I.step (g':=s.gens) (d':=s.drawn) (ch:=[it]) (λb hb=>?_) (λb o _ _ hc e _=>k b o (λz=>hc (by simp[z])) e) (λb o _ _ hc e _=>⟨o.slots,k b o (λz=>hc (by simp[z])) e⟩) (λ_ _ _ _ n=>n)
  (λb o hc e=>⟨o,k b o (λz=>hc (by simp[z])) e⟩) (λ_ _ e=>e) (λ_ _ _ e=>e) (λb ps e=>⟨#[],by rw[e];simp⟩) (λm hm=>?_) (λb u e=>?_) I.bare
 .let e:b=it:=‹hb›
  subst e;show⟨h1,hL,h2,h3⟩
 .let⟨o,es,ep,ho,r⟩:=hm;show⟨o,es,ep,k _ o (rV hL) ho,r⟩
 .show(I.hok b u e).stay (λc v hc q=>k c v ?_ q) (λ_ q=>q) λ_ _ q=>q
  rcases hc with z | z
  .rw[z];show JX b u e
  .show JX c _ z
def Inv.tok(I:Inv X aa σ H s)(t:Nat):Inv X aa σ H {s with toks:=t}:=I.un (h':=s.heap) (t':=t) Un.refl I.hok
def Inv.kept{t':Nat}(I:Inv X aa σ H s)(k:∀b u,s.heap.get? b=!u->h'.get? b=!u):Inv X aa σ H {s with heap:=h',toks:=t'}:=I.un (Un.kept k) (I.hok.kept k)
def Inv.laid{t':Nat}(I:Inv X aa σ H s)(k:∀b u,s.heap.get? b=!u->h'.get? b=!u)(hp: ~~~s<=a)(new:ObjOk X.prog X.w (af H a o) h' a o) :
  Inv X aa σ (af H a o) {s with heap:=h',toks:=t'}:=I.un (Un.laid k hp (I.hok.fresh hp)) (I.hok.laid k hp new)
def Inv.write{t':Nat}(I:Inv X aa σ H s)(mu:tq (H x))(he:e=x\/H e=!.own x)(k:∀b u,b≠e->s.heap.get? b=!u->h'.get? b=!u)(pG:∃u,h'.get? e=!u)(new:ObjOk X.prog X.w (af H x o) h' x o):Inv X aa σ (af H x o) {s with heap:=h',toks:=t'}:=I.un (Un.write mu he k pG) (I.hok.write mu he k pG new)
def Inv.pins_of{JY:TF}(I:Inv X aa σ H s)(h:∀p∈JY,s.heap.get? p.1=!p.2/\H p.1=none/\p.1≠X.env.locals/\p.1∉X.fs/\∀v,p.2.data≠.cell v):Inv X JY σ H s :=
 ⟨I.ok,I.os,I.bare,I.base,I.loc,I.cell,I.free,I.freeC,λp hp=>(rE.mp hp).elim (λz=>I.pin p (vE _ z)) (h p),I.hok,I.len⟩
def JZ{N:TV}(hN:N.Nodup){i j:Nat}{x:Str}(a:N[i]?=!x)(b:N[j]?=!x):i=j:=by
 let⟨h1,e1⟩:=qF.mp a;let⟨h2,e2⟩:=qF.mp b;show(List.getElem_inj hN).mp (e1.trans e2.symm)
def J0{M:Model}{A:Around}{E:TH}{i:Nat}{x:Str}{v:V}{u:Value}{Q:Unit->Shared->Prop}(I:Inv X aa σ H s)(hN:X.N.Nodup)(hi:X.N[i]?=!x)(hx:Loc X.env.scope x)(r:RelV v u)(h:∀s',Inv X aa (σ.set i (!v)) H s'->(∃a,Heap.SameBut a s.heap s'.heap/\(a=X.env.locals\/X.env.cells.lookup x=!a))->Q Unit.unit s')(hf:X.fn x=true\/X.env.scope.names.lookup x=!.local:=by first | show .inl rfl | show .inr rfl | assumption):wpAny M A (storeName X.env x u) Q E s:=by
 let⟨m,hn,hl⟩:=id I.loc;let UH:(X.env.scope.kind == .class || (X.env.scope.kind == .module && X.env.locals != X.env.globals))=false:=by rw[I.ok.kind];rfl
 let J7:i<σ⁻¹:=by rw[I.len];show(qF.mp hi).1
 let cne:=I.cne;let J8:∀{a:Addr} {h':Heap},(∃o,s.heap.get? a=!o/\H a=none)->Heap.SameBut a s.heap h'->HOk X.prog X.w H h':=λ{a h'} ha hs b ob e=>by
  let⟨_,_,J9⟩:=ha;show(I.hok b ob e).stay (λc w' hc q=>(hs.2 c ?_).trans q) (λ_ q=>q) λ_ _ q=>q
  ext rfl;rcases hc with rfl | hc
  .rw[J9]at e;cases e
  .rw[J9]at hc;cases hc
 rcases hx with hk | hk
 .refine wpAny_storeName_local hk hn (λh' Dw hs=>?_) UH;let⟨oL,_,_,UI,_⟩:=id hn;show h _ ⟨I.ok,I.os,I.bare,⟨λb o e n hb hx=>?_,λb o e n hb hx=>?_,I.base.free,λb o e hx=>?_,I.base.tups,I.base.frzs,I.base.tbls⟩,⟨_,Dw,λj y v' e1 e2 e3=>?_⟩,λy c e=>?_,I.free,I.freeC,λp hp=>?_,J8 ⟨oL,UI,I.free⟩ hs,‹I.len›⟩ ⟨_,hs,.inl O⟩
  .show(hs.2 b (rC (rA (qK e) I.ok.above))).trans (I.base.keep b o e n hb hx)
  .let⟨sl,e1⟩:=I.base.slot b o e n hb hx;show⟨sl,(hs.2 b (rC (rA (qK e) I.ok.above))).trans e1⟩
  .let⟨o',e1⟩:=I.base.there b o e hx;show⟨o',(hs.2 b (rC (rA (qK e) I.ok.above))).trans e1⟩
  .by_cases hj:j=i
   .subst hj;rw[hi]at e1;cases e1;rw[y9 J7]at e2;cases e2;show⟨u,r,.inl ⟨hk,∅⟩⟩
   .rw[yY (rV hj)]at e2;let⟨u',r',q⟩:=hl j y v' e1 e2 e3;show⟨u',r',?_⟩;rcases q with⟨k,e⟩ | ⟨k,c,e,z⟩
    .show .inl ⟨k,?_⟩;have:y≠x:=λe=>hj (JZ hN e1 (e ▸ hi))
     simp[this,e]
    .show .inr ⟨k,c,e,z.sameBut hs (cne y c e)⟩
  .let⟨w',z⟩:=I.cell y c e;show⟨w',z.sameBut hs (cne y c e)⟩
  .let⟨e,n,ne,nf,d⟩:=I.pin p hp;show⟨(hs.2 p.1 ne).trans e,n,ne,nf,d⟩
 .have tF:X.fn x=true:=by
   rcases hf with z | z
   .show z
   .rw[z]at hk;cases hk
  let⟨c,hc⟩:=I.ok.has x (.inl hk);let⟨w',z⟩:=I.cell x c hc;show wpAny_storeName_cell I.ok.kind hk hc z (λh' eK hs=>?_);let⟨oc,Ke,UJ⟩:=id z;show h {s with heap:=h'} ⟨I.ok,I.os,I.bare,⟨λb o e n hb hx=>?_,λb o e n hb hx=>?_,I.base.free,λb o e hx=>?_,I.base.tups,I.base.frzs,I.base.tbls⟩,⟨m,hn.sameBut hs (rV (cne x c hc)),λj y v' e1 e2 e3=>?_⟩,λy c' e=>?_,I.free,I.freeC,λp hp=>?_,J8 ⟨oc,Ke,I.freeC x c hc⟩ hs,‹I.len›⟩ ⟨c,hs,.inr hc⟩
  .show(hs.2 b (rC (rA (qK e) (I.ok.cab x c tF hc)))).trans (I.base.keep b o e n hb hx)
  .let⟨sl,e1⟩:=I.base.slot b o e n hb hx;show⟨sl,(hs.2 b (rC (rA (qK e) (I.ok.cab x c tF hc)))).trans e1⟩
  .let⟨o',e1⟩:=I.base.there b o e hx;show⟨o',(hs.2 b (rC (rA (qK e) (I.ok.cab x c tF hc)))).trans e1⟩
  .by_cases hj:j=i
   .subst hj;rw[hi]at e1;cases e1;rw[y9 J7]at e2;cases e2;show⟨u,r,.inr ⟨.inl hk,c,hc,eK⟩⟩
   .rw[yY (rV hj)]at e2;let⟨u',r',q⟩:=hl j y v' e1 e2 e3;show⟨u',r',?_⟩;rcases q with q | ⟨k,c',e,z'⟩
    .show .inl q
    .show .inr ⟨k,c',e,z'.sameBut hs ?_⟩;ext rfl;show hj (JZ hN e1 (I.ok.inj _ _ _ e hc ▸ hi))
  .by_cases gM:c'=c
   .subst gM;show⟨_,eK⟩
   .let⟨w2,z2⟩:=I.cell y c' e;show⟨w2,z2.sameBut hs gM⟩
  .let⟨e,n,ne,nf,d⟩:=I.pin p hp;show⟨(hs.2 p.1 ?_).trans e,n,ne,nf,d⟩;intro q;rw[q,Ke]at e;let q':oc=p.2:=rD e;show d w' (by rw[<-q'];show UJ)
def Dx{E:TH}{i:Nat}{Q:Unit->Shared->Prop}(I:Inv X aa σ H s)(hN:X.N.Nodup)(hi:X.N[i]?=!x)(hx:Loc X.env.scope x)(r:RelV v u)(h:∀s',Inv X aa (σ.set i (!v)) H s'->Q Unit.unit s')(hf:X.fn x=true\/X.env.scope.names.lookup x=!.local:=by first | show .inl rfl | show .inr rfl | assumption):wpAny M A (storeName X.env x u) Q E s :=
 J0 I hN hi hx r (λs' I' _=>h s' I') hf
def Inv.call'(I:Inv X aa σ H s)(ho:s'.os=s.os)(u:Un (cX X.stack) ch H H' s.heap s'.heap)(hok:HOk X.prog X.w H' s'.heap)(hg:AllBare s'.gens)(eJ:∀b∈ch,(b∈X.ex\/~~~X.s₀<=b)/\b≠X.env.locals/\(∀x c,X.env.cells.lookup x=!c->c≠b)/\∀p∈X.pn++aa,p.1≠b):Inv X aa σ H' s':=by
 let⟨h',g',d',t',o'⟩:=s';let e:o'=s.os:=ho;subst e;show I.call (g':=g') (t':=t') (d':=d') u hok hg eJ
end
abbrev XK:=Value->Option Addr->Hp->Prop
abbrev St:=List (Option V)
abbrev VK:=V->Hp->Prop
abbrev TE:=St->Hp->VK->Prop
abbrev TT:=St->Hp->(Bool->Hp->Prop)->Prop
abbrev TA:=St->Hp->(List V->Hp->Prop)->Prop
structure gN where
 nx:St->Hp->Prop
 rt:VK
 bk:St->Hp->Prop:=λ_ _=>False
 ct:St->Hp->Prop:=λ_ _=>False
abbrev TS:=gN->St->Hp->Prop
def EP(X:Cx)(aa:TF)(σ:St)(Q:VK)(u:Value)(s':Shared):=∃v H',Inv X aa σ H' s'/\RelV v u/\Q v H'
def TP(X:Cx)(aa:TF)(σ:St)(Q:Bool->Hp->Prop)(b:Bool)(s':Shared):=∃H',Inv X aa σ H' s'/\Q b H'
def AP(X:Cx)(aa:TF)(σ:St)(Q:List V->Hp->Prop)(us:TU)(s':Shared):=∃vs H',Inv X aa σ H' s'/\Vals vs us/\Q vs H'
def SP(X:Cx)(aa:TF)(D:gN)(f:Flow)(s':Shared):Prop :=
 match f with
 | .next=>∃ae H',Inv X aa ae H' s'/\D.nx ae H'
 | .brk=>∃ae H',Inv X aa ae H' s'/\D.bk ae H'
 | .cont=>∃ae H',Inv X aa ae H' s'/\D.ct ae H'
 | .ret u=>∃v ae H',Inv X aa ae H' s'/\RelV v u/\D.rt v H'
def PE(X:Cx)(e:Expr)(t:TE):Prop :=
 ∀(aa:TF) (s:Shared) (σ:St) (H:Hp) (Q:VK),Inv X aa σ H s->t σ H Q->wpAny (model X.prog X.w) X.A (eval e X.env) (EP X aa σ Q) X.xe s
def PT(X:Cx)(e:Expr)(t:TT):Prop :=
 ∀(aa:TF) (s:Shared) (σ:St) (H:Hp) (Q:Bool->Hp->Prop),Inv X aa σ H s->t σ H Q->wpAny (model X.prog X.w) X.A (isTrue e X.env (eval e X.env)) (TP X aa σ Q) X.xe s
def PW(X:Cx)(e:Expr)(t:TT):Prop :=
 ∀(AL:Sem Value) (aa:TF) (s:Shared) (σ:St) (H:Hp) (Q:Bool->Hp->Prop),Inv X aa σ H s->t σ H Q->wpAny (model X.prog X.w) X.A (isTrue e X.env AL) (TP X aa σ Q) X.xe s
def PW.pt(h:PW X e t):PT X e t:=h _
def PA(X:Cx)(es:TW)(t:TA):Prop :=
 ∀(pos:Pos) (aa:TF) (s:Shared) (σ:St) (H:Hp) (Q:List V->Hp->Prop),Inv X aa σ H s->t σ H Q->wpAny (model X.prog X.w) X.A (spliced (backTo pos (starEach es X.env))) (AP X aa σ Q) X.xe s
def PS(X:Cx)(st:Stmt)(t:TS):Prop :=
 ∀(aa:TF) (s:Shared) (σ:St) (H:Hp) (D:gN),Inv X aa σ H s->t D σ H->wpAny (model X.prog X.w) X.A (exec st X.env) (SP X aa D) X.xe s
def PSs(X:Cx)(st:List Stmt)(t:TS):Prop :=
 ∀(aa:TF) (s:Shared) (σ:St) (H:Hp) (D:gN),Inv X aa σ H s->t D σ H->wpAny (model X.prog X.w) X.A (execs st X.env) (SP X aa D) X.xe s
def aT{α:Type}{t:Sem α}{Q Q':α->Shared->Prop}{E:TH}(h:wpAny M A t Q E s)(hQ:∀a s,Q a s->Q' a s):wpAny M A t Q' E s:=xN h hQ λ_ _ x=>x
section
variable{X:Cx}
inductive jE(i:Nat):St->Hp->VK->Prop
|m v:σ[i]?=!!v->Q v H->jE i σ H Q
def tC(v:V):TE:=λ_ H Q=>Q v H
def UK{i:Nat}(hN:X.N[i]?=!x)(hv:pH X.env.scope x)(hd:(x == ("__debug__" : Str))=false:=by decide)(fO:(x == ("__classdict__" : Str))=false:=by decide):PE X (.Name x pos) (jE i):=by
 intro aa s σ H Q I h;let⟨v,e,h⟩:=h;let⟨m,hn,hl⟩:=I.loc;let⟨u,r,l⟩:=hl i x v hN e hv;let fin:EP X aa σ Q u s:=⟨v,H,I,r,h⟩;rcases l with⟨hk,hm⟩ | ⟨hk,c,hc,jF⟩
 .show wpAny_Name (wpAny_loadName_local I.ok.kind hk hn hm fin) hd
 .rcases hk with hk | hk
  .show wpAny_Name (wpAny_loadName_cell I.ok.kind hk hc jF fin) hd
  .show wpAny_Name (wpAny_loadName_free I.ok.kind hk hc jF fin fO) hd
def ao{i j pos}:PE X (.Constant (.int i) j pos) (tC (.int i)):=λ_ _ _ H _ I h=>wpAny_Constant_int ⟨.int i,H,I.tok _,⟨_,O⟩,h⟩
def jG{b j pos}:PE X (.Constant (.bool b) j pos) (tC (.bl b)):=λ_ _ _ H _ I h=>Constant_bool ⟨.bl b,H,I,O,h⟩
def pJ{j pos}:PE X (.Constant .none j pos) (tC .non):=λ_ _ _ H _ I h=>Constant_none ⟨.non,H,I,O,h⟩
def aQ{x j pos}:PE X (.Constant (.str x) j pos) (tC (.str x)):=λ_ _ _ H _ I h=>Calls.Constant_str ⟨.str x,H,I.tok _,⟨_,O⟩,h⟩
def Gl(X:Cx)(x:Str):=X.env.kindOf x=!.globalImplicit
def Kf{E:TH}{aa:TF}{Q:TH}(I:Inv X aa σ H s)(hg:Gl X x)(hm:X.mg x=!u)(h:Q u s)(hd:(x == ("__debug__" : Str))=false:=by decide):wpAny (model X.prog X.w) X.A (eval (.Name x pos) X.env) Q E s :=
 Calls.Name_function_global I.ok.kind hg (Calls.loadGlobal_global (by rw[I.ok.glob];show I.mod.glob.keeps I.bk) hm h) hd
def i5{E:TH}{aa:TF}{Q:TH}(I:Inv X aa σ H s)(hg:Gl X x)(hm:X.mg x=none)(hv:bootBuiltins x=!u)(h:Q u s)(hn:x ≠ "__name__":=by decide)(hd:(x == ("__debug__" : Str))=false:=by decide):wpAny (model X.prog X.w) X.A (eval (.Name x pos) X.env) Q E s:=by
 let⟨mb,h1,h2⟩:=I.mod.blt;show Calls.Name_function_global I.ok.kind hg (Calls.loadGlobal_builtin (by rw[I.ok.glob];show I.mod.glob.keeps I.bk) hm (by rw[I.ok.blt];show h1.keeps I.bk) ((h2 x hn).trans hv) h) hd
def Dy(hg:Gl X x)(hm:X.mg x=!u)(r:RelV v u)(hd:(x == ("__debug__" : Str))=false:=by decide):PE X (.Name x pos) (tC v) :=
 λ_ _ _ H _ I h=>Kf I hg hm ⟨v,H,I,r,h⟩ hd
def UL(hg:Gl X x)(hm:X.mg x=none)(hv:bootBuiltins x=!u)(r:RelV v u)(hn:x ≠ "__name__":=by decide)(hd:(x == ("__debug__" : Str))=false:=by decide):PE X (.Name x pos) (tC v) :=
 λ_ _ _ H _ I h=>i5 I hg hm hv ⟨v,H,I,r,h⟩ hn hd
variable{a b:Expr}{ta tb:TE}{pos:Pos}
def PC(X:Cx)(op:CmpOp)(a b:Expr)(t:TE):Prop :=
 ∀(aa:TF) (s:Shared) (σ:St) (H:Hp) (Q:VK),Inv X aa σ H s->t σ H Q ->
  wpAny (model X.prog X.w) X.A (eval a X.env) (λv be=>wpAny (model X.prog X.w) X.A (eval b X.env) (λu nR=>wpAny (model X.prog X.w) X.A (compareOp op v u) (EP X aa σ Q) X.xe nR) X.xe be) X.xe s
def Kg(b:Expr)(h:op≠.In)(h2:op≠.NotIn):behindInMarks op b=false:=by
 let e1:(op == CmpOp.In)=false:=by cases op<;>first | rfl | show qT rfl h
 let e2:(op == CmpOp.NotIn)=false:=by cases op<;>first | rfl | show qT rfl h2
 cases b<;>simp[behindInMarks,e1,e2]
def UM(ta:TE):TE:=λσ H Q=>ta σ H λx H1=>Q (.bl (decide (x=.non))) H1
def UN(ta:TE):TE:=λσ H Q=>ta σ H λx H1=>Q (.bl ((Bool.not (decide (x=.non))))) H1
def RelV.none_iff(r:RelV x v):(v == Value.none)=decide (x=.non):=by
 cases x with
 | non=>cases r;rfl
 | bl _=>cases r;rfl
 | int _=>let⟨t,rfl⟩:=r;rfl
 | str _=>let⟨t,rfl⟩:=r;rfl
 | byt _=>let⟨t,rfl⟩:=r;rfl
 | flt _=>let⟨t,rfl⟩:=r;rfl
 | ref _=>cases r;rfl
 | ty _=>cases r;rfl
def AM{j eL}(ha:PE X a ta):PC X .Is a (.Constant .none j eL) (UM ta):=by
 intro aa s σ H Q I h;show aT (ha aa s σ H _ I h) λv s1 ⟨x,H1,I1,r1,q1⟩=>?_
 show Constant_none (is_none_gen ⟨.bl _,H1,I1,by rw[r1.none_iff];rfl,q1⟩)
def tG{j eL}(ha:PE X a ta):PC X .IsNot a (.Constant .none j eL) (UN ta):=by
 intro aa s σ H Q I h;show aT (ha aa s σ H _ I h) λv s1 ⟨x,H1,I1,r1,q1⟩=>?_
 show Constant_none (isnot_none_gen ⟨.bl _,H1,I1,by rw[r1.none_iff];rfl,q1⟩)
inductive Kh(Q:Bool->Hp->Prop):V->Hp->Prop
|m {x H1} c:x=.bl c->Q c H1->Kh Q x H1
def tB(t:TE):TT:=λσ H Q=>t σ H (Kh Q)
def UO(h:PC X op a b t)(h1:behindInMarks op b=false:=by first | show Kg _ {} {} | rfl):PE X (.Compare a [op] [b] pos) t:=λaa s σ H Q I hw=>wpAny_Compare1 (h aa s σ H Q I hw) h1
def kC(h:PC X op a b t)(h1:behindInMarks op b=false:=by first | show Kg _ {} {} | rfl):PT X (.Compare a [op] [b] pos) (tB t):=by
 intro aa s σ H Q I hw;show wpAny_isTrue_Compare1 (aT (h aa s σ H _ I hw) λv s1 h1=>aT h1 λu s2 h2=>aT h2 λc s3 ⟨x,H1,I1,r1,q1⟩=>?_) h1;let⟨d,rfl,q⟩:=q1;cases r1;show yI ⟨H1,I1,q⟩
def kD(h:PE X e t)(he:∀ AL,isTrue e X.env AL=(do let v <- AL; standAt e.pos; holding [v] (truthy v)):=by intro _; rfl):PT X e (tB t):=by
 intro aa s σ H Q I hw
 show isTrue_plain (aT (h aa s σ H _ I hw) λv s1 ⟨x,H1,I1,r1,q1⟩=>?_) (he _)
 let⟨d,rfl,q⟩:=q1
 cases r1
 show yI ⟨H1,I1,q⟩
variable{tA AN:TT}{rest:TW}
def Ki(t u:TT):TT:=λσ H Q=>t σ H λc H1=>if c=true then u σ H1 Q else Q false H1
def UP(t u:TT):TT:=λσ H Q=>t σ H λc H1=>if c=true then Q true H1 else u σ H1 Q
def UQ(t:TT):TT:=λσ H Q=>t σ H λc H1=>Q ((Bool.not (c))) H1
def jH(ha:PT X a tA):PW X (.BoolOp .And [a] pos) tA:=by
 intro wh aa s σ H Q I h;show isTrue_and (aT (ha aa s σ H Q I h) λc s1 e=>?_);cases c with
 | true=>show isTrue_and_nil e
 | false=>show e
def l5(ha:PT X a tA):PW X (.BoolOp .Or [a] pos) tA:=by
 intro wh aa s σ H Q I h;show isTrue_or (aT (ha aa s σ H Q I h) λc s1 e=>?_);cases c with
 | false=>show isTrue_or_nil e
 | true=>show e
def iC(ha:PT X a tA)(hb:PW X (.BoolOp .And (b::rest) pos) AN):PW X (.BoolOp .And (a::b::rest) pos) (Ki tA AN):=by
 intro wh aa s σ H Q I h;show isTrue_and (aT (ha aa s σ H _ I h) λc s1 ⟨H1,I1,q1⟩=>?_);cases c with
 | true=>show hb wh aa s1 σ H1 Q I1 q1
 | false=>show⟨H1,I1,q1⟩
def jI(ha:PT X a tA)(hb:PW X (.BoolOp .Or (b::rest) pos) AN):PW X (.BoolOp .Or (a::b::rest) pos) (UP tA AN):=by
 intro wh aa s σ H Q I h;show isTrue_or (aT (ha aa s σ H _ I h) λc s1 ⟨H1,I1,q1⟩=>?_);cases c with
 | true=>show⟨H1,I1,q1⟩
 | false=>show hb wh aa s1 σ H1 Q I1 q1
def nT(ha:PT X a tA):PT X (.UnaryOp .Not a pos) (UQ tA):=by
 intro aa s σ H Q I h;show isTrue_not (ha aa s σ H (λc H1=>Q ((Bool.not (c))) H1) I h)
inductive Kj(tb:TE)(σ:St)(Q:VK):V->Hp->Prop
|m {x H1} c:x=.bl c->(if c=true then tb σ H1 Q else Q (.bl false) H1)->Kj tb σ Q x H1
def UR(ta tb:TE):TE:=λσ H Q=>ta σ H (Kj tb σ Q)
inductive Kk(tb:TE)(σ:St)(Q:VK):V->Hp->Prop
|m {x H1} c:x=.bl c->(if c=true then Q (.bl true) H1 else tb σ H1 Q)->Kk tb σ Q x H1
def UT(ta tb:TE):TE:=λσ H Q=>ta σ H (Kk tb σ Q)
inductive Kl(Q:VK):V->Hp->Prop
|m {x H1} c:x=.bl c->Q (.bl ((Bool.not (c)))) H1->Kl Q x H1
def UV(ta:TE):TE:=λσ H Q=>ta σ H (Kl Q)
def Km{op}(h:PE X a t):PE X (.BoolOp op [a] pos) t:=λaa s σ H Q I hw=>BoolOp_one (h aa s σ H Q I hw)
def UW(ha:PE X a ta)(hb:PE X (.BoolOp .And (b::rest) pos) tb):PE X (.BoolOp .And (a::b::rest) pos) (UR ta tb):=by
 intro aa s σ H Q I h;show BoolOp_and (aT (ha aa s σ H _ I h) λv s1 ⟨x,H1,I1,r1,q1⟩=>?_);let⟨c,rfl,q1⟩:=q1;cases r1;show yI ?_;cases c with
 | true=>show hb aa s1 σ H1 Q I1 q1
 | false=>show⟨.bl false,H1,I1,O,q1⟩
def UX(ha:PE X a ta)(hb:PE X (.BoolOp .Or (b::rest) pos) tb):PE X (.BoolOp .Or (a::b::rest) pos) (UT ta tb):=by
 intro aa s σ H Q I h;show BoolOp_or (aT (ha aa s σ H _ I h) λv s1 ⟨x,H1,I1,r1,q1⟩=>?_);let⟨c,rfl,q1⟩:=q1;cases r1;show yI ?_;cases c with
 | false=>show hb aa s1 σ H1 Q I1 q1
 | true=>show⟨.bl true,H1,I1,O,q1⟩
def Kn(ha:PE X a ta):PE X (.UnaryOp .Not a pos) (UV ta):=by
 intro aa s σ H Q I h;show UnaryOp_ (aT (ha aa s σ H _ I h) λv s1 ⟨x,H1,I1,r1,q1⟩=>?_);let⟨c,rfl,q1⟩:=q1;cases r1;show not_of (yI ⟨.bl ((Bool.not (c))),H1,I1,O,q1⟩)
def UY(t:TT)(ta tb:TE):TE:=λσ H Q=>t σ H λc H1=>if c=true then ta σ H1 Q else tb σ H1 Q
def kE(hc:PT X c tA)(ha:PE X a ta)(hb:PE X b tb):PE X (.IfExp c a b pos) (UY tA ta tb):=by
 intro aa s σ H Q I h;show wpAny_IfExp (aT (hc aa s σ H _ I h) λd s1 ⟨H1,I1,q1⟩=>?_);cases d with
 | true=>show ha aa s1 σ H1 Q I1 q1
 | false=>show hb aa s1 σ H1 Q I1 q1
end
def SqL(K:W.Frag)(H:Hp)(a:Addr)(xs:List V):Prop :=
 Rd H a (.lst xs) \/
  ∃(o:Obj) (ah:Array Value) (n:Nat),K.lookup a=!o/\o.cls=.type "list" /\ o.dict=none/\o.data=.seq ah n/\ah.size<=sizeLine/\Vals xs ah.toList
def SqT(K:W.Frag)(H:Hp)(a:Addr)(xs:List V):Prop :=
 Rd H a (.tup xs) \/
  ∃(o:Obj) (ah:Array Value) (n:Nat),K.lookup a=!o/\o.cls=.type "tuple" /\ o.data=.seq ah n/\ah.size<=sizeLine/\Vals xs ah.toList
def UZ:Value->Option V
 | .none=>!.non
 | .bool b=>!.bl b
 | .int i _=>!.int i
 | .str x _=>!.str x
 | .bytes b _=>!.byt b
 | .float b _=>!.flt b
 | .ref a=>!.ref a
 | .type n=>!.ty n
 | _=>none
def RelV.abs(r:RelV x u):UZ u=!x:=by
 cases x with
 | non=>cases r;rfl
 | bl _=>cases r;rfl
 | int _=>let⟨t,rfl⟩:=r;rfl
 | str _=>let⟨t,rfl⟩:=r;rfl
 | byt _=>let⟨t,rfl⟩:=r;rfl
 | flt _=>let⟨t,rfl⟩:=r;rfl
 | ref _=>cases r;rfl
 | ty _=>cases r;rfl
def RelV.inj(r:RelV x u)(q:RelV y u):x=y:=rD (r.abs.symm.trans q.abs)
theorem Vals.inj:∀{xs ys:List V} {us:TU},Vals xs us->Vals ys us->xs=ys
 | _,_,_,.nil,.nil=>rfl
 | _,_,_,.cons r t,.cons r' t'=>by rw[r.inj r',Vals.inj t t']
section
variable{X:Cx}{aa:TF}{σ:St}{H:Hp}{s:Shared}{a:Addr}{xs ys:List V}
def SqL.of{K:W.Frag}(h:H a=!.lst xs):SqL K H a xs:=.inl (.inl h)
def SqT.of{K:W.Frag}(h:H a=!.tup xs):SqT K H a xs:=.inl (.inl h)
def ag{K:W.Frag}(h:H a=!.lst xs):SqL K H a xs:=.of h
def aD{K:W.Frag}(h:H a=!.tup xs):SqT K H a xs:=.of h
def Inv.list(I:Inv X aa σ H s)(h:SqL X.K H a xs):∃ah:TU,Vals xs ah/\PlainL s.heap a ah.toArray/\xs⁻¹<=sizeLine:=by
 rcases h with h | ⟨o,ah,n,hk,hc,hd,hs,hz,r⟩
 .let⟨z,ah,n,r,e⟩:=h.ok I.hok;show⟨ah,r,⟨_,n,e,O,O,O⟩,z⟩
 .show⟨ah.toList,r,⟨o,n,I.kIn a o hk,hc,hd,‹hs›⟩,?_⟩;let e:=r⁻¹;simp only[Array.length_toList]at e;omega
def Inv.tuple(I:Inv X aa σ H s)(h:SqT X.K H a xs):∃ah:TU,Vals xs ah/\IsTup s.heap a ah.toArray/\xs⁻¹<=sizeLine:=by
 rcases h with h | ⟨o,ah,n,hk,hc,hs,hz,r⟩
 .let⟨z,ah,r,p⟩:=h.ok I.hok;show⟨ah,r,p,z⟩
 .show⟨ah.toList,r,⟨o,I.kIn a o hk,hc,n,‹hs›⟩,?_⟩;let e:=r⁻¹;simp only[Array.length_toList]at e;omega
def Inv.list_inj(I:Inv X aa σ H s)(h:SqL X.K H a xs)(h':SqL X.K H a ys):xs=ys:=by
 let⟨ah,r,⟨o,n,e,_,_,d⟩,_⟩:=I.list h;let⟨its',r',⟨o',n',e',_,_,d'⟩,_⟩:=I.list h';rw[e]at e';cases e';rw[d]at d';injection d' with d1 _
 have:ah=its':=‹xJ Array.toList d1›
 subst this;show r.inj r'
end
abbrev Cx.wish(X:Cx)(E:TH):Cx:={X with xe:=E}
abbrev Cx.nox(X:Cx):Cx:=X.wish λ_ _=>False
def Cx.Ok.wish{X:Cx}(ok:X.Ok)(E:TH):(X.wish E).Ok :=
 ⟨ok.mod,ok.kind,ok.glob,ok.blt,ok.above,ok.inj,ok.has,ok.cab,ok.hd,ok.frames,ok.stk,ok.exf,ok.bs,ok.bsz,ok.noex,ok.exfs,ok.funs,ok.frf⟩
def Cx.Ok.unwish{X:Cx}{E:TH}(ok:(X.wish E).Ok):X.Ok :=
 ⟨ok.mod,ok.kind,ok.glob,ok.blt,ok.above,ok.inj,ok.has,ok.cab,ok.hd,ok.frames,ok.stk,ok.exf,ok.bs,ok.bsz,ok.noex,ok.exfs,ok.funs,ok.frf⟩
section
variable{X:Cx}{aa:TF}{σ:St}{H:Hp}{s:Shared}{E:TH}
def Inv.wish(I:Inv X aa σ H s)(E:TH):Inv (X.wish E) aa σ H s:=⟨I.ok.wish E,I.os,I.bare,I.base,I.loc,I.cell,I.free,I.freeC,I.pin,I.hok,I.len⟩
def Inv.unwish(I:Inv (X.wish E) aa σ H s):Inv X aa σ H s:=⟨I.ok.unwish,I.os,I.bare,I.base,I.loc,I.cell,I.free,I.freeC,I.pin,I.hok,I.len⟩
def SP.unwish(h:SP (X.wish E) aa D f s'):SP X aa D f s':=by
 cases f with
 | next=>let⟨ae,H',I,q⟩:=h;show⟨ae,H',I.unwish,q⟩
 | brk=>let⟨ae,H',I,q⟩:=h;show⟨ae,H',I.unwish,q⟩
 | cont=>let⟨ae,H',I,q⟩:=h;show⟨ae,H',I.unwish,q⟩
 | ret u=>let⟨v,ae,H',I,r,q⟩:=h;show⟨v,ae,H',I.unwish,r,q⟩
def PSs.nox{st:List Stmt}{t:TS}(h:PSs X.nox st t):PSs X st t:=λaa s σ H D I hw =>
 xN (h aa s σ H D (I.wish _) hw) (λ_ _ q=>q.unwish) λ_ _ z=>False.elim z
end
section
variable{X:Cx}{st:Stmt}{rest:List Stmt}{t u:TS}{e:Expr}{te:TE}{pos:Pos}
def U0:TS:=λD σ H=>D.nx σ H
def tI(t u:TS):TS:=λD σ H=>t {D with nx:=u D} σ H
def bg:PSs X [] U0:=λ_ _ σ H _ I h=>vS ⟨σ,H,I,h⟩
def aw(h1:PS X st t)(h2:PSs X rest u):PSs X (st::rest) (tI t u):=by
 intro aa s σ H D I h;show wpAny_execs_cons (aT (h1 aa s σ H {D with nx:=u D} I h) λf s1 q=>?_);cases f with
 | next =>
   let⟨ae,H',I',q⟩:=q
   show h2 aa s1 ae H' D I' q
 | ret v=>show q
 | brk=>show q
 | cont=>show q
def aA(h1:PS X st t):PSs X [st] t:=by
 intro aa s σ H D I h;show wpAny_execs_cons (aT (h1 aa s σ H D I h) λf s1 q=>?_);cases f with
 | next=>show vS q
 | ret v=>show q
 | brk=>show q
 | cont=>show q
def U1:TS:=λD σ H=>D.bk σ H
def U2:PS X (.Break pos) U1:=λ_ _ σ H _ I h=>wpAny_Break ⟨σ,H,I,h⟩
def Inv.quiet{aa:TF}(I:Inv X aa σ H s):interactive X.env=false:=by simp[interactive,I.ok.kind]
def U3(te:TE):TS:=λD σ H=>te σ H λ_ H1=>D.nx σ H1
def cq(he:PE X e te)(hs:swapsWith e none pos.line X.env=pure false:=by rfl):PS X (.Expr e pos) (U3 te):=by
 intro aa s σ H D I h;show wpAny_Expr_any (aT (he aa s σ H _ I h) λv s1 ⟨x,H1,I1,r1,q1⟩=>⟨σ,H1,I1,q1⟩) I.quiet hs
def Ko(te:TE):TS:=λD σ H=>te σ H D.rt
def aH(he:PE X e te):PS X (.Return (!e) pos) (Ko te):=by
 intro aa s σ H D I h;show wpAny_Return_some (aT (he aa s σ H _ I h) λv s1 ⟨x,H1,I1,r1,q1⟩=>⟨x,σ,H1,I1,r1,q1⟩)
def Kp(c:TT)(t u:TS):TS:=λD σ H=>c σ H λb H1=>if b=true then t D σ H1 else u D σ H1
def a7(hc:PT X c tc)(ha:PSs X a t)(hb:PSs X b u):PS X (.If c a b pos) (Kp tc t u):=by
 intro aa s σ H D I h;show wpAny_If (aT (hc aa s σ H _ I h) λd s1 ⟨H1,I1,q1⟩=>?_);cases d with
 | true=>show ha aa s1 σ H1 D I1 q1
 | false=>show hb aa s1 σ H1 D I1 q1
end
abbrev TG:=V->St->Hp->(St->Hp->Prop)->Prop
abbrev AO:=List V->St->Hp->(St->Hp->Prop)->Prop
def PG(X:Cx)(target:Expr)(t:TG):Prop :=
 ∀(aa:TF) (s:Shared) (σ:St) (H:Hp) (v:V) (u:Value) (Q:St->Hp->Prop),Inv X aa σ H s->RelV v u->t v σ H Q ->
  wpAny (model X.prog X.w) X.A (assign target X.env u) (λ_ s'=>∃ae H',Inv X aa ae H' s'/\Q ae H') X.xe s
def pK(X:Cx)(ts:TW)(t:AO):Prop :=
 ∀(aa:TF) (s:Shared) (σ:St) (H:Hp) (vs:List V) (us:TU) (Q:St->Hp->Prop),Inv X aa σ H s->Vals vs us->t vs σ H Q ->
  wpAny (model X.prog X.w) X.A (assignInOrder ((assignEach ts X.env).map (·.2)) us) (λ_ s'=>∃ae H',Inv X aa ae H' s'/\Q ae H') X.xe s
abbrev Dz:=V->V->V->Hp->(Hp->Prop)->Prop
def DA(X:Cx)(t:Dz):Prop :=
 ∀(aa:TF) (s:Shared) (σ:St) (H:Hp) (o i v:V) (ov iv u:Value) (Q:Hp->Prop),Inv X aa σ H s->RelV o ov->RelV i iv->RelV v u->t o i v H Q ->
  wpAny (model X.prog X.w) X.A (setItem ov iv u) (λ_ s'=>∃H',Inv X aa σ H' s'/\Q H') X.xe s
abbrev DB:=V->V->Hp->VK->Prop
def tJ(X:Cx)(op:Operator)(t:DB):Prop :=
 ∀(aa:TF) (s:Shared) (σ:St) (H:Hp) (x y:V) (v u:Value) (Q:VK),Inv X aa σ H s->RelV x v->RelV y u->t x y H Q ->
  wpAny (model X.prog X.w) X.A (inplaceOp op v u) (EP X aa σ Q) X.xe s
section
variable{X:Cx}{pos:Pos}
def aZ(i:Nat):TG:=λv σ H Q=>Q (σ.set i (!v)) H
def U4{i:Nat}(hN:X.N.Nodup)(hi:X.N[i]?=!x)(hx:Loc X.env.scope x)(hf:X.fn x=true\/X.env.scope.names.lookup x=!.local:=by first | show .inl rfl | show .inr rfl | assumption):PG X (.Name x pos) (aZ i):=by
 intro aa s σ H v u Q I r h;show wpAny_assign_Name (Dx I hN hi hx r (λs' I'=>⟨_,H,I',h⟩) hf)
inductive Kq:List V->St->Hp->(St->Hp->Prop)->Prop
 | m  : vs=[]->Q σ H->Kq vs σ H Q
inductive Kr(t:TG)(u:AO):List V->St->Hp->(St->Hp->Prop)->Prop
|m v r:vs=v::r->(t v σ H λae H'=>u r ae H' Q)->Kr t u vs σ H Q
def dQ:pK X [] Kq:=by
 intro aa s σ H vs us Q I r h;let⟨e,h⟩:=h;subst e;cases r;show assignInOrder_nil ⟨σ,H,I,h⟩
def bD(h1:PG X e t)(h2:pK X es u)(hs:(assignEach (e::es) X.env).map (·.2)=assign e X.env::(assignEach es X.env).map (·.2):=by rfl):pK X (e::es) (Kr t u):=by
 intro aa s σ H vs us Q I r h;let⟨v,vr,e1,h⟩:=h;subst e1;cases r with
 | cons r rr =>
   rw[hs]
   show assignInOrder_cons (aT (h1 aa s σ H _ _ _ I r h) λ_ s1 ⟨pL,H1,I1,q1⟩=>?_)
   show h2 aa s1 pL H1 _ _ Q I1 rr q1
inductive DC(K:W.Frag)(n:Nat)(t:AO):V->St->Hp->(St->Hp->Prop)->Prop
|m a xs:v=.ref a->SqT K H a xs->xs⁻¹=n->t xs σ H Q->DC K n t v σ H Q
def i6{k:Nat}{n:Nat}(hc:X.calm=true)(h:pK X es t)(hn:(assignEach es X.env)⁻¹=n:=by rfl)(cC:(assignEach es X.env).findIdx? (·.1)=none:=by rfl):PG X (.Tuple es k pos) (DC X.K n t):=by
 intro aa s σ H v u Q I r hw;let⟨a,xs,e1,hq,hl,hw⟩:=hw;subst e1;cases r;let⟨ah,rv,ht,hz⟩:=I.tuple hq;show assign_Tuple_tuple (I.ok.hd hc) ht (by simp[hn,<-hl,rv⁻¹]) cC λh' hx=>?_
 let I1:Inv X aa σ H {s with heap:=h'}:=I.kept (t':=s.toks) λb o e=>hx b o (rC (qK e)) e
 show h aa _ σ H xs _ Q I1 ‹rv› hw
def Ks(to ti:TE)(t:Dz):TG:=λv σ H Q=>to σ H λo H1=>ti σ H1 λi H2=>t o i v H2 λH3=>Q σ H3
def tM(ho:PE X o to)(hi:PE X i ti)(hs:DA X t)(ha:∀ v,assign (.Subscript o i pos) X.env v=(do
   let ov <- holding [v] (eval o X.env)
   let iv <- holding [v,ov] (eval i X.env)
   standAt pos
   holding [v,ov,iv] (setItem ov iv v)
   release [v,ov,iv] []):=by intro _; rfl):PG X (.Subscript o i pos) (Ks to ti t):=by
 intro aa s σ H v u Q I r h
 rw [ha]
 show qC (xZ (aT (ho aa s σ H _ I h) λov s1 ⟨x,H1,I1,r1,q1⟩=>?_))
 show qC (xZ (aT (hi aa s1 σ H1 _ I1 q1) λiv s2 ⟨y,H2,I2,r2,q2⟩=>?_))
 show qC (v6 (qC (xZ (aT (hs aa s2 σ H2 x y v ov iv u _ I2 r1 r2 r q2) λ_ s3 ⟨H3,I3,q3⟩=>?_))))
 show wpAny_release ⟨σ,H3,I3,q3⟩
def l6(te:TE)(g:TG):TS:=λD σ H=>te σ H λx H1=>g x σ H1 D.nx
def l7(he:PE X e te)(hg:PG X tg g)(hs:swapsWithSole [tg] e pos.line X.env=pure false:=by rfl)(hw:swappedStores [tg] e X.env=pure none:=by rfl)(h1:(assignEach [tg] X.env).map (·.2)=[assign tg X.env]:=by rfl):PS X (.Assign [tg] e pos) (l6 te g):=by
 intro aa s σ H D I h;show wpAny_Assign_stores (aT (he aa s σ H _ I h) λv s1 ⟨x,H1,I1,r1,q1⟩=>?_) hs hw;rw[h1];show aT (hg aa s1 σ H1 x v _ I1 r1 q1) λ_ s2 q=>q
def U5{i:Nat}(hN:X.N.Nodup)(hi:X.N[i]?=!x)(hx:Loc X.env.scope x)(he:PE X e te)(hs:swapsWith e (!.Name x eL) pos.line X.env=pure false:=by rfl)(hf:X.fn x=true\/X.env.scope.names.lookup x=!.local:=by first | show .inl rfl | show .inr rfl | assumption) :
  PS X (.Assign [.Name x eL] e pos) (l6 te (aZ i)):=by
 intro aa s σ H D I h;show wpAny_Assign_Name (aT (he aa s σ H _ I h) λv s1 ⟨y,H1,I1,r1,q1⟩=>?_) hs;show Dx I1 hN hi hx r1 (λs2 I2=>⟨_,H1,I2,q1⟩) hf
inductive DD(i:Nat)(te:TE)(ti:DB):gN->St->Hp->Prop
|m x:σ[i]?=!!x->(te σ H λy H1=>ti x y H1 λz H2=>D.nx (σ.set i (!z)) H2)->DD i te ti D σ H
def U6{i:Nat}(hN:X.N.Nodup)(hi:X.N[i]?=!x)(hx:Loc X.env.scope x)(he:PE X e te)(ho:tJ X op ti)(hf:X.fn x=true\/X.env.scope.names.lookup x=!.local:=by first | show .inl rfl | show .inr rfl | assumption) :
  PS X (.AugAssign (.Name x eL) op e pos) (DD i te ti):=by
 intro aa s σ H D I h;let⟨v,e1,h⟩:=h;let⟨m,hn,hl⟩:=I.loc;let tO:pH X.env.scope x:=by rcases hx with k | k;show .inl k;show .inr (.inl k)
 let⟨u,r,l⟩:=hl i x v hi e1 tO;show wpAny_AugAssign_Name ?_;let go:wpAny (model X.prog X.w) X.A (eval e X.env) (λw nR=>wpAny (model X.prog X.w) X.A (inplaceOp op u w) (λr U7=>wpAny (model X.prog X.w) X.A (storeName X.env x r) (λ_=>SP X aa D .next) X.xe U7) X.xe nR) X.xe s:=by
  show aT (he aa s σ H _ I h) λw s1 ⟨y,H1,I1,r1,q1⟩=>?_
  show aT (ho aa s1 σ H1 v y u w _ I1 r r1 q1) λz s2 ⟨zv,H2,I2,r2,q2⟩=>?_
  show Dx I2 hN hi hx r2 (λs3 I3=>⟨_,H2,I3,q2⟩) hf
 rcases l with⟨hk,hm⟩ | ⟨hk,c,hc,jF⟩
 .show wpAny_loadName_local I.ok.kind hk hn hm go
 .rcases hk with hk | hk
  .show wpAny_loadName_cell I.ok.kind hk hc jF go
  .rcases hx with k | k
   .have:X.env.scope.names.lookup x=!.free:=hk;rw[k]at this;cases this
   .have:X.env.scope.names.lookup x=!.free:=hk;rw[k]at this;cases this
def U8(to ti te:TE)(AQ:V->V->Hp->VK->Prop)(DE:DB)(DF:Dz):TS:=λD σ H=>to σ H λo H1=>ti σ H1 λi H2=>AQ o i H2 λx H3=>te σ H3 λy H4=>DE x y H4 λz H5=>DF o i z H5 λH6=>D.nx σ H6
def Kt(X:Cx)(t:V->V->Hp->VK->Prop):Prop :=
 ∀(aa:TF) (s:Shared) (σ:St) (H:Hp) (o i:V) (ov iv:Value) (Q:VK),Inv X aa σ H s->RelV o ov->RelV i iv->t o i H Q ->
  wpAny (model X.prog X.w) X.A (getItem ov iv) (EP X aa σ Q) X.xe s
def U9{AQ:V->V->Hp->VK->Prop}(ho:PE X o to)(hi:PE X i ti)(hg:Kt X AQ)(he:PE X e te)(hp:tJ X op DE)(hs:DA X DF)(ha:∀ ov iv new,augStore i ov iv new=(do holding [new,ov,iv] (setItem ov iv new); release [new,ov,iv] []; pure .next):=by intros; rfl):PS X (.AugAssign (.Subscript o i Va) op e pos) (U8 to ti te AQ DE DF):=by
 intro aa s σ H D I h
 show wpAny_AugAssign_SubscriptAny (aT (ho aa s σ H _ I h) λov s1 ⟨x1,H1,I1,r1,q1⟩=>?_) ha
 show aT (hi aa s1 σ H1 _ I1 q1) λiv s2 ⟨x2,H2,I2,r2,q2⟩=>?_
 show aT (hg aa s2 σ H2 x1 x2 ov iv _ I2 r1 r2 q2) λold s3 ⟨x3,H3,I3,r3,q3⟩=>?_
 show aT (he aa s3 σ H3 _ I3 q3) λv s4 ⟨x4,H4,I4,r4,q4⟩=>?_
 show aT (hp aa s4 σ H4 x3 x4 old v _ I4 r3 r4 q4) λnew s5 ⟨x5,H5,I5,r5,q5⟩=>?_
 show aT (hs aa s5 σ H5 x1 x2 x5 ov iv new _ I5 r1 r2 r5 q5) λ_ s6 ⟨H6,I6,q6⟩=>⟨σ,H6,I6,q6⟩
inductive DG(f:Int->Int->Int):V->V->Hp->VK->Prop
|m i j:x=.int i->y=.int j->Q (.int (f i j)) H->DG f x y H Q
def DH:tJ X .Add (DG λi j=>i+j):=by
 intro aa s σ H x y v u Q I r1 r2 h;let⟨i,j,e1,e2,q⟩:=h;subst e1;subst e2;let⟨t,rfl⟩:=r1;let⟨t',rfl⟩:=r2;show iadd_int ⟨.int _,H,I.tok _,⟨_,O⟩,q⟩
def Vb:tJ X .Sub (DG λi j=>i-j):=by
 intro aa s σ H x y v u Q I r1 r2 h;let⟨i,j,e1,e2,q⟩:=h;subst e1;subst e2;let⟨t,rfl⟩:=r1;let⟨t',rfl⟩:=r2;show isub_int ⟨.int _,H,I.tok _,⟨_,O⟩,q⟩
inductive Ku(c:TT)(tb:TS):gN->St->Hp->Prop
|m (W:Nat->St->Hp->Prop):(∃m,W m σ H)->(∀m σ H,W m σ H->c σ H λb H1=>if b=true then∃N:St->Hp->Prop,(∀ae H',N ae H'->∃m',m'<m/\W m' ae H')/\tb {D with nx:=N,ct:=N,bk:=D.nx} σ H1 else D.nx σ H1)->Ku c tb D σ H
def AR(hp:PassesOwn (model X.prog X.w) X.A X.env X.xe)(hc:PT X c tc)(hb:PSs X body tb):PS X (.While c body [] pos) (Ku tc tb):=by
 intro aa s σ H D I h;let⟨W,⟨m0,w0⟩,turn⟩:=h;show wpAny_While (codeAny_whileLoop (λn s'=>∃ae H',Inv X aa ae H' s'/\W n ae H') ?_ m0 ⟨σ,H,I,w0⟩);ext n s1 ⟨pL,H1,I1,w1⟩;show uR hp (aT (hc aa s1 pL H1 _ I1 (turn n pL H1 w1)) λb s2 ⟨H2,I2,q2⟩=>?_);cases b with
 | true =>
   let⟨N,hN,q2⟩:=q2
   rw[qZ O]
   show uR hp (aT (hb aa s2 pL H2 _ I2 q2) λf s3 q3=>?_)
   cases f with
   | next =>
     let⟨i7,H3,I3,n3⟩:=q3
     let⟨m',hm,w3⟩:=hN i7 H3 n3
     show⟨m',hm,i7,H3,I3,w3⟩
   | cont =>
     let⟨i7,H3,I3,n3⟩:=q3
     let⟨m',hm,w3⟩:=hN i7 H3 n3
     show⟨m',hm,i7,H3,I3,w3⟩
   | brk=>show q3
   | ret v=>show q3
 | false =>
   rw[qX qU]
   show vS ⟨pL,H2,I2,q2⟩
end
structure It where
 go:Nat->Hp->Prop
 yld:Nat->Hp->V->Hp->Prop
 stop:Nat->Hp->Prop
def iD(X:Cx)(aa:TF)(H:Hp)(b:Addr):Prop :=
 H b=none/\b≠X.env.locals/\b∉X.fs/\(b∈X.ex\/~~~X.s₀<=b)/\(∀x c,X.env.cells.lookup x=!c->c≠b)/\∀p∈X.pn++aa,p.1≠b
def Inv.fpOk{aa:TF}(I:Inv X aa σ H s)(hb: ~~~s<=b)(hn:H' b=none):iD X aa H' b:=by
 show⟨hn,yG (rA I.lt hb),I.nofs hb,.inr (rK I.sz hb),λx c e z=>?_,λp hp z=>?_⟩
 .let⟨v,q⟩:=I.cell x c e;show qT (rA q.lt (by rw[z];show hb)) (rP _)
 .show qT (rA (qK (I.pin p hp).1) (by rw[z];show hb)) (rP _)
structure jJ(P:Program)(w:World)(K:W.Frag)(tg:Expr)(J:It)(fp:TQ)(it:Addr)(tn:Nat->Heap->Prop):Prop where
 mem:it∈fp
 obj:∀i h,tn i h->∀b∈fp,∃o,h.get? b=!o/\∀v,o.data≠.cell v
 keep:∀i h h',tn i h->(∀b∈fp,∀o,h.get? b=!o->h'.get? b=!o)->tn i h'
 item:∀(X:Cx),X.prog=P->X.w=w->X.K=K->X.calm=true->∀(i:Nat) (aa:TF) (s:Shared) (σ:St) (H:Hp) (E:TH),Inv X aa σ H s->(∀b∈fp,iD X aa H b)->tn i s.heap->J.go i H ->
  wpAny (model P w) X.A (pyNext (.ref it)) (λr s1=>∃u,r=!u /\
   wpAny (model P w) X.A (letOwnedTupleGo tg (.ref it) u) (λ_ s2=>∃x H',Inv X aa σ H' s2/\RelV x u/\J.yld i H x H'/\tn (i+1) s2.heap/\∀b∈fp,H' b=none) E s1) E s
 done:∀(X:Cx),X.prog=P->X.w=w->X.K=K->X.calm=true->∀(i:Nat) (aa:TF) (s:Shared) (σ:St) (H:Hp) (E:TH),Inv X aa σ H s->(∀b∈fp,iD X aa H b)->tn i s.heap->J.stop i H ->
  wpAny (model P w) X.A (pyNext (.ref it)) (λr s1=>r=none/\Inv X aa σ H s1) E s
 self:∀(A:Around) (i:Nat) (s:Shared) (Q:TH) (E:TH),tn i s.heap->Q (.ref it) s->wpAny (model P w) A (pyIter (.ref it)) Q E s
abbrev TI:=St->Hp->(It->Hp->Prop)->Prop
def DI(X:Cx)(aa:TF)(σ:St)(tg:Expr)(R:It->Hp->Prop)(AS:Value)(s2:Shared):Prop :=
 ∃(it:Addr) (fp:TQ) (tn:Nat->Heap->Prop) (J:It) (H':Hp),AS=.ref it/\Inv X aa σ H' s2/\jJ X.prog X.w X.K tg J fp it tn/\tn 0 s2.heap/\(∀b∈fp,iD X aa H' b)/\R J H'
def PI(X:Cx)(tg iter:Expr)(wi:TI):Prop :=
 ∀(aa:TF) (s:Shared) (σ:St) (H:Hp) (R:It->Hp->Prop),Inv X aa σ H s->wi σ H R ->
  wpAny (model X.prog X.w) X.A (eval iter X.env) (λv s1=>wpAny (model X.prog X.w) X.A (pyIter v) (DI X aa σ tg R) X.xe s1) X.xe s
def AT{E:TH}{n:String}{Q:Unit->Shared->Prop}(ho:s.heap.get? it=!o)(hc:o.cls=.type n)(hd:o.data=.fields vs)(hn:["enumerate", "zip", "dict_itemiterator", "dict_reverseitemiterator", "odict_iterator", "itertools.zip_longest", "itertools.pairwise"].contains n=false)(hQ:Q Unit.unit s):wpAny M A (letOwnedTupleGo tg (.ref it) u) Q E s:=by
 unfold letOwnedTupleGo;cases tg<;>first
  | show qM hQ
  | (cases u<;>first
    | show qM hQ
    | (show qC (wpAny_load ho ?_)
       rw[hc,hd]
       show wpAny M A (if(["enumerate", "zip", "dict_itemiterator", "dict_reverseitemiterator", "odict_iterator", "itertools.zip_longest", "itertools.pairwise"].contains n && vs[0]? == !rawInt _)=true then _ else _) Q E s
       rw[qX (by intro h;rw[hn,Bool.false_and]at h;cases h)]
       show qM hQ))
def pN(K:W.Frag)(a:Addr):It :=
 ⟨λi H=>∃xs x,SqL K H a xs/\xs[i]?=!x,λi H x H'=>H'=H/\∀xs,SqL K H a xs->xs[i]?=!x,λi H=>∃xs,SqL K H a xs/\xs⁻¹<=i⟩
def ma(lo:Int)(n:Nat):It:=⟨λi _=>i<n,λi H x H'=>H'=H/\x=.int (lo+i),λi _=>n<=i⟩
def Vc{P:Program}{w:World}{K:W.Frag}{tg:Expr}(a it:Addr):jJ P w K tg (pN K a) [it] it (λi h=>h.IsListIter it a i) where
 mem:=∅
 obj:=λi h st b hb=>by
  let e:b=it:=‹hb›
  subst e;let⟨o,e,c,d⟩:=st;show⟨o,e,λv z=>by rw[d]at z;cases z⟩
 keep:=λi h h' st k=>st.at λo e=>k it ∅ o e
 item:=by
  intro X hP hw hK hc i aa s σ H E I hf st hg;subst hP hw hK;let⟨xs,x,hq,hx⟩:=hg;let⟨ah,rv,p,hz⟩:=I.list hq;let⟨u,hu,ru⟩:=rv.get hx;let⟨f0,f1,f2,f3,f4,f5⟩:=hf it ∅;show wpAny_pyNext_list_item st p.isList (x:=u) ‹hu› λh' aO sb=>?_
  let I1:Inv X aa σ H {s with heap:=h'}:=I.turned (t':=s.toks) (λb o hb e=>(sb.2 b hb).trans e) f0 f1 f3 f4 f5;let⟨o,e,c,d⟩:=id aO;show⟨u,O,AT (s:={s with heap:=h'}) e c d {} ⟨x,H,I1,ru,⟨O,λys hy=>by rw[I.list_inj hy hq];show hx⟩,aO,λb hb=>(hf b hb).1⟩⟩
 done:=by
  intro X hP hw hK hc i aa s σ H E I hf st hg;subst hP hw hK;let⟨xs,hq,hx⟩:=hg;let⟨ah,rv,p,hz⟩:=I.list hq;let⟨f0,f1,f2,f3,f4,f5⟩:=hf it ∅;let hl:=rv⁻¹;show wpAny_pyNext_list_end (I.ok.hd hc) st p.isList (by simp;omega) λh' eb=>⟨O,I.turned (t':=s.toks) (λb o hb e=>eb b o hb e) f0 f1 f3 f4 f5⟩
 self:=λ_ _ _ _ _ st h=>wpAny_pyIter_listiter st h
def Vd{P:Program}{w:World}{K:W.Frag}{tg:Expr}(it:Addr)(lo:Int)(n:Nat):jJ P w K tg (ma lo n) [it] it (λi h=>IsRangeIter h it (lo+(i:Nat)*1) ((n:Int)-(i:Nat)) 1) where
 mem:=∅
 obj:=λi h st b hb=>by
  let e:b=it:=‹hb›
  subst e;show⟨_,st,λv z=>by
   let z':Data.fields _=Data.cell v:=z;cases z'⟩
 keep:=λi h h' st k=>k it ∅ _ st
 item:=by
  intro X hP hw hK hc i aa s σ H E I hf st hg;subst hP hw hK;let⟨f0,f1,f2,f3,f4,f5⟩:=hf it ∅;let W:=Walks.range (prog:=X.prog) (w:=X.w) (I.ok.hd hc) it lo 1 n;show W.item i s _ _ hg st λv h' tk hv aO kk=>?_
  let⟨t,rfl⟩:=hv;let I1:Inv X aa σ H {s with heap:=h',toks:=tk}:=I.turned (λb o hb e=>kk b o ‹hb› e) f0 f1 f3 f4 f5;show-⟨AT (s:={s with heap:=h',toks:=tk}) (n := "range_iterator") aO O O {} ⟨.int (lo+i),H,I1,⟨t,?_⟩,⟨O,O⟩,aO,λb hb=>(hf b hb).1⟩⟩;rw[Int.mul_one]
 done:=by
  intro X hP hw hK hc i aa s σ H E I hf st hg;subst hP hw hK;let⟨f0,f1,f2,f3,f4,f5⟩:=hf it ∅;show wpAny_pyNext_range_end (I.ok.hd hc) st (by have:n<=i:=hg;omega) λh' eb=>⟨O,I.turned (t':=s.toks) (λb o hb e=>eb b o hb e) f0 f1 f3 f4 f5⟩
 self:=λ_ _ _ _ _ st h=>wpAny_pyIter_rangeiter st h
section
variable{X:Cx}{tg:Expr}
inductive Kv(K:W.Frag)(R:It->Hp->Prop):V->Hp->Prop
|m {x H1} a:x=.ref a->(∃xs,SqL K H1 a xs)->R (pN K a) H1->Kv K R x H1
def Ve(K:W.Frag)(tl:TE):TI:=λσ H R=>tl σ H (Kv K R)
def a6(hl:PE X l tl):PI X tg l (Ve X.K tl):=by
 intro aa s σ H R I h;show aT (hl aa s σ H _ I h) λv s1 ⟨x,H1,I1,r1,q1⟩=>?_
 let⟨a,e,⟨xs,hq⟩,q⟩:=q1;subst e;cases r1;let⟨ah,rv,p,hz⟩:=I1.list hq;show xS p.isList ?_;show⟨~~~s1,[~~~s1],_,_,H1,O,I1.kept (t':=s1.toks) λb o e=>qE _ e,Vc a _,⟨_,qR _ O,O,O⟩,λb hb=>?_,q⟩;let e:b= ~~~s1:=‹hb›
 subst e;show I1.fpOk (qG _) (I1.hok.fresh (qG _))
def Kw{aa:TF}{R:It->Hp->Prop}{E:TH}{lo hi:Int}{tk:Nat}(I:Inv X aa σ H s)(h1:-(2 ^ 62)<=lo)(h2:lo<2 ^ 62)(h3:-(2 ^ 62)<=hi)(h4:hi<2 ^ 62)(q:R (ma lo (hi-lo).toNat) H):wpAny (model X.prog X.w) X.A (pyIter (.ref (~~~s))) (DI X aa σ tg R) E {s with heap:=s.heap.push {cls:=.type "range",data:=.fields #[.int lo t,.int hi u,.int 1 v]},toks:=tk}:=by
 show wpAny_pyIter_range (IsRange.new ..) (small_one h1 h2 h3 h4) ?_;let I1:Inv X aa σ H {s with heap:=s.heap.push {cls:=.type "range",data:=.fields #[.int lo t,.int hi u,.int 1 v]},toks:=tk}:=I.kept λb o e=>qE _ e
 show⟨(s.heap.push {cls:=.type "range",data:=.fields #[.int lo t,.int hi u,.int 1 v]}).objs.size,[(s.heap.push {cls:=.type "range",data:=.fields #[.int lo t,.int hi u,.int 1 v]}).objs.size],_,_,H,O,
  I1.kept (t':=tk) λb o e=>qE _ e,Vd _ lo (hi-lo).toNat,?_,λb hb=>?_,q⟩
 .let e1:lo+((0:Nat):Int)*1=lo:=∅
  let e2:(((hi-lo).toNat:Nat):Int)-((0:Nat):Int)=Builtin.Range.rangeSize lo hi 1:=by rw[rangeSize_one];split<;>omega
  show IsRangeIter _ _ (lo+((0:Nat):Int)*1) ((((hi-lo).toNat:Nat):Int)-((0:Nat):Int)) 1;rw[e1,e2];show qR _ O
 .let e:b=(s.heap.push {cls:=.type "range",data:=.fields #[.int lo t,.int hi u,.int 1 v]}).objs.size:=‹hb›
  subst e;show I1.fpOk (qG _) (I1.hok.fresh (qG _))
inductive Kx(R:It->Hp->Prop):List V->Hp->Prop
|m {vs H1} (j:Int):vs=[.int j]->-(2 ^ 62)<=j->j<2 ^ 62->R (ma 0 j.toNat) H1->Kx R vs H1
def Ky(ta:TA):TI:=λσ H R=>ta σ H (Kx R)
inductive Kz(R:It->Hp->Prop):List V->Hp->Prop
|m {vs H1} (i j:Int):vs=[.int i,.int j]->(-(2 ^ 62)<=i/\i<2 ^ 62/\-(2 ^ 62)<=j/\j<2 ^ 62)->R (ma i (j-i).toNat) H1->Kz R vs H1
def Vf(ta:TA):TI:=λσ H R=>ta σ H (Kz R)
def Vg(hg:Gl X "range")(hm:X.mg "range" = none)(ha:PA X [a] ta)(hs:starEach [a] X.env=[(false,eval a X.env)]:=by rfl):PI X tg (.Call (.Name "range" p) [a] [] pos) (Ky ta):=by
 intro aa s σ H R I h;show Call_ (i5 I hg hm boot_range (xT (aT (ha pos aa s σ H _ I h) λus s1 ⟨vs,H1,I1,r1,q1⟩=>?_) hs O));let⟨j,e,q1,q2,q⟩:=q1;subst e;cases r1 with
 | cons r rr =>
   cases rr
   let⟨t,rfl⟩:=r
   show call_range_1 (Kw I1 () () q1 q2 ‹q›)
def DJ(hg:Gl X "range")(hm:X.mg "range" = none)(ha:PA X [a,b] ta)(hs:starEach [a,b] X.env=[(false,eval a X.env),(false,eval b X.env)]:=by rfl)(fE:starEach [b] X.env=[(false,eval b X.env)]:=by rfl) :
  PI X tg (.Call (.Name "range" p) [a,b] [] pos) (Vf ta):=by
 intro aa s σ H R I h;show Call_ (i5 I hg hm boot_range (xT (aT (ha pos aa s σ H _ I h) λus s1 ⟨vs,H1,I1,r1,q1⟩=>?_) (by rw[hs,fE]) (by rw[fE];rfl)));let⟨i,j,e,⟨q1,q2,q3,q4⟩,q⟩:=q1;subst e;cases r1 with
 | cons r rr =>
   cases rr with
   | cons r' rr =>
     cases rr
     let⟨t,rfl⟩:=r
     let⟨t',rfl⟩:=r'
     show call_range_2 (Kw I1 q1 q2 q3 q4 q)
def KD(wi:TI)(g:TG)(tb:TS):TS:=λD σ H=>wi σ H λJ H1=>∃W:Nat->Nat->St->Hp->Prop,(∃m,W 0 m σ H1)/\∀i m σ H,W i m σ H ->
 (J.stop i H/\D.nx σ H)\/(J.go i H/\∃N:St->Hp->Prop,(∀ae H',N ae H'->∃m',m'<m/\W (i+1) m' ae H')/\∀x H',J.yld i H x H'->g x σ H' λaY H2=>tb {D with nx:=N,ct:=N,bk:=D.nx} aY H2)
def nU(fp:TQ)(h:Heap):TF:=fp.filterMap λb=>(h.get? b).map λo=>(b,o)
def pO(hb:b∈fp)(e:h.get? b=!o):(b,o)∈nU fp h:=uD.mpr ⟨b,hb,by rw[e];rfl⟩
def KF{p:Addr×Obj}(hp:p∈nU fp h):p.1∈fp/\h.get? p.1=!p.2:=by
 let⟨b,hb,e⟩:=uD.mp hp;cases q:h.get? b with
 | none=>rw[q]at e;cases e
 | some o =>
   rw[q]at e
   let e':(b,o)=p:=rD e
   subst e'
   show⟨hb,q⟩
def Inv.pinned{aa:TF}(I:Inv X aa σ H s)(hf:∀b∈fp,iD X aa H b)(ho:∀b∈fp,∃o,s.heap.get? b=!o/\∀v,o.data≠.cell v):Inv X (aa++nU fp s.heap) σ H s :=
 I.pins_of λp hp=>(rE.mp hp).elim (λz=>I.pin p (rO _ z)) λz=>by
  let⟨hb,e⟩:=KF z;let⟨f0,f1,f2,_⟩:=hf p.1 hb;let⟨o,e',d⟩:=ho p.1 hb;rw[e]at e';cases e';show⟨e,f0,f1,f2,d⟩
def Inv.unpinned{aa pl:TF}(I:Inv X (aa++pl) σ H s):Inv X aa σ H s:=I.pins_of λp hp=>I.pin p (rO _ (vE _ hp))
def Vh(hp:PassesOwn (model X.prog X.w) X.A X.env X.xe)(hc:X.calm=true)(hi:PI X tg iter wi)(hg:PG X tg g)(hb:PSs X body tb)(hs:∀x,foldedSetIterable iter X.env x=pure x:=by intro _;rfl):PS X (.For tg iter body [] pos) (KD wi g tb):=by
 intro aa s σ H D I h;show wpAny_For (aT (hi aa s σ H _ I h) λv s1 h1=>aT h1 λAS s2 h2=>?_) hs;let⟨it,fp,tn,J,H2,e,I2,T,gn,f2,W,⟨m0,w0⟩,turn⟩:=h2;subst e;let nV:∀{H':Hp},(∀b∈fp,H' b=none)->∀b∈fp,iD X aa H' b:=λhn b hb=>⟨hn b hb,(f2 b hb).2⟩
 show codeAny_forLoop_any (λn s'=>∃i ae H',Inv X aa ae H' s'/\tn i s'.heap/\(∀b∈fp,H' b=none)/\W i n ae H') ?_ m0 ⟨0,σ,H2,I2,gn,λb hb=>(f2 b hb).1,w0⟩;ext n s3 ⟨i,i7,H3,I3,kF,KH,w3⟩;rcases turn i n i7 H3 w3 with⟨stop,qn⟩ | ⟨go,N,hN,step⟩
 .show uR hp (aT (T.done X O O O hc i aa s3 i7 H3 X.xe I3 (nV KH) kF stop) λr s4 ⟨hr,I4⟩=>?_);subst hr;show vS ⟨i7,H3,I4,qn⟩
 .show uR hp (aT (T.item X O O O hc i aa s3 i7 H3 X.xe I3 (nV KH) kF go) λr s4 ⟨u,hr,h4⟩=>?_);subst hr;show uR hp (aT h4 λ_ s5 ⟨x,H5,I5,r5,y5,DK,Vi⟩=>?_);let Vj:=I5.pinned (nV Vi) (T.obj _ _ DK);show uR hp (aT (hg _ s5 i7 H5 x u _ Vj r5 (step x H5 y5)) λ_ s6 ⟨Vk,H6,I6,q6⟩=>?_);show uR hp (aT (hb _ s6 Vk H6 _ I6 q6) λf s7 q7=>?_);let again:∀{dR:St} {H7:Hp},Inv X (aa++nU fp s5.heap) dR H7 s7->N dR H7->∃m,m<n/\∃i ae H',Inv X aa ae H' s7/\tn i s7.heap/\(∀b∈fp,H' b=none)/\W i m ae H':=λ{dR H7} I7 n7=>by
   let⟨m',hm,w7⟩:=hN dR H7 n7;show⟨m',hm,i+1,dR,H7,I7.unpinned,T.keep _ _ _ DK λb hb o e=>(I7.pin (b,o) (rO _ (rO _ (pO hb e)))).1,λb hb=>?_,w7⟩;let⟨o,e,d⟩:=T.obj _ _ DK b hb;show(I7.pin (b,o) (rO _ (rO _ (pO hb e)))).2.1
  cases f with
  | next=>let⟨dR,H7,I7,n7⟩:=q7;show again I7 n7
  | cont=>let⟨dR,H7,I7,n7⟩:=q7;show again I7 n7
  | brk=>let⟨dR,H7,I7,q7⟩:=q7;show⟨dR,H7,I7.unpinned,q7⟩
  | ret v=>let⟨x7,dR,H7,I7,r7,q7⟩:=q7;show⟨x7,dR,H7,I7.unpinned,r7,q7⟩
end
def i9{K:W.Frag}{a:Addr}{xs:List V}{g:TG}{tb:TS}{D:gN}{σ:St}{H:Hp}(Pv:Nat->St->Hp->Prop)(h0:Pv 0 σ H)(hl:∀i σ H,i<=xs⁻¹->Pv i σ H->SqL K H a xs)(hs:∀i x σ H,xs[i]?=!x->Pv i σ H->g x σ H λaY H2=>tb {D with nx:=Pv (i+1),ct:=Pv (i+1),bk:=D.nx} aY H2)(hd:∀σ H,Pv xs⁻¹ σ H->D.nx σ H) :
  ∃W:Nat->Nat->St->Hp->Prop,(∃m,W 0 m σ H)/\∀i m σ H,W i m σ H ->
   ((pN K a).stop i H/\D.nx σ H)\/((pN K a).go i H/\∃N:St->Hp->Prop,(∀ae H',N ae H'->∃m',m'<m/\W (i+1) m' ae H')/\∀x H',(pN K a).yld i H x H'->g x σ H' λaY H2=>tb {D with nx:=N,ct:=N,bk:=D.nx} aY H2):=by
 show⟨λi m σ H=>m=xs⁻¹-i/\i<=xs⁻¹/\Pv i σ H,⟨xs⁻¹,∅,rL _,h0⟩,?_⟩;ext i m σ H ⟨rfl,hi,p⟩;let q:=hl i σ H hi p
 by_cases aX:i<xs⁻¹
 .show .inr ⟨⟨xs,xs[i],q,by simp[aX]⟩,Pv (i+1),λae H' p'=>⟨xs⁻¹-(i+1),(),O,aX,p'⟩,λx H' y=>?_⟩;let⟨e,y⟩:=y;subst e;show hs i x σ _ (y xs q) p
 .let e:i=xs⁻¹:=()
  subst e;show .inl ⟨⟨xs,q,qG _⟩,hd σ H p⟩
def gp{lo:Int}{n:Nat}{g:TG}{tb:TS}{D:gN}{σ:St}{H:Hp}(Pv:Nat->St->Hp->Prop)(h0:Pv 0 σ H)(hs:∀i σ H,i<n->Pv i σ H->g (.int (lo+i)) σ H λaY H2=>tb {D with nx:=Pv (i+1),ct:=Pv (i+1),bk:=D.nx} aY H2)(hd:∀σ H,Pv n σ H->D.nx σ H) :
  ∃W:Nat->Nat->St->Hp->Prop,(∃m,W 0 m σ H)/\∀i m σ H,W i m σ H ->
   ((ma lo n).stop i H/\D.nx σ H)\/((ma lo n).go i H/\∃N:St->Hp->Prop,(∀ae H',N ae H'->∃m',m'<m/\W (i+1) m' ae H')/\∀x H',(ma lo n).yld i H x H'->g x σ H' λaY H2=>tb {D with nx:=N,ct:=N,bk:=D.nx} aY H2):=by
 show⟨λi m σ H=>m=n-i/\i<=n/\Pv i σ H,⟨n,∅,rL _,h0⟩,?_⟩;ext i m σ H ⟨rfl,hi,p⟩
 by_cases aX:i<n
 .show .inr ⟨aX,Pv (i+1),λae H' p'=>⟨n-(i+1),(),O,aX,p'⟩,λx H' y=>?_⟩;let⟨e,y⟩:=y;subst e y;show hs i σ _ aX p
 .let e:i=n:=()
  subst e;show .inl ⟨qG _,hd σ H p⟩
abbrev R2:=V->V->Hp->VK->Prop
def cf(X:Cx)(f:Value->Value->Sem Value)(r:R2):Prop :=
 ∀(aa:TF) (s:Shared) (σ:St) (H:Hp) (x y:V) (v u:Value) (Q:VK),Inv X aa σ H s->RelV x v->RelV y u->r x y H Q ->
  wpAny (model X.prog X.w) X.A (f v u) (EP X aa σ Q) X.xe s
def DM(X:Cx)(f:Value->Sem Value)(r:V->Hp->VK->Prop):Prop :=
 ∀(aa:TF) (s:Shared) (σ:St) (H:Hp) (x:V) (v:Value) (Q:VK),Inv X aa σ H s->RelV x v->r x H Q ->
  wpAny (model X.prog X.w) X.A (f v) (EP X aa σ Q) X.xe s
def dB(X:Cx)(f:Value)(r:List V->Hp->VK->Prop):Prop :=
 ∀(aa:TF) (s:Shared) (σ:St) (H:Hp) (xs:List V) (us:TU) (Q:VK),Inv X aa σ H s->Vals xs us->r xs H Q ->
  wpAny (model X.prog X.w) X.A (call f us) (EP X aa σ Q) X.xe s
def eO(r:R2)(ta tb:TE):TE:=λσ H Q=>ta σ H λx H1=>tb σ H1 λy H2=>r x y H2 Q
def Vl(r:V->Hp->VK->Prop)(ta:TE):TE:=λσ H Q=>ta σ H λx H1=>r x H1 Q
inductive rI(C:Int->Int->Prop)(g:Int->Int->V):V->V->Hp->VK->Prop
|m i j:x=.int i->y=.int j->C i j->Q (g i j) H->rI C g x y H Q
inductive ja(g:Int->Int->V):V->V->Hp->VK->Prop
|m i j:x=.int i->y=.int j->Q (g i j) H->ja g x y H Q
inductive rU(g:Int->V):V->Hp->VK->Prop
|m i:x=.int i->Q (g i) H->rU g x H Q
section
variable{X:Cx}{a b c:Expr}{ta tb tc:TE}{pos:Pos}
def DN(ha:PE X a ta)(hb:PE X b tb){aa:TF}{R:V->V->Hp->Prop}(I:Inv X aa σ H s)(h:ta σ H λx H1=>tb σ H1 λy H2=>R x y H2){Q:TH}{f:Value->Value->Sem Value}(hf:∀v u s2 x y H2,Inv X aa σ H2 s2->RelV x v->RelV y u->R x y H2->wpAny (model X.prog X.w) X.A (f v u) Q X.xe s2) :
  wpAny (model X.prog X.w) X.A (eval a X.env) (λv be=>wpAny (model X.prog X.w) X.A (eval b X.env) (λu nR=>wpAny (model X.prog X.w) X.A (f v u) Q X.xe nR) X.xe be) X.xe s:=by
 show aT (ha aa s σ H _ I h) λv s1 ⟨x,H1,I1,r1,q1⟩=>?_
 show aT (hb aa s1 σ H1 _ I1 q1) λu s2 ⟨y,H2,I2,r2,q2⟩=>?_
 show hf v u s2 x y H2 I2 r1 r2 q2
def aG(ho:cf X (binaryOp op) r)(ha:PE X a ta)(hb:PE X b tb):PE X (.BinOp a op b pos) (eO r ta tb):=by
 intro aa s σ H Q I h;show wpAny_BinOp (DN ha hb I h λv u s2 x y H2 I2 rx ry q=>ho aa s2 σ H2 x y v u Q I2 rx ry q)
def dM{r:V->Hp->VK->Prop}(ho:DM X (unaryOp op) r)(ha:PE X a ta):PE X (.UnaryOp op a pos) (Vl r ta):=by
 intro aa s σ H Q I h;show UnaryOp_ (aT (ha aa s σ H _ I h) λv s1 ⟨x,H1,I1,r1,q1⟩=>ho aa s1 σ H1 x v Q I1 r1 q1)
def tP{f:Value->Value->Sem Value}{C:Int->Int->Prop}{g:Int->Int->Int}(rule:∀(i j:Int) (t u:Tok) (s:Shared) (Q:TH) (E:TH),C i j->Q (.int (g i j) s.toks) {s with toks:=s.toks+1}->wpAny (model X.prog X.w) X.A (f (.int i t) (.int j u)) Q E s) :
  cf X f (rI C λi j=>.int (g i j)):=by
 intro aa s σ H x y v u Q I rx ry h;let⟨i,j,rfl,rfl,hc,q⟩:=h;let⟨t,rfl⟩:=rx;let⟨t',rfl⟩:=ry;show rule i j t t' s _ _ hc ⟨.int (g i j),H,I.tok _,⟨_,O⟩,q⟩
def KI{f:Value->Value->Sem Value}{g:Int->Int->Int}(rule:∀(i j:Int) (t u:Tok) (s:Shared) (Q:TH) (E:TH),Q (.int (g i j) s.toks) {s with toks:=s.toks+1}->wpAny (model X.prog X.w) X.A (f (.int i t) (.int j u)) Q E s) :
  cf X f (ja λi j=>.int (g i j)):=by
 intro aa s σ H x y v u Q I rx ry h;let⟨i,j,rfl,rfl,q⟩:=h;let⟨t,rfl⟩:=rx;let⟨t',rfl⟩:=ry;show rule i j t t' s _ _ ⟨.int (g i j),H,I.tok _,⟨_,O⟩,q⟩
def AU{f:Value->Value->Sem Value}{g:Int->Int->Bool}(rule:∀(i j:Int) (t u:Tok) (s:Shared) (Q:TH) (E:TH),Q (.bool (g i j)) s->wpAny (model X.prog X.w) X.A (f (.int i t) (.int j u)) Q E s) :
  cf X f (ja λi j=>.bl (g i j)):=by
 intro aa s σ H x y v u Q I rx ry h;let⟨i,j,rfl,rfl,q⟩:=h;let⟨t,rfl⟩:=rx;let⟨t',rfl⟩:=ry;show rule i j t t' s _ _ ⟨.bl (g i j),H,I,O,q⟩
def Vm(i j:Int):=0<j/\j<1073741824
def CMul(i j:Int):=(-(2 ^ 64)<i/\i<2 ^ 64)\/(-(2 ^ 64)<j/\j<2 ^ 64)
def CMul.ok{i j:Int}(h:CMul i j):IntMulOk i j:=by
 rcases h with⟨h1,h2⟩ | ⟨h1,h2⟩
 .show .of_left (intBits_le_64 h1 h2)
 .show .of_right (intBits_le_64 h1 h2)
def bi:cf X (binaryOp .Add) (ja λi j=>.int (i+j)):=KI λ_ _ _ _ _ _ _ q=>add_int q
def dC:cf X (binaryOp .Sub) (ja λi j=>.int (i-j)):=KI λ_ _ _ _ _ _ _ q=>sub_int q
def fe:cf X (binaryOp .Mult) (rI CMul λi j=>.int (i*j)):=tP λ_ _ _ _ _ _ _ hc q=>mul_int q hc.ok
def DO:cf X (binaryOp .FloorDiv) (rI Vm λi j=>.int (i / j)):=tP λi j _ _ _ _ _ hc q=>by
 let h1:(0:Int)<j:=hc.1;let h2:j<1073741824:=hc.2;show floordiv_int () (by rw[Int.fdiv_eq_ediv_of_nonneg i ()];show q) (.inl (PyProof.noPylong_small ()))
def mf:cf X (binaryOp .Mod) (rI (λ_ j=>0<j) λi j=>.int (i % j)):=tP λi j _ _ _ _ _ hc q=>by
 let h1:(0:Int)<j:=hc;show mod_int' () (by rw[Int.fmod_eq_emod_of_nonneg i ()];show q)
def Vn{f:Value->Sem Value}{g:Int->Int}(rule:∀(i:Int) (t:Tok) (s:Shared) (Q:TH) (E:TH),Q (.int (g i) s.toks) {s with toks:=s.toks+1}->wpAny (model X.prog X.w) X.A (f (.int i t)) Q E s) :
  DM X f (rU λi=>.int (g i)):=by
 intro aa s σ H x v Q I rx h;let⟨i,rfl,q⟩:=h;let⟨t,rfl⟩:=rx;show rule i t s _ _ ⟨.int (g i),H,I.tok _,⟨_,O⟩,q⟩
def dN:DM X (unaryOp .USub) (rU λi=>.int (-i)):=Vn λ_ _ _ _ _ q=>neg_int q
def KJ:V->V->Bool
 | .non,.non=>true | .non,.int _=>true | .int _,.non=>true | .non,.bl _=>true | .bl _,.non=>true | .non,.str _=>true | .str _,.non=>true
 | .int _,.int _=>true | .bl _,.bl _=>true | .str _,.str _=>true | .byt _,.byt _=>true
 | .int _,.str _=>true | .str _,.int _=>true | .bl _,.str _=>true | .str _,.bl _=>true
 | _,_=>false
def Vo:R2:=λx y H Q=>KJ x y=true/\Q (.bl (decide (x=y))) H
def Vp:R2:=λx y H Q=>KJ x y=true/\Q (.bl ((Bool.not (decide (x=y))))) H
def KM{i j:Int}:decide (V.int i=V.int j)=(i == j):=by
 rw[uA];simp
def KN{i j:Bool}:decide (V.bl i=V.bl j)=(i == j):=by
 rw[uA];simp
def KO:decide (V.str i=V.str j)=(i == j):=by
 rw[uA];simp
def KQ:decide (V.byt i=V.byt j)=(i.toList == j.toList):=by
 rw[uA];cases i;cases j;simp
def cg{aa:TF}{k k':Bool}(I:Inv X aa σ H s)(q:Q (.bl k) H)(e:k=k'):EP X aa σ Q (.bool k') s:=by
 subst e;show⟨.bl k,H,I,O,q⟩
def bv:cf X (compareOp .Eq) Vo:=by
 intro aa s σ H x y v u Q I rx ry h;let⟨hs,q⟩:=h;cases x with
 | non =>
   cases rx
   cases y with
   | non=>cases ry;show EqNone.eq_none_none (cg I q ∅)
   | bl j=>cases ry;show EqNone.eq_none_bool (cg I q ∅)
   | int j=>let⟨t',rfl⟩:=ry;show EqNone.eq_none_int (cg I q ∅)
   | str j=>let⟨t',rfl⟩:=ry;show EqNone.eq_none_str (cg I q ∅)
   | _=>show qT (show false=true from hs) qU
 | bl i =>
   cases rx
   cases y with
   | non=>cases ry;show EqNone.eq_bool_none (cg I q ∅)
   | bl j=>cases ry;show eq_bool (cg I q KN)
   | str j=>let⟨t',rfl⟩:=ry;show EqMixed.eq_bool_str (cg I q ∅)
   | _=>show qT (show false=true from hs) qU
 | int i =>
   let⟨t,rfl⟩:=rx
   cases y with
   | non=>cases ry;show EqNone.eq_int_none (cg I q ∅)
   | int j=>let⟨t',rfl⟩:=ry;show eq_int (cg I q KM)
   | str j=>let⟨t',rfl⟩:=ry;show EqMixed.eq_int_str (cg I q ∅)
   | _=>show qT (show false=true from hs) qU
 | str i =>
   let⟨t,rfl⟩:=rx
   cases y with
   | non=>cases ry;show EqNone.eq_str_none (cg I q ∅)
   | bl j=>cases ry;show EqMixed.eq_str_bool (cg I q ∅)
   | int j=>let⟨t',rfl⟩:=ry;show EqMixed.eq_str_int (cg I q ∅)
   | str j=>let⟨t',rfl⟩:=ry;show eq_str (cg I q KO)
   | _=>show qT (show false=true from hs) qU
 | byt i =>
   let⟨t,rfl⟩:=rx
   cases y with
   | byt j=>let⟨t',rfl⟩:=ry;show W.eq_bytes (cg I q KQ)
   | _=>show qT (show false=true from hs) qU
 | _=>cases y<;>show qT (show false=true from hs) qU
def iE:cf X (compareOp .NotEq) Vp:=by
 intro aa s σ H x y v u Q I rx ry h;let⟨hs,q⟩:=h;cases x with
 | non =>
   cases rx
   cases y with
   | non=>cases ry;show EqNone.ne_none_none (cg I q ∅)
   | bl j=>cases ry;show EqNone.ne_none_bool (cg I q ∅)
   | int j=>let⟨t',rfl⟩:=ry;show EqNone.ne_none_int (cg I q ∅)
   | str j=>let⟨t',rfl⟩:=ry;show EqNone.ne_none_str (cg I q ∅)
   | _=>show qT (show false=true from hs) qU
 | bl i =>
   cases rx
   cases y with
   | non=>cases ry;show EqNone.ne_bool_none (cg I q ∅)
   | bl j=>cases ry;show ne_bool (cg I q (xJ not KN))
   | str j=>let⟨t',rfl⟩:=ry;show EqMixed.ne_bool_str (cg I q ∅)
   | _=>show qT (show false=true from hs) qU
 | int i =>
   let⟨t,rfl⟩:=rx
   cases y with
   | non=>cases ry;show EqNone.ne_int_none (cg I q ∅)
   | int j=>let⟨t',rfl⟩:=ry;show ne_int (cg I q (xJ not KM))
   | str j=>let⟨t',rfl⟩:=ry;show EqMixed.ne_int_str (cg I q ∅)
   | _=>show qT (show false=true from hs) qU
 | str i =>
   let⟨t,rfl⟩:=rx
   cases y with
   | non=>cases ry;show EqNone.ne_str_none (cg I q ∅)
   | bl j=>cases ry;show EqMixed.ne_str_bool (cg I q ∅)
   | int j=>let⟨t',rfl⟩:=ry;show EqMixed.ne_str_int (cg I q ∅)
   | str j=>let⟨t',rfl⟩:=ry;show ne_str (cg I q (xJ not KO))
   | _=>show qT (show false=true from hs) qU
 | byt i =>
   let⟨t,rfl⟩:=rx
   cases y with
   | byt j=>let⟨t',rfl⟩:=ry;show W.ne_bytes (cg I q (xJ not KQ))
   | _=>show qT (show false=true from hs) qU
 | _=>cases y<;>show qT (show false=true from hs) qU
def mh:cf X (compareOp .Lt) (ja λi j=>.bl (decide (i<j))):=AU λ_ _ _ _ _ _ _ q=>lt_int q
def DP:cf X (compareOp .LtE) (ja λi j=>.bl (decide (i<=j))):=AU λ_ _ _ _ _ _ _ q=>le_int q
def tQ:cf X (compareOp .Gt) (ja λi j=>.bl (decide (j<i))):=AU λ_ _ _ _ _ _ _ q=>gt_int q
def KR:cf X (compareOp .GtE) (ja λi j=>.bl (decide (j<=i))):=AU λ_ _ _ _ _ _ _ q=>ge_int q
def KU(b:Expr)(h:op≠.In:=by decide)(h2:op≠.NotIn:=by decide):behindInMarks op b=false:=by
 let e1:(op == CmpOp.In)=false:=by cases op<;>first | rfl | show qT rfl h
 let e2:(op == CmpOp.NotIn)=false:=by cases op<;>first | rfl | show qT rfl h2
 cases b<;>simp[behindInMarks,e1,e2]
def Vq(ho:cf X (compareOp op) r)(ha:PE X a ta)(hb:PE X b tb)(hm:behindInMarks op b=false):PE X (.Compare a [op] [b] pos) (eO r ta tb):=by
 intro aa s σ H Q I h;show wpAny_Compare1 (DN ha hb I h λv u s2 x y H2 I2 rx ry q=>ho aa s2 σ H2 x y v u Q I2 rx ry q) hm
inductive KY(Q:Bool->Hp->Prop):V->Hp->Prop
|m {x H'} k:x=.bl k->Q k H'->KY Q x H'
def tV(t:TE):TT:=λσ H Q=>t σ H (KY Q)
def Vr(ho:cf X (compareOp op) r)(ha:PE X a ta)(hb:PE X b tb)(hm:behindInMarks op b=false):PT X (.Compare a [op] [b] pos) (tV (eO r ta tb)):=by
 intro aa s σ H Q I h;show wpAny_isTrue_Compare1 (aT (ha aa s σ H _ I h) λv s1 ⟨x,H1,I1,r1,q1⟩=>aT (hb aa s1 σ H1 _ I1 q1) λu s2 ⟨y,H2,I2,r2,q2⟩ =>
  aT (ho aa s2 σ H2 x y v u _ I2 r1 r2 q2) λc s3 ⟨z,H3,I3,r3,k,e,q3⟩=>?_) hm
 subst e;cases r3;show yI ⟨H3,I3,q3⟩
def Vs(r r':R2)(ta tb tc:TE):TE:=λσ H Q=>ta σ H λx H1=>tb σ H1 λy H2=>r x y H2 λz H3=>∃k,z=.bl k /\
 (if k=true then tc σ H3 λw' H4=>r' y w' H4 Q else Q (.bl false) H3)
def Vt(ho:cf X (compareOp op) r)(kB:cf X (compareOp KZ) r')(ha:PE X a ta)(hb:PE X b tb)(hc:PE X c tc)(hm:lastMarks [op,KZ] [b,c]=false:=by with_unfolding_all rfl):PT X (.Compare a [op,KZ] [b,c] pos) (tV (Vs r r' ta tb tc)):=by
 intro aa s σ H Q I h;show isTrue_chain (aT (ha aa s σ H _ I h) λv s1 ⟨x,H1,I1,r1,q1⟩=>test_link (aT (hb aa s1 σ H1 _ I1 q1) λu s2 ⟨y,H2,I2,r2,q2⟩ =>
  aT (ho aa s2 σ H2 x y v u _ I2 r1 r2 q2) λd s3 ⟨z,H3,I3,r3,k,e,q3⟩=>?_)) hm
 subst e;cases r3;show yI ?_;cases k with
 | false =>
   let⟨k',e',q'⟩:=q3
   cases e'
   show ite_ff ⟨H3,I3,q'⟩
 | true =>
   show ite_tt (test_last (aT (hc aa s3 σ H3 _ I3 q3) λw' s4 ⟨z',H4,I4,r4,q4⟩=>aT (kB aa s4 σ H4 y z' u w' _ I4 r2 r4 q4) λd' s5 ⟨z2,H5,I5,r5,k2,e2,q5⟩=>?_))
   subst e2
   cases r5
   show yI ⟨H5,I5,q5⟩
def pP:(sizeLine:Nat)<2 ^ 63:=by rw[sizeLine_eq];decide
def DQ:cf X (binaryOp .Add) (λx y H Q=>∃i j,x=.str i/\y=.str j/\i⁻¹+j⁻¹<=sizeLine/\Q (.str (i++j)) H):=by
 intro aa s σ H x y v u Q I rx ry h;let⟨i,j,rfl,rfl,hz,q⟩:=h;let⟨t,rfl⟩:=rx;let⟨t',rfl⟩:=ry;show add_str (λt' tk=>⟨.str (i++j),H,I.tok _,⟨_,O⟩,q⟩) hz
def vals1(r:Vals [x] us):∃u,us=[u]/\RelV x u:=by
 cases r with
 | cons r1 r2=>cases r2;show-⟨r1⟩
def vals2(r:Vals [x,y] us):∃u w',us=[u,w']/\RelV x u/\RelV y w':=by
 cases r with
 | cons r1 r2 =>
   cases r2 with
   | cons r3 r4=>cases r4;show⟨_,_,O,r1,r3⟩
def mj(hc:X.calm=true):dB X (.builtin "max") (λxs H Q=>∃i j,xs=[.int i,.int j]/\Q (.int (if j>i then j else i)) H):=by
 intro aa s σ H xs us Q I r h;let⟨i,j,rfl,q⟩:=h;let⟨u,w',rfl,⟨t,rfl⟩,⟨t',rfl⟩⟩:=vals2 r;show max_two_ints (I.ok.hd hc) λh' tk k=>⟨_,H,I.kept k,?_,q⟩
 by_cases hj:j>i
 .rw[qZ hj,qZ hj];show⟨_,O⟩
 .rw[qX hj,qX hj];show⟨_,O⟩
def tX(hc:X.calm=true):dB X (.builtin "min") (λxs H Q=>∃i j,xs=[.int i,.int j]/\Q (.int (if j<i then j else i)) H):=by
 intro aa s σ H xs us Q I r h;let⟨i,j,rfl,q⟩:=h;let⟨u,w',rfl,⟨t,rfl⟩,⟨t',rfl⟩⟩:=vals2 r;show min_two_ints (I.ok.hd hc) λh' tk k=>⟨_,H,I.kept k,?_,q⟩
 by_cases hj:j<i
 .rw[qZ hj,qZ hj];show⟨_,O⟩
 .rw[qX hj,qX hj];show⟨_,O⟩
def tY:dB X (.type "int") (λxs H Q=>(∃i,xs=[.int i]/\Q (.int i) H)\/∃k,xs=[.bl k]/\Q (.int (if k then 1 else 0)) H):=by
 intro aa s σ H xs us Q I r h;rcases h with⟨i,rfl,q⟩ | ⟨k,rfl,q⟩
 .let⟨u,rfl,t,rfl⟩:=vals1 r;show call_int_int ⟨.int i,H,I,⟨_,O⟩,q⟩
 .let⟨u,rfl,r1⟩:=vals1 r;cases r1;show call_int_bool ⟨.int (if k then 1 else 0),H,I.tok _,⟨_,O⟩,q⟩
def Vu:dB X (.type "str") (λxs H Q=>∃i,xs=[.int i]/\i.natAbs.log2<1920/\Q (.str (toString i)) H):=by
 intro aa s σ H xs us Q I r h;let⟨i,rfl,hz,q⟩:=h;let⟨u,rfl,t,rfl⟩:=vals1 r;show P.str_of_int hz ⟨.str _,H,I.tok _,⟨_,O⟩,q⟩
end
structure ObjM(h:Heap)(x dx C:Addr)(mA:TJ):Prop where
 obj:h.get? x=!W.instObj C dx
 ns:h.Ns1 dx mA
 ne:dx≠x
def Vv{h:Heap}{dx:Addr}{mA:TJ}(n:h.Ns1 dx mA):∃od,h.get? dx=!od/\∀name,W.lookIn name od=!mA name:=by
 let⟨o,es,ep,ho,hd,hk,_,hm⟩:=n;show⟨o,ho,λname=>?_⟩;let e:=hm name;unfold nsFind findBy at e;rw[<-Array.find?_toList]at e;unfold W.lookIn;rw[hd];dsimp only
 split
 .rename_i y q;rw[q]at e;show xJ some e
 .rename_i q;rw[q]at e;let a:es.toList.any (·.refKey)=false:=by
   rw[List.any_eq_false];intro y hy;let⟨z,t,tZ⟩:=hk y (Array.mem_toList_iff.mp hy);simp[DictEntry.refKey,tZ]
  let a':¬es.toList.any (·.refKey)=true:=by rw[a];show qU
  rw[qX a'];show xJ some e
def ObjM.look{mA:TJ}(I:ObjM h x dx C mA):∃od,W.InstAt h x (W.instObj C dx) C (!od)/\∀name,W.lookIn name od=!mA name :=
 let⟨od,ho,hl⟩:=Vv I.ns
 ⟨od,⟨I.obj,O,O,ho⟩,hl⟩
section
variable{P:Program}{w:World}{H H':Hp}{h h':Heap}{a C dx:Addr}{fs UA:List (Str×V)}
def Vw(hok:HOk P w H h)(e:H a=!.ins C dx fs):∃mA,ObjM h a dx C mA/\(∀f,RelO (fs.lookup f) (mA f))/\Within mA (fs.map (·.1))/\fs⁻¹<=1000/\H dx=!.own a:=by
 let⟨d,z,ne,ob,mA,n,r,q⟩:=(show ObjOk P w H h a (.ins C dx fs)from hok a _ e);show⟨mA,⟨ob,n,ne⟩,r,q,z,d⟩
end
structure Cls(K:W.Frag)(C:Addr):Prop where
 pg:W.plainGet K C Str.empty=true
 hd:W.hasDictIn K C=true
 po:W.plainOver K C=true
 sa:W.findIn K (.ref C) "__setattr__" = !!.builtin "object.__setattr__"
def Cls.get{K:W.Frag}{C:Addr}(c:Cls K C)(f:Str):W.plainGet K C f=true:=c.pg
section
variable{X:Cx}{aa:TF}{σ:St}{H:Hp}{s:Shared}{A:Around}{E:TH}{Q:TH}{c:Value}{b:Bool}
inductive gq(K:W.Frag)(H:Hp):V->Value->Prop where
 | non:gq K H .non (.type "NoneType")
 | bl (x:Bool):gq K H (.bl x) (.type "bool")
 | int (i:Int):gq K H (.int i) (.type "int")
 | str (x:Str):gq K H (.str x) (.type "str")
 | flt (x:UInt64):gq K H (.flt x) (.type "float")
 | lst {a:Addr} {xs:List V} (e:H a=!.lst xs):gq K H (.ref a) (.type "list")
 | frz {a:Addr} {o:Obj} {xs:List V} (e:H a=!.frz o (.lst xs)):gq K H (.ref a) (.type "list")
 | tup {a:Addr} {xs:List V} (e:H a=!.tup xs):gq K H (.ref a) (.type "tuple")
 | dK {a:Addr} {ax:List (aW×V)} (e:H a=!.dK ax):gq K H (.ref a) (.type "dict")
 | dT {a:Addr} {ax:List (List aW×V)} (e:H a=!.dT ax):gq K H (.ref a) (.type "dict")
 | ins {a C dx:Addr} {fs:List (Str×V)} (e:H a=!.ins C dx fs) (cl:Cls K C) (ha:W.findIn K (.ref C) "__class__" = !!.builtin "object.__class__")
   (hn:W.specialIn K (.builtin "object.__class__") "__get__" = !!.builtin "getset_descriptor.__get__") (AV:W.takesIn K (.builtin "object.__class__")=!true)
   (hm:W.mroIn K C (.type "object")=!true):gq K H (.ref a) (.ref C)
def Vx(I:Inv X aa σ H s)(rx:RelV x u)(ty:gq X.K H x t)(e:W.kitOne X.K t c=!b)(h:∀tk,Q (.bool b) {s with toks:=tk}) :
  wpAny (model X.prog X.w) A (call (.builtin "isinstance") [u,c]) Q E s:=by
 cases ty with
 | non=>cases(show u=Value.none from rx);show yM W.kitx_none I.kIn True.intro e (λz=>nomatch z) h
 | bl y=>cases(show u=Value.bool y from rx);show yM W.kitx_bool I.kIn True.intro e (λz=>nomatch z) h
 | int i=>let⟨t,q⟩:=(show∃t,u=Value.int i t from rx);cases q;show yM W.kitx_int I.kIn True.intro e (λz=>nomatch z) h
 | str y=>let⟨t,q⟩:=(show∃t,u=Value.str y t from rx);cases q;show yM W.kitx_str I.kIn True.intro e (λz=>nomatch z) h
 | flt y=>let⟨t,q⟩:=(show∃t,u=Value.float y t from rx);cases q;show yM W.kitx_float I.kIn True.intro e (λz=>nomatch z) h
 | @lst a xs ea =>
   cases(show u=Value.ref a from rx)
   let⟨_,_,n,_,h1⟩:=(show ObjOk X.prog X.w H s.heap a (.lst xs)from I.hok a _ ea)
   show yM W.kitx_list I.kIn ⟨_,h1,O⟩ e (λz=>nomatch z) h
 | @frz a ob xs ea =>
   cases(show u=Value.ref a from rx)
   let⟨_,_,_,n,_,h1⟩:=(show ObjOk X.prog X.w H s.heap a (.frz ob (.lst xs))from I.hok a _ ea)
   show yM W.kitx_list I.kIn ⟨_,h1,O⟩ e (λz=>nomatch z) h
 | @tup a xs ea =>
   cases(show u=Value.ref a from rx)
   let⟨_,_,_,p⟩:=(show ObjOk X.prog X.w H s.heap a (.tup xs)from I.hok a _ ea)
   let⟨o,h1,h2,_⟩:=p
   show yM W.kitx_tuple I.kIn ⟨o,h1,h2⟩ e (λz=>nomatch z) h
 | @dK a ax ea =>
   cases(show u=Value.ref a from rx)
   let⟨_,_,vs,_,p⟩:=(show ObjOk X.prog X.w H s.heap a (.dK ax)from I.hok a _ ea)
   let⟨o,es,ep,h1,h2,_⟩:=p
   show yM W.kitx_dict I.kIn ⟨o,h1,h2.1⟩ e (λz=>nomatch z) h
 | @dT a ax ea =>
   cases(show u=Value.ref a from rx)
   let⟨_,_,xs,_,o,es,ep,h1,h2,_⟩:=(show ObjOk X.prog X.w H s.heap a (.dT ax)from I.hok a _ ea)
   show yM W.kitx_dict I.kIn ⟨o,h1,h2.1⟩ e (λz=>nomatch z) h
 | @ins a C dx fs ea cl ha hn AV hm =>
   cases(show u=Value.ref a from rx)
   let⟨mA,qfM,_⟩:=Vw I.hok ea
   let⟨od,J,_⟩:=qfM.look
   show yM (W.kitx_own (cl.get _) cl.hd ha hn AV hm) I.kIn J e (λz=>nomatch z) h
end
structure Room(k:Nat)(A:Around):Prop where
 hd:A.handled=none
 dp:A.depth+3*k+5<recursionLimit
 un:A.units+16*k+200<cLine
def Room.mono{j k:Nat}(r:Room k A)(h:j<=k):Room j A:=⟨r.hd,by have:=r.dp;omega,by have:=r.un;omega⟩
def Room.deeper{k:Nat}(r:Room (k+1) A)(env:Env):Room k (A.deeper env) :=
 ⟨r.hd,by have:=r.dp;show A.depth+1+3*k+5<_;omega,by have:=r.un;show A.units+3+16*k+200<_;omega⟩
def Room.in1{k:Nat}(r:Room (k+1) A):Room k A.in1 :=
 ⟨r.hd,by have:=r.dp;show A.depth+3*k+5<_;omega,by have:=r.un;show A.units+1+16*k+200<_;omega⟩
def Room.depth{k:Nat}(r:Room k A):A.depth<recursionLimit:=by have:=r.dp;omega
def Room.units{k:Nat}(r:Room k A):A.units+64<cLine:=by have:=r.un;omega
def iG:TA:=λ_ H Q=>Q [] H
def dD(ta:TE)(tr:TA):TA:=λσ H Q=>ta σ H λx H1=>tr σ H1 λxs H2=>Q (x::xs) H2
section
variable{X:Cx}{e:Expr}{es:TW}{te:TE}{t:TA}{pos:Pos}
def bE:PA X [] iG:=λ_ _ _ _ H Q I h=>Calls.spliced_nil ⟨[],H,I,.nil,h⟩
def aJ(ha:PE X e te)(hr:PA X es t)(hs:starEach (e::es) X.env=(false,eval e X.env)::starEach es X.env:=by rfl):PA X (e::es) (dD te t):=by
 intro pos aa s σ H Q I h;rw[hs];show wpAny _ _ (spliced ((false,eval e X.env)::backTo pos (starEach es X.env))) _ _ s;show Calls.spliced_cons (aT (ha aa s σ H _ I h) λu s1 ⟨x,H1,I1,r1,q1⟩=>?_);show aT (hr pos aa s1 σ H1 _ I1 q1) λus s2 ⟨xs,H2,I2,r2,q2⟩=>⟨x::xs,H2,I2,.cons r1 r2,q2⟩
def DR(t:TA):TE:=λσ H Q=>t σ H λxs H1=>xs⁻¹<=sizeLine/\∀p,H1 p=none->Q (.ref p) (af H1 p (.tup xs))
def pQ(t:TA):TE:=λσ H Q=>t σ H λxs H1=>xs⁻¹<=sizeLine/\∀p,H1 p=none->Q (.ref p) (af H1 p (.lst xs))
def br{x1}(h:PA X es t):PE X (.Tuple es x1 pos) (DR t):=by
 intro aa s σ H Q I hq;show wpAny_Tuple_spliced (aT (h pos aa s σ H _ I hq) λus s1 ⟨xs,H1,I1,r,z,q⟩=>⟨by rw[<-r⁻¹];show z,?_⟩);let hf:H1 (~~~s1)=none:=I1.hok.fresh (qG _);show⟨.ref (~~~s1),af H1 (~~~s1) (.tup xs),I1.laid (t':=s1.toks) (λb u e=>qE _ e) (qG _) ?_,O,q _ hf⟩;show⟨z,us,r,⟨_,qR _ O,O,_,O⟩⟩
def a0(h:PA X es t):PE X (.List es pos) (pQ t):=by
 intro aa s σ H Q I hq;show wpAny_List_spliced (aT (h pos aa s σ H _ I hq) λus s1 ⟨xs,H1,I1,r,z,q⟩=>⟨by rw[<-r⁻¹];show z,?_⟩);let hf:H1 (~~~s1)=none:=I1.hok.fresh (qG _);show⟨.ref (~~~s1),af H1 (~~~s1) (.lst xs),I1.laid (t':=s1.toks) (λb u e=>qE _ e) (qG _) ?_,O,q _ hf⟩;show⟨z,us,0,r,qR _ O⟩
end
abbrev Sp:=List V->Hp->VK->XK->Prop
abbrev dg:=List Env->Hp->Shared->XK->Value->Shared->Prop
structure Env0(P:Program)(w:World)(K:W.Frag)(mg:TJ)(base:Heap)(A:Around)(outer:List Env)(s:Shared)(H:Hp):Prop where
 frames:A.frames=!outer
 mod:Mod K mg base
 bs:∀b o,base.get? b=!o->s.heap.get? b=!o/\H b=none
 bsz:base.objs.size<= ~~~s
 funs:s.heap.FunFrames base outer
 frf:∀b∈cX outer,H b=none
 hok:HOk P w H s.heap
 bare:AllBare s.gens
def CE(outer:List Env)(P:Program)(w:World)(H:Hp)(s:Shared)(Q:VK)(u:Value)(s':Shared):Prop :=
 ∃v H',s'.os=s.os/\AllBare s'.gens/\Un (cX outer) [] H H' s.heap s'.heap/\HOk P w H' s'.heap/\RelV v u/\Q v H'
def CR(CX:dg)(outer:List Env)(P:Program)(w:World)(H:Hp)(s:Shared)(Q:VK)(E:XK)(r:Result)(s':Shared):Prop :=
 match r with
 | .ok (.ret u)=>CE outer P w H s Q u s'
 | .ok _=>False
 | .error e=>CX outer H s E e s'
structure aN(P:Program)(w:World)(K:W.Frag)(mg:TJ)(base:Heap)(CX:dg)(k:Nat)(f:Addr)(fd:FuncData)(ps:TV)(sp:Sp):Prop where
 len:∀vs H Q E,sp vs H Q E->vs⁻¹=ps⁻¹
 run:∀(A:Around) (outer:List Env) (s:Shared) (H:Hp) (args:Args) (us:TU) (vs:List V) (Q:VK) (E:XK),Room k A->Env0 P w K mg base A outer s H->BindsTo s fd args (ps.zip us)->Vals vs us->sp vs H Q E ->
  codeAny (model P w) A (.call (.ref f) args) (CR CX outer P w H s Q E) s
def Env0.in1{P:Program}{w:World}{K:W.Frag}{mg:TJ}{base:Heap}{A:Around}{outer:List Env}{s:Shared}{H:Hp}(e:Env0 P w K mg base A outer s H) :
  Env0 P w K mg base A.in1 outer s H:=⟨e.frames,e.mod,e.bs,e.bsz,e.funs,e.frf,e.hok,e.bare⟩
section
variable{X:Cx}{aa:TF}{σ:St}{H:Hp}{s s':Shared}
def Inv.env0(I:Inv X aa σ H s):Env0 X.prog X.w X.K X.mg X.base X.A X.stack s H :=
 ⟨I.ok.frames,I.ok.mod,I.bs,rK I.ok.bsz I.sz,I.stack,I.stkFree,I.hok,I.bare⟩
def Inv.after(I:Inv X aa σ H s)(h:CE X.stack X.prog X.w H s Q u s'):EP X aa σ Q u s':=by
 let⟨v,H',os,bare,un,hok,r,q⟩:=h;let⟨hh,g,d,t,kG⟩:=s';obtain rfl:kG=s.os:=os;show⟨v,H',I.call (h':=hh) (g':=g) (d':=d) (t':=t) (ch:=[]) un hok bare (λb z=>qT z ∅),r,q⟩
end
def AW(sp:Sp)(jb:List V)(E:XK)(t:TA):TE:=λσ H Q=>t σ H λvs H1=>sp (vs++jb) H1 Q E
def Binds(K:W.Frag)(fd:FuncData)(ps:TV)(ds:TU):Prop :=
 ∀(s:Shared) (us:TU),K.In s.heap->(us++ds)⁻¹=ps⁻¹->BindsTo s fd ⟨us,[]⟩ (ps.zip (us++ds))
def Binds.all{K:W.Frag}{fd:FuncData}{ps:TV}(h:∀us:TU,us⁻¹=ps⁻¹->bindArgs fd ⟨us,[]⟩=pure (ps.zip us)):Binds K fd ps []:=λs us _ hl=>by
 rw[rS]at hl⊢;show .of_eq (h us hl)
def ua(CX:dg)(X:Cx)(E:XK):=∀(aa:TF) (σ:St) (H:Hp) (s:Shared) (e:Value) (s':Shared),Inv X aa σ H s->CX X.stack H s E e s'->X.xe e s'
section
variable{X:Cx}{CX:dg}{k:Nat}{f C:Addr}{fd:FuncData}{ps:TV}{sp:Sp}{jb:List V}{ds:TU}{E:XK}{x m:Str}{p pos kH:Pos}{e o:Expr}{es:TW}{ta:TE}{t:TA}
def Vy{aa:TF}(F:aN X.prog X.w X.K X.mg X.base CX k f fd ps sp)(hr:Room k X.A)(hb:Binds X.K fd ps ds)(hd:Vals jb ds)(hx:ua CX X E)(I:Inv X aa σ H s)(r:Vals vs us)(h:sp (vs++jb) H Q E):wpAny (model X.prog X.w) X.A (call (.ref f) us) (EP X aa σ Q) X.xe s:=by
 let r2:Vals (vs++jb) (us++ds):=r.append hd;let hl:(us++ds)⁻¹=ps⁻¹:=by rw[<-r2⁻¹];show F.len _ _ _ _ h
 show wpAny_call (uT (F.run X.A X.stack s H ⟨us,[]⟩ (us++ds) (vs++jb) Q E hr I.env0 (hb s us I.kIn hl) r2 h) λr s' hq=>?_);cases r with
 | error e=>show hx aa σ H s e s' I hq
 | ok fl =>
   cases fl with
   | ret u=>show I.after hq
   | next=>show False.elim hq
   | brk=>show False.elim hq
   | cont=>show False.elim hq
def K'(F:aN X.prog X.w X.K X.mg X.base CX k f fd ps sp)(hr:Room k X.A)(hg:Gl X x)(hm:X.mg x=!.ref f)(hk:W.keepIn X.K (.ref f)=true)(hb:Binds X.K fd ps ds)(hd:Vals jb ds)(hx:ua CX X E)(ha:PA X (e::es) t)(gO:(x == ("__debug__" : Str))=false:=by decide)(he:starEach (e::es) X.env=(false,eval e X.env)::starEach es X.env:=by rfl)(dO:(backTo pos (starEach es X.env)).any (·.1)=false:=by rfl) :
  PE X (.Call (.Name x p) (e::es) [] pos) (AW sp jb E t):=by
 intro aa s σ H Q I h;show uP (Kf I hg hm ?_ gO);show W.callWith_K (h₀:=X.base) I.ok.mod.kin hk (aT (ha pos aa s σ H _ I h) λus s1 ⟨vs,H1,I1,r,q⟩=>⟨I1.kIn,?_⟩) he dO;show Vy F hr hb hd hx I1 r q
end
structure nX(N P:TV)(sc:Scope):Prop where
 kind:sc.kind=.function
 co:sc.isCoroutine=false
 gen:sc.isGenerator=false
 nd:N.Nodup
 pre:N.take P.length=P
 par:∀x∈P,sc.names.lookup x=!.local\/sc.names.lookup x=!.cell
 nofree:∀y∈sc.names,y.2≠.free
theorem La{kindOf:Str->Option NameKind}:∀{binds:List (Str×Value)} {m:TJ},(∀v,(x,v)∉binds)->bindL kindOf binds m x=m x
 | [],_,_=>rfl
 | (n, v) :: r, m, h => by
   unfold bindL
   rw[La λw hw=>h w (qW _ hw)]
   split
   · have:x≠n:=by ext rfl;show h v rF
     simp[this]
   · rfl
theorem Lb{kindOf:Str->Option NameKind}:∀{binds:List (Str×Value)} {m:TJ},(∀v,(x,v)∉binds)->bindC kindOf binds m x=m x
 | [],_,_=>rfl
 | (n, v) :: r, m, h => by
   unfold bindC
   rw[Lb λw hw=>h w (qW _ hw)]
   split
   · rfl
   · have:x≠n:=by ext rfl;show h v rF
     simp[this]
theorem Lc{kindOf:Str->Option NameKind}:∀{P:TV} {vs:TU} {i:Nat} {m:TJ},P.Nodup->P[i]?=!x->vs[i]?=!v->kindOf x=!.local ->
  bindL kindOf (P.zip vs) m x=!v
 | [],_,_,_,_,h,_,_=>by simp at h
 | _::_,[],_,_,_,_,h,_=>by simp at h
 | p :: P, w :: vs, 0, m, nd, h1, h2, hk => by
   simp at h1 h2;subst h1;subst h2
   show bindL kindOf ((p,w)::P.zip vs) m p=_
   unfold bindL
   rw[La λv hv=>(u6.mp nd).1 (u7 hv).1,qZ hk]
   simp
 | p :: P, w :: vs, i + 1, m, nd, h1, h2, hk => by
   show bindL kindOf ((p,w)::P.zip vs) m x=_
   unfold bindL
   show Lc (i:=i) (u6.mp nd).2 ‹h1› ‹h2› hk
theorem Ld{kindOf:Str->Option NameKind}:∀{P:TV} {vs:TU} {i:Nat} {m:TJ},P.Nodup->P[i]?=!x->vs[i]?=!v->kindOf x≠!.local ->
  bindC kindOf (P.zip vs) m x=!v
 | [],_,_,_,_,h,_,_=>by simp at h
 | _::_,[],_,_,_,_,h,_=>by simp at h
 | p :: P, w :: vs, 0, m, nd, h1, h2, hk => by
   simp at h1 h2;subst h1;subst h2
   show bindC kindOf ((p,w)::P.zip vs) m p=_
   unfold bindC
   rw[Lb λv hv=>(u6.mp nd).1 (u7 hv).1,qX hk]
   simp
 | p :: P, w :: vs, i + 1, m, nd, h1, h2, hk => by
   show bindC kindOf ((p,w)::P.zip vs) m x=_
   unfold bindC
   show Ld (i:=i) (u6.mp nd).2 ‹h1› ‹h2› hk
def start(N:TV)(vs:List V):St:=vs.map some++List.replicate (N.length-vs⁻¹) none
def fQ(CX:dg)(P:Program)(w:World)(K:W.Frag)(mg:TJ)(base:Heap)(N:TV)(qual:Str)(scope:Scope)(f:Addr)(cd:Value)(A:Around)(outer:List Env)(s:Shared)(H:Hp)(E:XK):Cx where
 prog:=P
 w:=w
 K:=K
 mg:=mg
 base:=base
 A:=A.deeper (envOfC qual scope (~~~s) f cd)
 N:=N
 s₀:=s
 H₀:=H
 env:=envOfC qual scope (~~~s) f cd
 outer:=outer
 stack:=envOfC qual scope (~~~s) f cd::outer
 ex:=[]
 calm:=true
 fn:=λ_=>true
 pn:=[]
 xe:=λe s'=>wpAny (model P w) (A.deeper (envOfC qual scope (~~~s) f cd)) (leaving (envOfC qual scope (~~~s) f cd) e) (λ_ DS=>CX outer H s E e DS) (λe' DS=>CX outer H s E e' DS) s'
def Le{sc:Scope}{n:Nat}{x:Str}(h:sc.names.lookup x=!.cell):∃c,(cellsFrom n sc.names []).lookup x=!c:=by
 let q:=W.cellsFrom_some sc.names n [] (.inl h);show Option.isSome_iff_exists.mp q
def Vz{CX:dg}{P:Program}{w:World}{K:W.Frag}{mg:TJ}{base:Heap}{N ps:TV}{qual:Str}{scope:Scope}{f:Addr}{cd:Value}{A:Around}{outer:List Env}{s s1:Shared}{H:Hp}{E:XK}{us:TU}{vs:List V}(S:nX N ps scope)(hd:A.handled=none)(e0:Env0 P w K mg base A outer s H)(hl:vs⁻¹=ps⁻¹)(r:Vals vs us)(x:InCallC s (~~~s) (bindL (envOfC qual scope (~~~s) f cd).kindOf (ps.zip us) λ_=>none) (cellsFrom (~~~s+1) scope.names []) (bindC (envOfC qual scope (~~~s) f cd).kindOf (ps.zip us) λ_=>none) s1) :
  Inv (fQ CX P w K mg base N qual scope f cd A outer s H E) [] (start N vs) H s1:=by
 let dO:ps⁻¹<=N.length:=by have:=xJ List.length S.pre;rw[xO]at this;omega
 let⟨h1,tk,rfl,hk⟩:=x.done;let ud:∀b:Addr,b∉(fQ CX P w K mg base N qual scope f cd A outer s H E).ex:=λb z=>qT (show b∈([]:TQ)from z) ∅
 show⟨⟨e0.mod,S.kind,O,O,qG _,λy z c h1 h2=>?_,λy hy=>?_,λy c _ h=>?_,λ_=>hd,Around.frames_deeper e0.frames,.inr ⟨O,O⟩,λb z=>qT z (ud b),e0.bs,e0.bsz,λb _ _=>ud b,λb z=>qT z (ud b),e0.funs,e0.frf⟩,
  rfl,e0.bare,Un.kept hk,⟨_,x.toInCall.ns,λi y v h1 h2 h3=>?_⟩,λy c h=>⟨_,x.cell y c h⟩,e0.hok.fresh (qG _),λy c h=>?_,λp hp=>qT (show p∈([]:TF)from hp) ∅,e0.hok.kept hk,?_⟩
 .show name_of_addr x.apart (uV h1) (uV h2)
 .let hy:scope.names.lookup y=!.cell\/scope.names.lookup y=!.free:=hy;rcases hy with hy | hy
  .show Le hy
  .show qT O (S.nofree _ (uV hy))
 .show rX (x.above y c (uV h))
 .have hi:i<vs⁻¹:=by
   unfold start at h2
   by_cases hi:i<vs⁻¹
   .show hi
   .rw[rG ‹hi›]at h2;rw[List.getElem?_replicate]at h2
    split at h2<;>cases h2
  let ha:vs[i]?=!v:=by
   unfold start at h2;rw[rY ‹hi›,qJ]at h2;cases e:vs[i]? with
   | none=>rw[e]at h2;cases h2
   | some a=>rw[e]at h2;cases h2;rfl
  let⟨u,hu,rv⟩:=r.get ha;let hp:ps[i]?=!y:=by
   rw[<-S.pre,List.getElem?_take_of_lt ()];show h1
  let Lg:ps.Nodup:=by rw[<-S.pre];show S.nd.sublist (List.take_sublist _ _)
  show⟨u,rv,?_⟩;rcases S.par y (qL hp)with k | k
  .show .inl ⟨k,Lc Lg hp hu k⟩
  .let⟨c,e⟩:=Le (n:= ~~~s+1) k;show .inr ⟨.inl k,c,e,?_⟩;let q:=x.cell y c e;rw[Ld Lg hp hu (by show scope.names.lookup y≠_;rw[k];decide)]at q;show q
 .show e0.hok.fresh (rX (x.above y c (uV h)))
 .unfold start;show _=N.length;rw[qI,qA,xU];omega
def DT{CX:dg}{P:Program}{w:World}{K:W.Frag}{mg:TJ}{base:Heap}{k:Nat}{f:Addr}{name qual:Str}{params:Arguments}{body:List Stmt}{scope:Scope}{dV kV bq pm aB ct oc:Value}{an od:Option Addr}{fF:Array (Option Value)}{N ps:TV}{sp:Sp}(lk:K.lookup f=!⟨oc,od,.func (W.fnOf name qual params body scope dV kV bq pm an aB ct),fF⟩)(fO:W.codeIn K aB qual=true)(S:nX N ps scope)(len:∀vs H Q E,sp vs H Q E->vs⁻¹=ps⁻¹)(kI:∀(A:Around) (outer:List Env) (s:Shared) (H:Hp) (vs:List V) (Q:VK) (E:XK),Room k (A.deeper (envOfC qual scope (~~~s) f aB))->sp vs H Q E ->
   ∃t,PSs (fQ CX P w K mg base N qual scope f aB A outer s H E) body t/\t {nx:=λ_ H'=>Q .non H',rt:=Q} (start N vs) H) :
  aN P w K mg base CX (k+1) f (W.fnOf name qual params body scope dV kV bq pm an aB ct) ps sp:=by
 show⟨len,λA outer s H args us vs Q E hr e0 hb r eP=>?_⟩;let hl:=len _ _ _ _ eP;let KX:K.In s.heap:=e0.mod.kin.keeps λb o e=>(e0.bs b o e).1
 let VA:s.heap.NoLimit:=e0.mod.nolimit.keeps λb o e=>(e0.bs b o e).1
 let VB:∀y∈ps.zip us,scope.names.lookup y.1=!.local\/(scope.names.lookup y.1=!.cell/\((cellsFrom (~~~s+1) scope.names []).lookup y.1).isSome=true):=λ⟨n,v⟩ hy=>by
  rcases S.par n (u7 hy).1 with q | q
  .show .inl q
  .show .inr ⟨q,W.cellsFrom_some _ _ _ (.inl q)⟩
 show codeAny_call_function hr.depth (KX _ _ lk) O S.co S.gen O (W.codeRec_of KX fO) (hb _ _ _ _ ?_);show wpAny_newFunctionEnv_cells S.kind VB λenv he s1 x=>?_
 subst he;show⟨VA.keeps x.toInCall.keep,codeAny_func ?_⟩;let⟨t,ht,hq⟩:=kI A outer s H vs Q E (hr.deeper _) eP;let I:Inv (fQ CX P w K mg base N qual scope f aB A outer s H E) [] (start N vs) H s1:=Vz S hr.hd e0 hl r x;show xN (ht [] s1 (start N vs) H _ I hq) (λfl s' hs=>?_) λe s' hs=>hs
 let fin:∀{ae:St} {H':Hp} {v:V} {u:Value},Inv (fQ CX P w K mg base N qual scope f aB A outer s H E) [] ae H' s'->RelV v u->Q v H'->CE outer P w H s Q u s' :=
  λ{ae H' v u} J rv q=>⟨v,H',J.os,J.bare,J.base,J.hok,rv,q⟩
 cases fl with
 | ret u =>
   let⟨v,ae,H',J,rv,q⟩:=hs
   show fin J rv q
 | next =>
   let⟨ae,H',J,q⟩:=hs
   show fin (v:=V.non) (u:=Value.none) J O q
 | brk =>
   let⟨_,_,_,q⟩:=hs
   show False.elim q
 | cont =>
   let⟨_,_,_,q⟩:=hs
   show False.elim q
section
variable{X:Cx}{x:Str}{p pos:Pos}{e:Expr}{es:TW}{t:TA}{id T:String}{r:List V->Hp->VK->Prop}
def ue(r:List V->Hp->VK->Prop)(t:TA):TE:=λσ H Q=>t σ H λvs H1=>r vs H1 Q
def Lh(hc:dB X (.builtin id) r)(hg:Gl X x)(hm:X.mg x=none)(hv:bootBuiltins x=!.builtin id)(ha:PA X (e::es) t)(hn:x ≠ "__name__":=by decide)(gO:(x == ("__debug__" : Str))=false:=by decide)(he:starEach (e::es) X.env=(false,eval e X.env)::starEach es X.env:=by rfl)(dO:(backTo pos (starEach es X.env)).any (·.1)=false:=by rfl):PE X (.Call (.Name x p) (e::es) [] pos) (ue r t):=by
 intro aa s σ H Q I h;show uP (i5 I hg hm hv ?_ hn gO);show PyProof.Rows.callWith_builtin1 (aT (ha pos aa s σ H _ I h) λus s1 ⟨vs,H1,I1,r1,q1⟩=>hc aa s1 σ H1 vs us Q I1 r1 q1) he dO
def dS(hc:dB X (.type T) r)(hg:Gl X x)(hm:X.mg x=none)(hv:bootBuiltins x=!.type T)(ha:PA X (e::es) t)(hn:x ≠ "__name__":=by decide)(gO:(x == ("__debug__" : Str))=false:=by decide)(he:starEach (e::es) X.env=(false,eval e X.env)::starEach es X.env:=by rfl)(dO:(backTo pos (starEach es X.env)).any (·.1)=false:=by rfl):PE X (.Call (.Name x p) (e::es) [] pos) (ue r t):=by
 intro aa s σ H Q I h;show uP (i5 I hg hm hv ?_ hn gO);show xT (aT (ha pos aa s σ H _ I h) λus s1 ⟨vs,H1,I1,r1,q1⟩=>hc aa s1 σ H1 vs us Q I1 r1 q1) he dO
end
end L2
namespace HT
open PyProof.Rows
section
variable{prog:Program}{w:World}{A:Around}{E:TH}{s:Shared}
def sIx(n d:Nat):Option Int->Nat
 | none=>d
 | some v=>if v<0 then(v+(n:Int)).toNat else min v.toNat n
def sIx_none(n d:Nat):sIx n d none=d:=rfl
def sIx_nat(n d k:Nat):sIx n d (!(k:Int))=min k n:=by
 show(if(k:Int)<0 then((k:Int)+(n:Int)).toNat else min (k:Int).toNat n)=min k n;rw[qX (),yR]
end
end HT
namespace L2
open PyProof.Rows
abbrev TO:=St->Hp->(Option Int->Hp->Prop)->Prop
def PO(X:Cx)(e:Option Expr)(t:TO):Prop :=
 ∀(aa:TF) (s:Shared) (σ:St) (H:Hp) (Q:Option Int->Hp->Prop),Inv X aa σ H s->t σ H Q ->
  wpAny (model X.prog X.w) X.A (evalPart e X.env) (λu s'=>∃o H',Inv X aa σ H' s'/\IsPart u o/\Q o H') X.xe s
def VC:TO:=λ_ H Q=>Q none H
inductive Li(Q:Option Int->Hp->Prop):V->Hp->Prop
|m {x H1} i:x=.int i->Q (!i) H1->Li Q x H1
def VD(t:TE):TO:=λσ H Q=>t σ H (Li Q)
section
variable{X:Cx}{e:Expr}{te:TE}{lo hi:Option Expr}{tl th:TO}{pos p2:Pos}
def nY:PO X none VC:=by
 intro aa s σ H Q I h;rw[evalPart_none];show qM ⟨none,H,I,.none,h⟩
def jc(h:PE X e te):PO X (!e) (VD te):=by
 intro aa s σ H Q I hw;rw[evalPart_some];show aT (h aa s σ H _ I hw) λu s1 ⟨x,H1,I1,r1,q1⟩=>?_
 let⟨i,rfl,q⟩:=q1;let⟨t,rfl⟩:=r1;show⟨!i,H1,I1,.int i t,q⟩
def DU(X:Cx)(r:V->Option Int->Option Int->Hp->VK->Prop):Prop :=
 ∀(aa:TF) (s:Shared) (σ:St) (H:Hp) (x:V) (v vl vu:Value) (lo hi:Option Int) (sl:Addr) (Q:VK),Inv X aa σ H s->RelV x v->s.heap.IsSliceOf sl vl vu .none->IsPart vl lo->IsPart vu hi->r x lo hi H Q ->
  ∃T id,typeLookup (.type T) "__getitem__" = pure (!.builtin id)/\s.TypeIs v T/\wpAny (model X.prog X.w) X.A (getItem v (.ref sl)) (EP X aa σ Q) X.xe s
def VE(r:V->Option Int->Option Int->Hp->VK->Prop)(te:TE)(tl th:TO):TE:=λσ H Q=>te σ H λx H1=>tl σ H1 λl H2=>th σ H2 λu H3=>r x l u H3 Q
def kJ{r:V->Option Int->Option Int->Hp->VK->Prop}(hr:DU X r)(he:PE X e te)(hl:PO X lo tl)(hu:PO X hi th):PE X (.Subscript e (.Slice lo hi none p2) pos) (VE r te tl th):=by
 intro aa s σ H Q I h;show Subscript_ (aT (he aa s σ H _ I h) λv s1 ⟨x,H1,I1,r1,q1⟩=>?_);show wpAny_Slice (aT (hl aa s1 σ H1 _ I1 q1) λvl s2 ⟨l,H2,I2,pl,q2⟩=>aT (hu aa s2 σ H2 _ I2 q2) λvu s3 ⟨u,H3,I3,pu,q3⟩=>?_);rw[evalPart_none];show qM ?_;let I4:Inv X aa σ H3 {s3 with heap:=s3.heap.push {cls:=.type "slice",data:=.fields #[vl,vu,.none]}}:=I3.kept (t':=s3.toks) λb ob q=>qE _ q
 let⟨T,id,hT,ht,hg⟩:=hr aa {s3 with heap:=s3.heap.push {cls:=.type "slice",data:=.fields #[vl,vu,.none]}} σ H3 x v vl vu l u (~~~s3) Q I4 r1 (Heap.IsSliceOf.new ..) pl pu q3;show wpAny (model X.prog X.w) X.A (subscriptTail e (.Slice lo hi none p2) v (.ref (~~~s3))) (EP X aa σ Q) X.xe {s3 with heap:=s3.heap.push {cls:=.type "slice",data:=.fields #[vl,vu,.none]}};show tail_any (ops:=[.ref (~~~s3),v]) ht hT hg (by with_unfolding_all rfl)
def dU(xs:List V)(lo hi:Option Int):List V:=(xs.drop (HT.sIx xs⁻¹ 0 lo)).take (HT.sIx xs⁻¹ xs⁻¹ hi-HT.sIx xs⁻¹ 0 lo)
def VF(xs:List V)(lo hi:Option Int):(dU xs lo hi)⁻¹<=xs⁻¹:=by
 unfold dU;rw[xO,uL];omega
end
def fR(n:Nat)(i:Int):Option Nat:=if 0<=i then(if i<n then !i.toNat else none)else if -(n:Int)<=i then !(i+n).toNat else none
def bI{α:Type}(xs:List α)(i:Int):Option α:=(fR xs⁻¹ i).bind λj=>xs[j]?
def Lj{n:Nat}{i:Int}{j:Nat}(h:fR n i=!j):seqIndex? i n=!j/\j<n/\-(n:Int)<=i/\i<n:=by
 unfold fR at h
 by_cases h0:0<=i
 .rw[qZ h0]at h
  by_cases h1:i<n
  .rw[qZ h1]at h;let e:i.toNat=j:=rD h;show⟨by rw[seqIndex_of h0 h1,e],(),(),h1⟩
  .rw[qX h1]at h;cases h
 .rw[qX h0]at h
  by_cases h1:-(n:Int)<=i
  .rw[qZ h1]at h;let e:(i+n).toNat=j:=rD h;show⟨by rw[seqIndex_neg () h1,e],(),h1,()⟩
  .rw[qX h1]at h;cases h
def DV{α:Type}{xs:List α}{i:Int}{v:α}(h:bI xs i=!v):∃j,seqIndex? i xs⁻¹=!j/\xs[j]?=!v/\j<xs⁻¹/\-(xs⁻¹:Int)<=i/\i<xs⁻¹:=by
 unfold bI at h;cases e:fR xs⁻¹ i with
 | none=>rw[e]at h;cases h
 | some j =>
   rw[e]at h
   let⟨h1,h2,h3,h4⟩:=Lj e
   show⟨j,h1,h,h2,h3,h4⟩
def eQ{α:Type}{xs:List α}{j:Nat}{v:α}(h:xs[j]?=!v):bI xs (j:Int)=!v:=by
 let hj:j<xs⁻¹:=(qF.mp h).1;let e:fR xs⁻¹ (j:Int)=!j:=by
  unfold fR;rw[qZ (),qZ ()];simp
 unfold bI;rw[e];show h
def atI_last{α:Type}(xs:List α)(v:α):bI (xs++[v]) (-1)=!v:=by
 let hl:(xs++[v])⁻¹=xs⁻¹+1:=∅
 let e:fR (xs++[v])⁻¹ (-1)=!xs⁻¹:=by
  unfold fR;rw[hl,qX {},qZ ()]
  congr 1
  omega
 unfold bI;rw[e];show(xs++[v])[xs⁻¹]?=!v;simp
def Ll(b:Expr):=∀o i,subscripted b false o i=operate [o,i] (getItem o i)
def uf(X:Cx)(r:R2):Prop :=
 ∀(value ug:Expr) (aa:TF) (s:Shared) (σ:St) (H:Hp) (x y:V) (v u:Value) (Q:VK),Inv X aa σ H s->RelV x v->RelV y u->r x y H Q ->
  subscripted ug false v u=operate [v,u] (getItem v u)->wpAny (model X.prog X.w) X.A (subscriptTail value ug v u) (EP X aa σ Q) X.xe s
def pR(X:Cx)(id:String)(r:V->List V->Hp->VK->Prop):Prop :=
 ∀(aa:TF) (s:Shared) (σ:St) (H:Hp) (x:V) (xs:List V) (v:Value) (us:TU) (Q:VK),Inv X aa σ H s->RelV x v->Vals xs us->r x xs H Q ->
  wpAny (model X.prog X.w) X.A (call (.builtin id) (v::us)) (EP X aa σ Q) X.xe s
section
variable{X:Cx}{a b:Expr}{ta tb:TE}{pos:Pos}
def VG(hr:uf X r)(ha:PE X a ta)(hb:PE X b tb)(hs:Ll b):PE X (.Subscript a b pos) (eO r ta tb):=by
 intro aa s σ H Q I h;show Subscript_ (DN ha hb I h λv u s2 x y H2 I2 rx ry q=>hr a b aa s2 σ H2 x y v u Q I2 rx ry q (hs _ _))
inductive cI(K:W.Frag):V->V->Hp->VK->Prop
|m p xs i v:x=.ref p->y=.int i->SqL K H p xs->bI xs i=!v->Q v H->cI K x y H Q
inductive bU(K:W.Frag):V->V->Hp->VK->Prop
|m p xs i v:x=.ref p->y=.int i->SqT K H p xs->bI xs i=!v->Q v H->bU K x y H Q
inductive Lm:V->V->Hp->VK->Prop
|m z i c:x=.str z->y=.int i->z⁻¹<=sizeLine->bI z.cps.toList i=!c->Q (.str ⟨#[c]⟩) H->Lm x y H Q
def aE:uf X (cI X.K):=by
 intro value ug aa s σ H x y v u Q I rx ry h hs;let⟨p,xs,i,z,rfl,rfl,hq,he,q⟩:=h;cases rx;let⟨t,rfl⟩:=ry;let⟨ah,r,pl,hz⟩:=I.list hq;let⟨j,h1,h2,h3,h4,h5⟩:=DV he;let⟨w,ew,ui⟩:=r.get h2;let hl:=r⁻¹;let hn:=pP;let fin:EP X aa σ Q w s:=⟨z,H,I,ui,q⟩
 by_cases h0:0<=i
 .let hj:i.toNat=j:=by
   rw[seqIndex_of h0 h5]at h1;show rD h1
  show item_listR pl.isList h0 () (by rw[hj];simpa using ew) fin hs
 .let hj:(i+(ah.toArray.size:Int)).toNat=j:=by
   rw[seqIndex_neg () h4]at h1;rw[qY,<-hl];show rD h1
  show subscriptTail_builtinR (x:=w) pl.isList.typeIs slot_list_getitem.lookup
   (wpAny_getItem_list_neg (Q:=λr s'=>r=w/\EP X aa σ Q r s') pl.isList () (by rw[qY]<;>omega) () (by rw[hj];simpa using ew) ⟨O,fin⟩) hs
def aI:uf X (bU X.K):=by
 intro value ug aa s σ H x y v u Q I rx ry h hs;let⟨p,xs,i,z,rfl,rfl,hq,he,q⟩:=h;cases rx;let⟨t,rfl⟩:=ry;let⟨ah,r,pl,hz⟩:=I.tuple hq;let⟨j,h1,h2,h3,h4,h5⟩:=DV he;let⟨w,ew,ui⟩:=r.get h2;let hl:=r⁻¹;let hn:=pP;let fin:EP X aa σ Q w s:=⟨z,H,I,ui,q⟩;show subscriptTail_builtinR (x:=w) pl.typeIs slot_tuple_getitem.lookup
  (getItem_tuple (j:=j) (Q:=λr s'=>r=w/\EP X aa σ Q r s') pl () () (by rw[qY,<-hl];show h1) ‹ew› ⟨O,fin⟩) hs
def DW:uf X Lm:=by
 intro value ug aa s σ H x y v u Q I rx ry h hs;let⟨z,i,c,rfl,rfl,hz,he,q⟩:=h;let⟨t,rfl⟩:=rx;let⟨t',rfl⟩:=ry;let⟨j,h1,h2,h3,h4,h5⟩:=DV he;let hl:z.cps.toList⁻¹=z⁻¹:=by simp[Str.length]
 rw[hl]at h1 h4 h5;let hn:=pP;show tail_any (typeIs_str s z t) slot_str_getitem.lookup (getItem_str (c:=c) (by
  let e1:decide (i < -(2 ^ 63:Int))=false:=rB ();let e2:decide (i≥2 ^ 63)=false:=rB ();rw[e1,e2,Bool.or_false]) (by rw[h1];simpa using h2) ⟨.str ⟨#[c]⟩,H,I.tok _,⟨_,O⟩,q⟩) hs
def VH(ah:TU)(n j:Nat)(u:Value):Obj.mapSeq (·.setIfInBounds j u) {cls:=.type "list",data:=.seq ah.toArray n}={cls:=.type "list",data:=.seq (ah.set j u).toArray n}:=by
 simp[Obj.mapSeq]
def Inv.lst{aa:TF}(I:Inv X aa σ H s)(h:H p=!.lst xs) :
  ∃(ah:TU) (n:Nat),Vals xs ah/\s.heap.get? p=!{cls:=.type "list",data:=.seq ah.toArray n}/\xs⁻¹<=sizeLine:=by
 let⟨z,ah,n,r,e⟩:=I.hok p _ h;show⟨ah,n,r,e,z⟩
def Inv.lstUpd{aa:TF}{σ:St}{H:Hp}{s:Shared}{p:Addr}{xs ys:List V}{ah its':TU}{n n':Nat}{f:Obj->Obj}(I:Inv X aa σ H s)(h:H p=!.lst xs)(ho:s.heap.get? p=!{cls:=.type "list",data:=.seq ah.toArray n})(hf:f {cls:=.type "list",data:=.seq ah.toArray n}={cls:=.type "list",data:=.seq its'.toArray n'})(r:Vals ys its')(hz:ys⁻¹<=sizeLine)(t:Nat) :
  Inv X aa σ (af H p (.lst ys)) {s with heap:=s.heap.update p f,toks:=t}:=by
 let e:(s.heap.update p f).get? p=!{cls:=.type "list",data:=.seq its'.toArray n'}:=by
  rw[yE f ho (by rw[hf]<;>rfl),hf]
 show I.write (x:=p) (e:=p) (by rw[h];trivial) (.inl O) (λb u hb q=>(yA _ _ (rV hb)).trans q) ⟨_,e⟩ ?_;show⟨hz,its',n',r,e⟩
inductive DX:V->V->V->Hp->(Hp->Prop)->Prop
|m p xs k j:o=.ref p->i=.int k->H p=!.lst xs->fR xs⁻¹ k=!j->Q (af H p (.lst (xs.set j v)))->DX o i v H Q
def pS:DA X DX:=by
 intro aa s σ H o i v ov iv u Q I ro ri rv h;let⟨p,xs,k,j,rfl,rfl,hp,hj,q⟩:=h;cases ro;let⟨t,rfl⟩:=ri;let⟨ah,n,r,ho,hz⟩:=I.lst hp;let⟨h1,h2,h3,h4⟩:=Lj hj;let hl:=r⁻¹;let hn:=pP;let I':Inv X aa σ (af H p (.lst (xs.set j v))) {s with heap:=s.heap.update p (Obj.mapSeq (·.setIfInBounds j u))} :=
  I.lstUpd hp ho (VH ah n j u) (r.set rv j) (by rw[uG];show hz) s.toks
 by_cases h0:0<=k
 .let hk:k.toNat=j:=by
   rw[seqIndex_of h0 h4]at h1;show rD h1
  show W.ki_setAt ho h0 () (by rw[qY,<-hl];show h4) (by rw[hk];show⟨_,I',q⟩)
 .let hk:(k+(ah.toArray.size:Int)).toNat=j:=by
   rw[seqIndex_neg () h3]at h1;rw[qY,<-hl];show rD h1
  show W.ki_setBack ho () (by rw[qY,<-hl];show h3) () (by rw[hk];show⟨_,I',q⟩)
def VI(lo hi:Option Int)(n:Nat):(sliceBounds lo hi none n).1=((HT.sIx n 0 lo:Nat):Int)/\(sliceBounds lo hi none n).2.1=((HT.sIx n n hi:Nat):Int)/\(sliceBounds lo hi none n).2.2=1:=by
 show⟨?_,?_,O⟩
 .cases lo with
  | none=>simp[sliceBounds,HT.sIx]
  | some i =>
    simp only[sliceBounds,HT.sIx,Option.getD_none,show(1:Int)>0 by decide,if_true]
    by_cases h:i<0
    · simp only[h,if_true]<;>omega
    · simp only[h,if_false]<;>omega
 .cases hi with
  | none=>simp[sliceBounds,HT.sIx]
  | some i =>
    simp only[sliceBounds,HT.sIx,Option.getD_none,show(1:Int)>0 by decide,if_true]
    by_cases h:i<0
    · simp only[h,if_true]<;>omega
    · simp only[h,if_false]<;>omega
def VJ(ah:TU)(lo hi:Option Int):slicePick ah.toArray lo hi none=((ah.drop (HT.sIx ah⁻¹ 0 lo)).take (HT.sIx ah⁻¹ ah⁻¹ hi-HT.sIx ah⁻¹ 0 lo)).toArray:=by
 let⟨h1,h2,h3⟩:=VI lo hi ah.toArray.size;unfold slicePick;rw[h1,h2,h3];simp only[sliceRange_one,pick_run,List.size_toArray]<;>rfl
inductive pT(K:W.Frag):V->Option Int->Option Int->Hp->VK->Prop
|m {x lo hi H Q} a xs:x=.ref a->SqL K H a xs->(∀p,H p=none->Q (.ref p) (af H p (.lst (dU xs lo hi))))->pT K x lo hi H Q
def nZ:DU X (pT X.K):=by
 intro aa s σ H x v vl vu lo hi sl Q I rx hs pl pu h;let⟨a,xs,rfl,hx,q⟩:=h;cases rx;let⟨ah,r,ht,hz⟩:=I.list hx;let bK:=r⁻¹;show⟨"list",_,slot_list_getitem.lookup,ht.isList.typeIs,?_⟩;show wpAny_getItem_list_slice ht.isList hs pl pu .none ∅ ?_ (by rw[List.size_toArray]<;>omega);rw[VJ,<-bK];show⟨.ref (~~~s),_,I.laid (t':=s.toks) (o:=.lst (dU xs lo hi)) (λb ob q=>qE _ q) (qG _) ?_,O,q _ (I.hok.fresh (qG _))⟩;show⟨rK (VF xs lo hi) hz,_,0,(r.drop (HT.sIx xs⁻¹ 0 lo)).take (HT.sIx xs⁻¹ xs⁻¹ hi-HT.sIx xs⁻¹ 0 lo),qR _ O⟩
def kK:V->Bool
 | .non=>true
 | .bl _=>true
 | .int _=>true
 | .str _=>true
 | _=>false
def kL:V->V->Bool
 | .non,.non=>true
 | .bl a,.bl b=>a == b
 | .bl a,.int b=>(if a then 1 else 0) == b
 | .int a,.bl b=>a == (if b then 1 else 0)
 | .int a,.int b=>a == b
 | .str a,.str b=>a == b
 | _,_=>false
def VL(ry:RelV y u)(rx:RelV x v)(fy:kK y=true)(fx:kK x=true):SeqAt.EqAt A s u v (kL y x):=by
 cases y with
 | non =>
   cases ry
   cases x with
   | non=>cases rx;show SeqAt.EqAt.same _
   | bl b=>cases rx;show SeqAt.EqAt.none_bool b
   | int b=>let⟨t,rfl⟩:=rx;show SeqAt.EqAt.none_int b t
   | str b=>let⟨t,rfl⟩:=rx;show SeqAt.EqAt.none_str b t
   | _=>show qT (show false=true from fx) qU
 | bl a =>
   cases ry
   cases x with
   | non=>cases rx;show SeqAt.EqAt.bool_none a
   | bl b=>cases rx;show SeqAt.EqAt.bool_bool a b
   | int b=>let⟨t,rfl⟩:=rx;show SeqAt.EqAt.bool_int a b t
   | str b=>let⟨t,rfl⟩:=rx;show SeqAt.EqAt.bool_str a b t
   | _=>show qT (show false=true from fx) qU
 | int a =>
   let⟨t',rfl⟩:=ry
   cases x with
   | non=>cases rx;show SeqAt.EqAt.int_none a t'
   | bl b=>cases rx;show SeqAt.EqAt.int_bool a t' b
   | int b=>let⟨t,rfl⟩:=rx;show SeqAt.EqAt.int_int a t' b t
   | str b=>let⟨t,rfl⟩:=rx;show SeqAt.EqAt.int_str a t' b t
   | _=>show qT (show false=true from fx) qU
 | str a =>
   let⟨t',rfl⟩:=ry
   cases x with
   | non=>cases rx;show SeqAt.EqAt.str_none a t'
   | bl b=>cases rx;show SeqAt.EqAt.str_bool a t' b
   | int b=>let⟨t,rfl⟩:=rx;show SeqAt.EqAt.str_int a t' b t
   | str b=>let⟨t,rfl⟩:=rx;show SeqAt.EqAt.str_str a t' b t
   | _=>show qT (show false=true from fx) qU
 | _=>show qT (show false=true from fy) qU
def fS(x:V)(u:Value):Bool:=match u with
 | .none=>kL .non x
 | .bool b=>kL (.bl b) x
 | .int i _=>kL (.int i) x
 | .str z _=>kL (.str z) x
 | _=>false
def Ln(r:RelV y u)(f:kK y=true):fS x u=kL y x:=by
 cases y with
 | non=>cases r;rfl
 | bl b=>cases r;rfl
 | int i=>let⟨t,rfl⟩:=r;rfl
 | str z=>let⟨t,rfl⟩:=r;rfl
 | _=>show qT (show false=true from f) qU
theorem uk:∀{xs:List V} {us:TU},Vals xs us->xs.all kK=true->us.any (fS x)=xs.any λy=>kL y x
 | _,_,.nil,_=>rfl
 | y :: xs, u :: us, .cons r t, f => by
   rw[vI,uC]at f
   rw[vJ,vJ,Ln r f.1,uk t f.2]
theorem um(rx:RelV x v)(fx:kK x=true):∀{xs:List V} {us:TU},Vals xs us->xs.all kK=true->∀u∈us,SeqAt.EqAt A s u v (fS x u)
 | _,_,.nil,_=>λu hu=>by cases hu
 | y :: xs, u :: us, .cons r t, f => λu' hu => by
   rw[vI,uC]at f
   rcases qN.mp hu with rfl | hu
   · rw[Ln r f.1];show VL r rx f.1 fx
   · show um rx fx t f.2 u' hu
def mq(x:V)(xs:List V):Bool:=xs.any λy=>kL y x
inductive AX(K:W.Frag)(neg:Bool):V->V->Hp->VK->Prop
|m p xs:y=.ref p->(SqL K H p xs\/SqT K H p xs)->kK x=true->xs.all kK=true->Q (.bl (if neg then (Bool.not (mq x xs)) else mq x xs)) H->AX K neg x y H Q
def AY:cf X (compareOp .In) (AX X.K false):=by
 intro aa s σ H x y v u Q I rx ry h;let⟨p,xs,rfl,hq,fx,fs,q⟩:=h;cases ry;rcases hq with hq | hq
 .let⟨ah,r,pl,hz⟩:=I.list hq;show SeqAt.in_listAt (fS x) pl.isList (λw hw=>um rx fx r fs w ‹hw›) ⟨.bl _,H,I,O,?_⟩;rw[show ah.toArray.any (fS x)=ah.any (fS x) by simp,uk r fs];show q
 .let⟨ah,r,pl,hz⟩:=I.tuple hq;show SeqAt.in_tupleAt (fS x) pl (λw hw=>um rx fx r fs w ‹hw›) ⟨.bl _,H,I,O,?_⟩;rw[show ah.toArray.any (fS x)=ah.any (fS x) by simp,uk r fs];show q
def AZ:cf X (compareOp .NotIn) (AX X.K true):=by
 intro aa s σ H x y v u Q I rx ry h;let⟨p,xs,rfl,hq,fx,fs,q⟩:=h;cases ry;rcases hq with hq | hq
 .let⟨ah,r,pl,hz⟩:=I.list hq;show SeqAt.notIn_listAt (fS x) pl.isList (λw hw=>um rx fx r fs w ‹hw›) ⟨.bl _,H,I,O,?_⟩;rw[show ah.toArray.any (fS x)=ah.any (fS x) by simp,uk r fs];show q
 .let⟨ah,r,pl,hz⟩:=I.tuple hq;show SeqAt.notIn_tupleAt (fS x) pl (λw hw=>um rx fx r fs w ‹hw›) ⟨.bl _,H,I,O,?_⟩;rw[show ah.toArray.any (fS x)=ah.any (fS x) by simp,uk r fs];show q
inductive DY(K:W.Frag):List V->Hp->VK->Prop
 | mk p ys:xs=[.ref p]->(SqL K H p ys\/SqT K H p ys)->Q (.int ys⁻¹) H->DY K xs H Q
def VM:dB X (.builtin "len") (DY X.K):=by
 intro aa s σ H xs us Q I r h;let⟨p,ys,rfl,hq,q⟩:=h;let⟨u,rfl,rx⟩:=vals1 r;cases rx;let hn:=pP;rcases hq with hq | hq
 .let⟨ah,r',pl,hz⟩:=I.list hq;let bK:=r'⁻¹;show Calls.call_len_list pl.isList (by simp only[List.size_toArray]<;>omega) ⟨.int ys⁻¹,H,I.tok _,⟨s.toks+1,by rw[qY,bK]⟩,q⟩
 .let⟨ah,r',pl,hz⟩:=I.tuple hq;let bK:=r'⁻¹;show len_tuple pl (by simp only[List.size_toArray]<;>omega) ⟨.int ys⁻¹,H,I.tok _,⟨s.toks+1,by rw[qY,bK]⟩,q⟩
def pU:dB X (.type "list") (λxs H Q=>∃p ys,xs=[.ref p]/\(SqL X.K H p ys\/SqT X.K H p ys)/\∀l,H l=none->Q (.ref l) (af H l (.lst ys))):=by
 intro aa s σ H xs us Q I r h;let⟨p,ys,rfl,hq,q⟩:=h;let⟨u,rfl,rx⟩:=vals1 r;cases rx;let fin:∀(ah:TU),Vals ys ah->ys⁻¹<=sizeLine->∀(h':Heap) (c':Nat),(∀b o',s.heap.get? b=!o'->h'.get? b=!o') ->
   h'.get? (~~~s)=!{cls:=.type "list",dict:=none,data:=.seq ah.toArray c',slots:=#[]}->EP X aa σ Q (.ref (~~~s)) {s with heap:=h'}:=λah r' hz h' c' kp e =>
  ⟨.ref (~~~s),_,I.laid (t':=s.toks) kp (qG _) (show ObjOk X.prog X.w _ h' _ (.lst ys)from⟨hz,ah,c',r',e⟩),O,q _ (I.hok.fresh (qG _))⟩
 rcases hq with hq | hq
 .let⟨ah,r',pl,hz⟩:=I.list hq;let bK:=r'⁻¹;let⟨o,ho,hc,n,hd⟩:=pl.isList;show call_list_seq p (.inl O) ho hc hd (λh' c' kp e=>fin ah r' hz h' c' kp e) (by simp only[List.size_toArray]<;>omega)
 .let⟨ah,r',pl,hz⟩:=I.tuple hq;let bK:=r'⁻¹;let⟨o,ho,hc,n,hd⟩:=pl;show call_list_seq p (.inr O) ho hc hd (λh' c' kp e=>fin ah r' hz h' c' kp e) (by simp only[List.size_toArray]<;>omega)
def DZ(K:W.Frag)(T:String)(x:V)(H:Hp):Prop:=match x with
 | .str _=>T = "str"
 | .int _=>T = "int"
 | .ref p=>(T = "list" /\ ∃xs,SqL K H p xs)\/(T = "tuple" /\ ∃o,K.lookup p=!o/\o.cls=.type "tuple" /\ o.dict=none) \/
   (T = "dict" /\ ((∃ax,H p=!.dK ax)\/∃ax,H p=!.dT ax))\/(T = "set" /\ ∃S n,H p=!.set S n)
 | _=>False
def Lo{aa:TF}{T:String}(I:Inv X aa σ H s)(r:RelV x v)(ty:DZ X.K T x H) :
  s.TypeIs v T/\∀a,v=.ref a->∃ob,s.heap.get? a=!ob/\ob.dict=none:=by
 cases x with
 | str z =>
   let⟨t,rfl⟩:=r
   cases(show T = "str" from ty)
   show⟨typeIs_str s z t,λ_ e=>nomatch e⟩
 | int i =>
   let⟨t,rfl⟩:=r
   cases(show T = "int" from ty)
   show⟨typeIs_int s i t,λ_ e=>nomatch e⟩
 | ref p =>
   cases r
   rcases ty with⟨rfl,xs,hq⟩ | ⟨rfl,o,hk,hc,hd⟩ | ⟨rfl,hk⟩ | ⟨rfl,S,n,hk⟩
   · let⟨ah,_,pl,_⟩:=I.list hq
     show⟨pl.isList.typeIs,λa e=>?_⟩
     cases e
     let⟨o,n,e,c,hd,_⟩:=pl
     show⟨o,e,hd⟩
   · show⟨⟨o,I.kIn p o hk,hc⟩,λa e=>?_⟩
     cases e
     show⟨o,I.kIn _ o hk,hd⟩
   · have z:∃o,s.heap.get? p=!o/\o.ExactDict:=by
       rcases hk with⟨ax,hk⟩ | ⟨ax,hk⟩
       · let⟨_,_,_,_,o,_,_,e,ex,_⟩:=I.hok p _ hk
         show⟨o,e,ex⟩
       · let⟨_,_,_,_,o,_,_,e,ex,_⟩:=I.hok p _ hk
         show⟨o,e,ex⟩
     let⟨o,e,ex⟩:=z
     show⟨⟨o,e,ex.1⟩,λa e2=>?_⟩
     cases e2
     show⟨o,e,ex.2.1⟩
   · let⟨o,_,_,_,e,ex,_⟩:=I.hok p _ hk
     show⟨⟨o,e,ex.1⟩,λa e2=>?_⟩
     cases e2
     show⟨o,e,ex.2.1⟩
 | _=>show False.elim ty
def VN(K:W.Frag)(T:String)(r:V->List V->Hp->VK->Prop)(to:TE):TE:=λσ H Q=>to σ H λx H1=>DZ K T x H1/\r x [] H1 Q
def D0(K:W.Frag)(T:String)(r:V->List V->Hp->VK->Prop)(to:TE)(t:TA):TE:=λσ H Q=>to σ H λx H1=>DZ K T x H1/\t σ H1 λxs H2=>r x xs H2 Q
variable{o e:Expr}{es:TW}{to:TE}{t:TA}{name:Str}{kH dW:Pos}{T id:String}{r:V->List V->Hp->VK->Prop}
theorem VO(pa:PlainAttrs T)(slot:Slot T name id)(uq:typeOf (.builtin id)=pure (.type "method_descriptor"))(hm:pR X id r)(ho:PE X o to)(n8:attributeBase o name X.env (eval o X.env)=eval o X.env:=by rfl)(oa:(kH.endLine == dW.line)=true:=by rfl):PE X (.Call (.Attribute o name kH) [] [] dW) (VN X.K T r to):=by
 intro aa s σ H Q I h;refine wpAny_Call_method0_late n8 oa (aT (ho aa s σ H _ I h) λv s1 ⟨x,H1,I1,r1,ty,q1⟩=>?_);obtain⟨h1,h2⟩:=Lo I1 r1 ty;exact⟨T,id,pa,slot,uq,h1,h2,Calls.callWith_builtin rfl (PySem.evalArgs_none (hm aa s1 σ H1 x [] v [] Q I1 r1 .nil q1))⟩
def jK(pa:PlainAttrs T)(slot:Slot T name id)(uq:typeOf (.builtin id)=pure (.type "method_descriptor"))(hm:pR X id r)(ho:PE X o to)(ha:PA X (e::es) t)(n8:attributeBase o name X.env (eval o X.env)=eval o X.env:=by rfl)(ur:((backTo dW (starEach (e::es) X.env)).all (λx=>(Bool.not (x.1))) && (backToKw dW (keywordEach [] X.env)).all (λx=>x.1.isSome)
   && decide ((e::es)⁻¹+([]:List Keyword)⁻¹+(if([]:List Keyword).isEmpty then 0 else 1)<30))=true:=by rfl)(oa:(kH.endLine == dW.line)=true:=by rfl)(hs:starEach (e::es) X.env=(false,eval e X.env)::starEach es X.env:=by rfl)(uu:(backTo dW (starEach es X.env)).any (·.1)=false:=by rfl) :
  PE X (.Call (.Attribute o name kH) (e::es) [] dW) (D0 X.K T r to t):=by
 intro aa s σ H Q I h;show wpAny_Call_method_late n8 ur oa O (aT (ho aa s σ H _ I h) λv s1 ⟨x,H1,I1,r1,ty,q1⟩=>?_);let⟨h1,h2⟩:=Lo I1 r1 ty;show⟨T,id,pa,slot,uq,h1,h2,?_⟩;let hA:=ha dW aa s1 σ H1 _ I1 q1;rw[hs]at hA⊢;show Calls.callWith_builtin (by show(false || (backTo dW (starEach es X.env)).any (·.1))=false;rw[uu]<;>rfl) (Calls.evalArgs_plain ?_);show aT hA λus s2 ⟨vs,H2,I2,r2,q2⟩=>hm aa s2 σ H2 x vs v us Q I2 r1 r2 q2
end
def A0(X:Cx)(id:String)(r:V->List V->Hp->VK->Prop):Prop :=
 ∀(aa:TF) (s:Shared) (σ:St) (H:Hp) (x:V) (xs:List V) (v:Value) (us:TU) (Q:VK),Inv X aa σ H s->RelV x v->Vals xs us->r x xs H Q ->
  wpAny (model X.prog X.w) X.A (call (.builtin id) (v::us)) (EP X aa σ Q) X.xe s
def Vals.one:∀{x:V} {us:TU},Vals [x] us->∃u,us=[u]/\RelV x u
 | _,_,.cons r .nil=>-⟨r⟩
def Vals.zero:∀{us:TU},Vals [] us->us=[]
 | _,.nil=>rfl
section
variable{X:Cx}{aa:TF}{σ:St}{H:Hp}{s:Shared}{l b:Addr}{xs ys zs:List V}
def Inv.lset{ah its':TU}{n:Nat}{f:Array Value->Array Value}{t':Nat}(I:Inv X aa σ H s)(hH:H l=!.lst xs)(e:s.heap.get? l=!{cls:=.type "list",data:=.seq ah.toArray n})(hf:f ah.toArray=its'.toArray)(hv:Vals ys its')(hz:ys⁻¹<=sizeLine) :
  Inv X aa σ (af H l (.lst ys)) {s with heap:=s.heap.update l (Obj.mapSeq f),toks:=t'}:=by
 let q:=IsL.update e f;rw[hf]at q;show I.write (x:=l) (e:=l) (by rw[hH];show trivial) (.inl O) (λb' u hb hu=>(yA s.heap (Obj.mapSeq f) (rV hb)).trans hu) ⟨_,q⟩ ?_;show⟨hz,its',_,hv,q⟩
def Inv.lnew{t':Nat}(I:Inv X aa σ H s)(hv:Vals ys ah)(hz:ys⁻¹<=sizeLine) :
  Inv X aa σ (af H (~~~s) (.lst ys)) {s with heap:=s.heap.push {cls:=.type "list",data:=.seq ah.toArray},toks:=t'} :=
 I.laid (λ_ _ q=>qE _ q) (qG _) ⟨hz,ah,0,hv,qR _ O⟩
def Inv.fresh(I:Inv X aa σ H s):H (~~~s)=none:=I.hok.fresh (qG _)
def Inv.lstM(I:Inv X aa σ H s)(hH:H l=!.lst xs):xs⁻¹<=sizeLine/\∃(ah:TU) (n:Nat),Vals xs ah/\xs⁻¹=ah⁻¹/\s.heap.get? l=!{cls:=.type "list",data:=.seq ah.toArray n}:=by
 let⟨z,ah,n,r,e⟩:=I.hok l _ hH;show⟨z,ah,n,r,r⁻¹,e⟩
def VP{n:Nat}(h:n<=sizeLine):Builtin.List.listTooLong n=false:=by
 unfold Builtin.List.listTooLong;show rB ()
end
section
variable{X:Cx}
inductive A8:V->List V->Hp->VK->Prop
|m l xs y:x=.ref l->vs=[y]->H l=!.lst xs->xs⁻¹<sizeLine->Q .non (af H l (.lst (xs++[y])))->A8 x vs H Q
def Lp:A0 X "list.append" A8:=by
 intro aa s σ H x vs v us Q I rx rv h;let⟨l,xs,y,rfl,rfl,hH,hz,q⟩:=h;cases rx;let⟨u,rfl,ru⟩:=rv.one;let⟨z,ah,n,r,hl,e⟩:=I.lstM hH;show vW F.slot_list_append ⟨_,e,O⟩ F.entry_list_append (F.args_list_append_2 _ _) (list_append l ah.toArray n u (by rw[qY];omega)) ⟨e,?_⟩;show⟨.non,_,I.lset (its':=ah++[u]) hH e ∅ (r.append (.cons ru .nil)) ?_,O,q⟩;rw[qI,uQ];omega
inductive Lq:V->List V->Hp->VK->Prop
|m l b xs zs:x=.ref l->vs=[.ref b]->H l=!.lst xs->H b=!.lst zs->xs⁻¹+zs⁻¹<=sizeLine->Q .non (af H l (.lst (xs++zs)))->Lq x vs H Q
def Lr:A0 X "list.extend" Lq:=by
 intro aa s σ H x vs v us Q I rx rv h;let⟨l,b,xs,zs,rfl,rfl,hH,hB,hz,q⟩:=h;cases rx;let⟨u,rfl,ru⟩:=rv.one;cases ru;let⟨z,ah,n,r,hl,e⟩:=I.lstM hH;let⟨z2,fG,n2,r2,fH,e2⟩:=I.lstM hB;let hsz:ah.toArray.size+fG.toArray.size<=sizeLine:=by rw[qY,qY];omega
 let VQ:¬((Bool.not (ah.toArray.isEmpty)) && Builtin.List.listTooLong (ah.toArray.size+fG.toArray.size))=true:=by
  rw[VP hsz,Bool.and_false];show qU
 show vW F.slot_list_extend ⟨_,e,O⟩ F.entry_list_extend (F.args_list_extend_2 _ _)
  (AutoSeq1.list_extend_list_list_0 l ah.toArray n b fG.toArray n2 VQ (by rw[qY];omega) ()) ⟨e,e2,?_⟩
 show⟨.non,_,I.lset (its':=ah++fG) hH e ∅ (r.append r2) ?_,O,q⟩;rw[qI];omega
inductive Ls:V->List V->Hp->VK->Prop
|m l xs:x=.ref l->vs=[]->H l=!.lst xs->Q .non (af H l (.lst []))->Ls x vs H Q
def VR:A0 X "list.clear" Ls:=by
 intro aa s σ H x vs v us Q I rx rv h;let⟨l,xs,rfl,rfl,hH,q⟩:=h;cases rx;let VS:=rv.zero;subst VS;let⟨z,ah,n,r,hl,e⟩:=I.lstM hH;show vW F.slot_list_clear ⟨_,e,O⟩ F.entry_list_clear (F.args_list_clear_1 _) (AutoSeq1.list_clear_list_0 l ah.toArray n (by rw[qY];omega)) ⟨e,?_⟩;show⟨.non,_,I.lset (its':=[]) (ys:=[]) hH e O .nil (rL _),O,q⟩
inductive Lu:V->V->Hp->VK->Prop
|m l b xs zs:x=.ref l->y=.ref b->H l=!.lst xs->H b=!.lst zs->xs⁻¹+zs⁻¹<=sizeLine->(∀p,H p=none->Q (.ref p) (af H p (.lst (xs++zs))))->Lu x y H Q
def kM:cf X (binaryOp .Add) Lu:=by
 intro aa s σ H x y v u Q I rx ry h;let⟨l,b,xs,zs,rfl,rfl,hH,hB,hz,q⟩:=h;cases rx;cases ry;let⟨z,ah,n,r,hl,e⟩:=I.lstM hH;let⟨z2,fG,n2,r2,fH,e2⟩:=I.lstM hB;show P.add_list e e2 ?_ (by rw[qY,qY];omega);let ea:ah.toArray++fG.toArray=(ah++fG).toArray:=∅
 rw[ea];show⟨.ref _,_,I.lnew (t':=s.toks) (r.append r2) (by rw[qI];omega),O,q _ I.fresh⟩
end
end L2
namespace Att
open PySem.W PySem.Calls PyProof.Rows
def VT:∀(ns:TN) (vs:TU),WellAll P h vs (ns.map WData.int)->IntsAre vs ns:=by
 intro ns
 induction ns with
 | nil =>
   intro vs w
   rw[List.map_nil]at w
   cases w
   show .nil
 | cons n ns ih =>
   intro vs w
   rw[xY]at w
   cases w with
   | cons a b =>
     cases a
     show .cons _ _ (ih _ b)
def VU{l:OpenLaw}{n:Nat}(hn:l.most=!n){P:Params}{h:Heap}{args:List WData}{D1:TU}(kN:l.row.toRowW.claim.pre args=true)(D3:WellAll P h D1 args) :
  ∃a vs ns,D1=[Value.ref a]/\args=[WData.list (ns.map WData.int)]/\h.get? a=!{cls:=.type "list",data:=.seq vs.toArray}/\IntsAre vs ns/\ns⁻¹<=n:=by
 let VV:WShape.hasAll [] args [.list .int]=true:=(pre_splitW kN).1;let hc:l.pre.holds [] {args:=args}=true:=(pre_splitW kN).2;let⟨d,r,rfl,h1,h2⟩:=hasAllW_cons VV;obtain rfl:=hasAllW_nil h2;let⟨xs,rfl,h3⟩:=hasW_list h1;let⟨ns,rfl⟩:=items_int h3;let bK:ns⁻¹<=n:=by
  unfold OpenLaw.pre at hc;let h4:(WTm.not (.lt (.lit (.int (n:Int))) (.len (.arg 0)))).holds [] {args:=[.list (ns.map .int)]}=true:=by
   let h4:=(holds_andW hc).1;rw[hn]at h4;show h4
  let h5:=condW_of h4 (w_not (w_lt w_lit (w_len_list (w_arg O))));rw[qA]at h5;show xW λq=>?_
  let q':(n:Int)<((ns⁻¹:Nat):Int):=()
  first
   | (rw[qQ q']at h5;show qT h5 {})
   | (simp at h5;omega)
 cases D3 with
 | cons w1 w2 =>
   cases w2
   cases w1 with
   | list ho VW=>show⟨_,_,ns,O,O,ho,VT ns _ VW,bK⟩
def VX(l:OpenLaw)(args:List WData):l.row.toRowW.claim.post args (.bool true) args=true :=
 postW_of (r:=l.row.toRowW) (X:=(true == true))
  (show WShape.has [] (.bool true) .bool=true by first | rfl | decide | simp[WShape.has,WShape.arms,WShape.armsAll])
  (show(WTm.eq .res (.lit (.bool true))).value [] {args:=args,res:=!.bool true,after:=args}=!.bool (true == true)from w_eq_bool (w_res O) w_lit) O
theorem attach_call{l:OpenLaw}{n:Nat}{q:Program}{pV:List Str}{XP:(Str->Option Value)->Heap->Prop}{YP:World->Heap->Prop}{d:DefRec}(hn:l.most=some n)(uv:d.params.defaults=[])(call:∀(w:World) (s₀ be:Shared) (mg mb:Str->Option Value) (fa:Addr) (o:Obj) (pm cd bq:Value) (a:Addr) (vs:List Value) (ns:List Int),
   Ground q pV [] XP w s₀ mg mb be.heap->YP w be.heap ->
   be.heap.get? fa=some o->o.data=.func (docDef d.name d.params d.body d.scope pm cd bq)->be.heap.CodeRec cd d.name->mg d.name=some (.ref fa) ->
   be.heap.get? a=some {cls:=.type "list",data:=.seq vs.toArray}->IntsAre vs ns->ns.length<=n->be.gens=#[] ->
   codeAny (model l.prog w) callerA (.call (.ref fa) ⟨[.ref a],[]⟩) (λr s'=>r=.ok (.ret (.bool true))/\OldK be.heap s'.heap/\s'.os=be.os/\AllBare s'.gens) be) :
  WalkO q pV XP YP l.row.toRowW d [] (λf vs=>PySem.call f vs):=by
 intro w s₀ be mg mb G Y fa o pm cd bq dV kV ho hd fO hD uy hg args D1 as kN hlay hrd D3 og;obtain rfl:dV=.none:=Dflts.none hD uv;obtain rfl:kV=.none:=Dflts.noKw hD;obtain⟨a,vs,ns,rfl,rfl,D4,D5,bK⟩:=VU hn kN D3;refine enter_call (uT (call w s₀ be mg mb fa o pm cd bq a vs ns G Y ho (fd_plain hd) fO uy D4 D5 bK hg) λr s' hq=>?_);obtain⟨rfl,h2,h3,h4⟩:=hq;exact⟨.inl ⟨.bool true,.bool true,[],rfl,λ_=>rfl,.bool true,VX l _,λ_=>⟨List.Pairwise.nil,λ_ hm=>(nomatch hm)⟩⟩,h2,h3,h4⟩
end Att
namespace L2
open PyProof.Rows
theorem Lw:∀{vs:TU} {ns:TN},IntsAre vs ns->Vals ⇑ns vs
 | _,_,.nil=>.nil
 | _,_,.cons n t h=>.cons ⟨t,O⟩ (Lw h)
def dh(s:Stmt):Arguments:=match s with
 | .FunctionDef _ a _ _ _ _ _ _ _ _=>a
 | _=>{posonlyargs:=[],args:=[],vararg:=none,kwonlyargs:=[],kw_defaults:=[],kwarg:=none,defaults:=[]}
def cr(s:Stmt):List Stmt:=match s with
 | .FunctionDef _ _ b _ _ _ _ _ _ _=>b
 | _=>[]
def bH(s:Stmt):Scope:=match s with
 | .FunctionDef _ _ _ _ _ _ sc _ _ _=>sc
 | _=>{kind:=.function,names:=[],isGenerator:=false,isCoroutine:=false}
abbrev am:dg:=λ_ _ _ _ _ _=>False
abbrev E0:XK:=λ_ _ _=>False
def D6:ua am X E0:=λ_ _ _ _ _ _ _ h=>h.elim
structure Fun(K:W.Frag)(x qual:Str)(st:Stmt)(f:Addr)(fd:FuncData):Prop where
 ex:∃(oc:Value) (od:Option Addr) (kV bq pm:Value) (an:Option Addr) (aB ct:Value) (fF:Array (Option Value)),
  fd=W.fnOf x qual (dh st) (cr st) (bH st) .none kV bq pm an aB ct/\K.lookup f=!⟨oc,od,.func fd,fF⟩/\W.codeIn K aB qual=true
 kp:W.keepIn K (.ref f)=true
section
variable{P:Program}{w:World}{K:W.Frag}{mg:TJ}{base:Heap}
def Fun.ok{x qual:Str}{st:Stmt}{f:Addr}{fd:FuncData}{N ps:TV}{k:Nat}{sp:Sp}(F:Fun K x qual st f fd)(S:nX N ps (bH st))(len:∀vs H Q E,sp vs H Q E->vs⁻¹=ps⁻¹)(kI:∀(aB:Value) (A:Around) (outer:List Env) (s:Shared) (H:Hp) (vs:List V) (Q:VK) (E:XK),Room k (A.deeper (envOfC qual (bH st) (~~~s) f aB))->sp vs H Q E ->
   ∃t,PSs (fQ am P w K mg base N qual (bH st) f aB A outer s H E).nox (cr st) t/\t {nx:=λ_ H'=>Q .non H',rt:=Q} (start N vs) H):aN P w K mg base am (k+1) f fd ps sp:=by
 let⟨oc,od,kV,bq,pm,an,aB,ct,fF,rfl,lk,fO⟩:=F.ex;show DT lk fO S len λA outer s H vs Q E hr eP=>?_
 let⟨t,h,q⟩:=kI aB A outer s H vs Q E hr eP;show⟨t,h.nox,q⟩
def Fun.binds{x qual:Str}{st:Stmt}{f:Addr}{fd:FuncData}{ps:TV}(F:Fun K x qual st f fd)(h:∀(kV bq pm:Value) (an:Option Addr) (aB ct:Value) (us:TU),us⁻¹=ps⁻¹->bindArgs (W.fnOf x qual (dh st) (cr st) (bH st) .none kV bq pm an aB ct) ⟨us,[]⟩=pure (ps.zip us)):Binds K fd ps []:=by
 let⟨oc,od,kV,bq,pm,an,aB,ct,fF,rfl,lk,fO⟩:=F.ex;show .all (h kV bq pm an aB ct)
def Ly{x qual:Str}{st:Stmt}{f:Addr}{oc:Value}{od an:Option Addr}{fF:Array (Option Value)}{kV bq pm aB ct:Value}(l:K.lookup f=!⟨oc,od,.func (W.fnOf x qual (dh st) (cr st) (bH st) .none kV bq pm an aB ct),fF⟩)(c:W.codeIn K aB qual=true)(k:W.keepIn K (.ref f)=true):Fun K x qual st f (W.fnOf x qual (dh st) (cr st) (bH st) .none kV bq pm an aB ct):=⟨⟨oc,od,kV,bq,pm,an,aB,ct,fF,O,l,c⟩,k⟩
end
def Lz{k:Nat}(hr:Room k A):A.units+1<cLine:=yB (Nat.add_le_add_left (by decide:1<=64) _) hr.units
def aR{n:Nat}(h:n<=1000):n<sizeLine:=yB h {}
section
variable{X:Cx}
def pv(i:Nat)(hN:X.N[i]?=!x:=by rfl)(hv:pH X.env.scope x:=by first | show Or.inl rfl | show Or.inr (Or.inl rfl) | show Or.inr (Or.inr rfl))(hd:(x == ("__debug__" : Str))=false:=by decide)(fO:(x == ("__classdict__" : Str))=false:=by decide):PE X (.Name x pos) (jE i):=UK hN hv hd fO
end
def ba{A B:Prop}(h:B):if false=true then A else B:=by
 rw[qX qU];show h
def bL{A B:Prop}(h:A):if true=true then A else B:=by
 rw[qZ O];show h
def fT{p q A B:Prop}{i:Decidable p}{j:Decidable q}(e:decide p=decide q)(hq:q)(h:A):if decide p=true then A else B:=by
 rw[e,qZ (qQ hq)];show h
def fU{p q A B:Prop}{i:Decidable p}{j:Decidable q}(e:decide p=decide q)(hq:¬q)(h:B):if decide p=true then A else B:=by
 rw[e,rB hq,qX qU];show h
def gP{p A B:Prop}{i:Decidable p}(hq:p)(h:A):if decide p=true then A else B:=fT O hq h
def iH{p A B:Prop}{i:Decidable p}(hq:¬p)(h:B):if decide p=true then A else B:=fU O hq h
def cp{c A B:Prop}[Decidable c](h1:c->A)(h2:¬c->B):if c then A else B:=by
 by_cases h:c
 .rw[qZ h];show h1 h
 .rw[qX h];show h2 h
def Same(H H':Hp):=∀b o,H b=!o->H' b=!o
def Same.refl(H:Hp):Same H H:=λ_ _ h=>h
def Same.trans(a:Same H H1)(b:Same H1 H2):Same H H2:=λc o h=>b c o (a c o h)
def Same.free(e:Same H H')(h:H' l=Option.none):H l=Option.none:=by
 cases q:H l with
 | none=>rfl
 | some o =>
   rw[e l o q]at h
   cases h
theorem Ba{β:Type}{c:β}:∀{l:List (Str×β)},l.lookup x=!c->(x,c)∈l
 | [],q=>by cases q
 | (k, v) :: r, q => by
   rw[uM]at q
   cases e:x == k with
   | true =>
     rw[e]at q
     have:x=k:=‹e›
     cases q
     rw[this]
     show rF
   | false =>
     rw[e]at q
     show qW _ (Ba q)
theorem LA{β:Type}{c:β}:∀{l:List (Str×β)},(x,c)∈l->∃c',l.lookup x=!c'
 | [],q=>nomatch q
 | (k, v) :: r, q => by
   rw[uM]
   cases e:x == k with
   | true=>show⟨v,O⟩
   | false =>
     rcases qN.mp q with z | z
     · have:x=k:=xJ Prod.fst z
       rw[this]at e
       simp at e
     · show LA z
theorem D7{env:Env}{f:Str×NameKind->List (Str×Addr)->Sem (ForInStep (List (Str×Addr)))}:∀(l:List (Str×NameKind)) (acc:List (Str×Addr)),
  (∀x∈l,x.2=.free->∃c,env.cells.lookup x.1=!c/\∀r,f x r=pure (.yield ((x.1,c)::r)))->(∀x∈l,x.2≠.free->∀r,f x r=pure (.yield r)) ->
  ∃cl,forIn l acc f=pure cl/\(∀p∈acc,p∈cl)/\(∀p∈cl,p∈acc\/env.cells.lookup p.1=!p.2)/\∀x,(x,NameKind.free)∈l->∃c,(x,c)∈cl
 | [],acc,_,_=>⟨acc,O,λ_ q=>q,λ_ q=>.inl q,λ_ q=>nomatch q⟩
 | x :: l, acc, h1, h2 => by
   by_cases hx:x.2=.free
   · obtain⟨c,e,hf⟩:=h1 x rF hx
     let⟨cl,q1,q2,q3,q4⟩:=D7 l ((x.1,c)::acc) (λy hy=>h1 y (qW _ hy)) λy hy=>h2 y (qW _ hy)
     show⟨cl,?_,λp hp=>q2 p (qW _ hp),λp hp=>?_,λy hy=>?_⟩
     · rw[List.forIn_cons,hf,pure_bind]
       show q1
     · rcases q3 p hp with z | z
       · rcases qN.mp z with z | z
         · subst z;show .inr e
         · show .inl z
       · show .inr z
     · rcases qN.mp hy with z | z
       · show⟨c,by have:=q2 _ (rF (a:=(x.1,c)) (l:=acc));rw[<-z]at this;show this⟩
       · show q4 y z
   · obtain⟨cl,q1,q2,q3,q4⟩:=D7 l acc (λy hy=>h1 y (qW _ hy)) λy hy=>h2 y (qW _ hy)
     show⟨cl,?_,q2,q3,λy hy=>?_⟩
     · rw[List.forIn_cons,h2 x rF hx,pure_bind]
       show q1
     · rcases qN.mp hy with z | z
       · show qT (by rw[<-z]) hx
       · show q4 y z
def LB{scope:Scope}{env:Env}(h:∀ x∈scope.names,x.2=.free->∃ c,env.cells.lookup x.1=!c) :
  ∃ cl,closureFor scope env=pure cl/\(∀ x c,cl.lookup x=!c->env.cells.lookup x=!c)/\∀ x,(x,NameKind.free)∈scope.names->∃ c,cl.lookup x=!c:=by
 let key:∀ f:Str × NameKind->List (Str × Addr)->Sem (ForInStep (List (Str × Addr))),(∀ x∈scope.names,x.2=.free->∃ c,env.cells.lookup x.1=!c/\∀ r,f x r=pure (.yield ((x.1,c) :: r)))->(∀ x∈scope.names,x.2≠.free->∀ r,f x r=pure (.yield r)) ->
   closureFor scope env=forIn scope.names [] f ->
   ∃ cl,closureFor scope env=pure cl/\(∀ x c,cl.lookup x=!c->env.cells.lookup x=!c)/\∀ x,(x,NameKind.free)∈scope.names->∃ c,cl.lookup x=!c:=by
  intro f h1 h2 e
  let⟨cl,q1,_,q3,q4⟩:=D7 (env:=env) (f:=f) scope.names [] h1 h2
  show ⟨cl,e.trans q1,λx c z=>?_,λx hx=>?_⟩
  .rcases q3 (x,c) (Ba z) with k | k
   .show nomatch k
   .show k
  .let⟨c,z⟩:=q4 x hx
   show LA z
 show key (λx r=>if x.2 == .free then (do let c <- cellOf env x.1; pure (.yield ((x.1,c) :: r))) else pure (.yield r)) (λx hx hf=>?_) (λx hx hf r=>?_) ?_
 .let⟨c,e⟩:=h x hx hf
  show ⟨c,e,λr=>?_⟩
  let hk:(x.2 == NameKind.free)=true:=by rw [hf]; rfl
  simp only [hk,if_true,cellOf,e,pure_bind]
 .let hk:(x.2 == NameKind.free)=false:=by
   cases q:x.2 == NameKind.free with
   | false=>rfl
   | true=>show qT ‹q› hf
  simp only [hk,Bool.false_eq_true,if_false]
 .simp only [closureFor]
  rw [bind_pure]
def bY(X:Cx)(N':TV)(scope:Scope)(cl:List (Str×Addr))(C:Addr)(nR:Shared)(VY:Hp)(fp:TQ):Cx :=
 {X with N:=N',s₀:=nR,H₀:=VY,env:=compEnvC scope cl C X.env,outer:=X.stack,ex:=fp,fn:=λ_=>false,pn:=[],xe:=λ_ _=>False}
def iI(own:Nat)(ix:TM)(σ:St):St:=List.replicate own none++ix.map λj=>(σ[j]?).join
def pW(own:Nat)(ix:TM)(g:TG)(tt:TT)(te:TE)(J:It)(σ:St)(H:Hp)(Q:VK):Prop :=
 ∃W:Nat->Nat->List V->St->Hp->Prop,(∃m,W 0 m [] (iI own ix σ) H) /\
  ∀i m ys ae H',W i m ys ae H'->ys⁻¹<=i->ys⁻¹<sizeLine /\
   ((J.stop i H'/\∀ D,H' D=none->Q (.ref D) (af H' D (.lst ys))) \/
    (J.go i H'/\∃N:List V->St->Hp->Prop,(∀zs aY H2,N zs aY H2->∃m',m'<m/\W (i+1) m' zs aY H2)/\∀x H2,J.yld i H' x H2->g x ae H2 λaY H3=>tt aY H3 λb H4 =>
       if b=true then te aY H4 λv H5=>N (ys++[v]) aY H5 else N ys aY H4))
def Bb(own:Nat)(ix:TM)(wi:TI)(g:TG)(tt:TT)(te:TE):TE:=λσ H Q=>wi σ H λJ H1=>pW own ix g tt te J σ H1 Q
def LC(dt:TW)(env:Env):Sem Bool :=
 forIn dt true λc r=>if r=true then do let ok <- isTrue c env (eval c env); pure (ForInStep.yield ok) else pure (ForInStep.yield r)
def oh(X:Cx)(dt:TW)(t:TT):Prop :=
 ∀(aa:TF) (s:Shared) (σ:St) (H:Hp) (Q:Bool->Hp->Prop),Inv X aa σ H s->t σ H Q->wpAny (model X.prog X.w) X.A (LC dt X.env) (TP X aa σ Q) X.xe s
def VZ:TT:=λ_ H Q=>Q true H
def bj:oh X [] VZ:=λ_ _ _ H _ I h=>wpAny_tests_nil ⟨H,I,h⟩
def iJ(h:PT X c t):oh X [c] t:=λaa s σ H Q I q=>wpAny_tests_one (h aa s σ H Q I q)
def V0{R:Result->Shared->Prop}(J:Nat->Shared->Prop)(turn:∀ n s,J n s->wpAny (model prog w) A (pyNext it) (λr s1=>match r with
   | none=>R (.ok .next) s1
   | some v=>wpAny (model prog w) A (letOwnedTupleGo tg it v) (λ_ s2=>wpAny (model prog w) A (assign tg env v) (λ_ s3=>wpAny (model prog w) A (LC dt env) (λok s4 =>
     if ok=true then wpAny (model prog w) A (eval dE env) (λx s5=>wpAny (model prog w) A (call (.builtin "list.append") [acc,x]) (λ_ s6=>∃ m,m < n/\J m s6) (λ_ _=>False) s5) (λ_ _=>False) s4
     else ∃ m,m < n/\J m s4) (λ_ _=>False) s3) (λ_ _=>False) s2) (λ_ _=>False) s1) (λ_ _=>False) s)(n:Nat)(h:J n s):codeAny (model prog w) A (.compLoop (.ListComp dE [⟨tg,iter,dt,0⟩] scope pos) 0 it acc env) R s:=by
 show codeAny_loop O J (λn s hI=>?_) n h
 show wpAny (model prog w) A ((compTurn (.ListComp dE [⟨tg,iter,dt,0⟩] scope pos) 0 it acc env).onRaise (λz=>do noteFrame z env; theTreesLotGoes z)) _ _ s
 show wpAny_noted ?_
 rw [compTurn_list]
 show qC (v6 (qC (xN (turn n s hI) (λr s1 q1=>?_) λ_ _ z=>z.elim)))
 cases r with
 | none=>show qM q1
 | some v =>
   show qC (xN q1 (λ_ s2 q2=>?_) λ_ _ z=>z.elim)
   show qC (xN q2 (λ_ s3 q3=>?_) λ_ _ z=>z.elim)
   show qC (xN q3 (λok s4 q4=>?_) λ_ _ z=>z.elim)
   cases ok with
   | false=>show qM ⟨O,q4⟩
   | true =>
     show qC (qC (xN q4 (λx s5 q5=>?_) λ_ _ z=>z.elim))
     show qC (xN q5 (λ_ s6 q6=>qM (qM ⟨O,q6⟩)) λ_ _ z=>z.elim)
section
variable{fs ex:TQ}{H H1:Hp}{h h1:Heap}{D:Addr}{o:HO}
def Un.track(u:Un fs ex H H1 h h1)(hD:h.objs.size<=D)(n0:H D=none):Un fs ex H (af H1 D o) h h1 where
 keep:=u.keep
 slot:=u.slot
 free:=λb ob q n hx=>by rw[aF (rC (rA (qK q) hD))];show u.free b ob q n hx
 there:=u.there
 tups:=λb xs q=>by rw[aF (cB q n0)];show u.tups b xs q
 frzs:=λb ob xs q=>by rw[aF (cB q n0)];show u.frzs b ob xs q
 tbls:=λb ps q=>by rw[aF (cB q n0)];show u.tbls b ps q
def HOk.track(x:HOk P w H h)(n0:H D=none)(new:ObjOk P w (af H D o) h D o):HOk P w (af H D o) h:=λa u e=>by
 by_cases z:a=D
 .subst z;rw[aj]at e;cases e;show new
 .rw[aF z]at e;show(x a u e).stay (λ_ _ _ q=>q) (λb q=>by rw[aF (cB q n0)];show q) λb xs q=>by rw[aF (cB q n0)];show q
end
abbrev lobj(ah:TU)(n:Nat):Obj:={cls:=.type "list",data:=.seq ah.toArray n}
def Inv.letgo{aa:TF}(I:Inv X aa σ H s)(f:iD X aa H C)(hs:Heap.SameBut C s.heap h'):Inv X aa σ H {s with heap:=h'} :=
 I.turned (t':=s.toks) (it:=C) (λb o hb e=>(hs.2 b hb).trans e) f.1 f.2.1 f.2.2.2.1 f.2.2.2.2.1 f.2.2.2.2.2
def LD(h:(relabel scope env).names.lookup x=!k):∃k0,(x,k0)∈scope.names/\(k0=k\/(k0=.free/\k=.cell)):=by
 let m:=Ba h;let⟨⟨n,k0⟩,h1,h2⟩:=qO.mp (show(x,k)∈scope.names.map _ from m);dsimp only at h2
 by_cases c:(k0 == NameKind.free && env.scope.kind == .function && env.kindOf n == !.cell)=true
 .rw[qZ c]at h2;let⟨rfl,rfl⟩:=Prod.mk.inj h2;show⟨k0,h1,.inr ⟨?_,O⟩⟩;rw[uC,uC]at c;simpa using c.1.1
 .rw[qX c]at h2;let⟨rfl,rfl⟩:=Prod.mk.inj h2;show⟨k0,h1,.inl O⟩
def V1(h:scope.names.lookup x=!.free):(relabel scope env).names.lookup x=!.free\/(relabel scope env).names.lookup x=!.cell:=by
 have all:∀(l:List (Str×NameKind)),l.lookup x=!.free ->
   (l.map λ(n,k)=>if(k == NameKind.free && env.scope.kind == .function && env.kindOf n == !.cell)then(n,NameKind.cell)else(n,k)).lookup x=!.free \/
   (l.map λ(n,k)=>if(k == NameKind.free && env.scope.kind == .function && env.kindOf n == !.cell)then(n,NameKind.cell)else(n,k)).lookup x=!.cell:=by
  intro l
  induction l with
  | nil=>intro q;cases q
  | cons y r ih =>
    let⟨n,k⟩:=y
    intro q
    rw[uM]at q
    rw[xY]
    cases hx:x == n with
    | true =>
      rw[hx]at q
      cases q
      dsimp only
      split
      · right;rw[uM,hx]
      · left;rw[uM,hx]
    | false =>
      rw[hx]at q
      dsimp only
      split
      · rw[uM,hx];show ih q
      · rw[uM,hx];show ih q
 show all scope.names h
section
variable{X:Cx}{dE tg iter:Expr}{dt:TW}{scope:Scope}{pos:Pos}{g:TG}{tt:TT}{te:TE}{N' own frees:TV}{ix:TM}{aa:TF}{σ:St}{H2:Hp}{s2:Shared}{it:Addr}{fp:TQ}{tn:Nat->Heap->Prop}{J:It}{cl:List (Str×Addr)}{E:TH}
structure CompScope(X:Cx)(scope:Scope)(own frees:TV)(ix:TM):Prop where
 kind:scope.kind=.function
 nocell:∀y∈scope.names,y.2≠.cell
 loc:∀y∈scope.names,y.2=.local->scope.names.lookup y.1=!.local
 fr:∀y∈scope.names,y.2=.free->X.env.scope.names.lookup y.1=!.cell\/X.env.scope.names.lookup y.1=!.free
 ixs:ix.map (λj=>X.N[j]?)=frees.map some
 isf:∀x∈frees,scope.names.lookup x=!.free
def V2(S:CompScope X scope own frees ix)(I:Inv X aa σ H2 s2)(gt:∀x c,cl.lookup x=!c->X.env.cells.lookup x=!c)(mw:∀x,(x,NameKind.free)∈scope.names->∃c,cl.lookup x=!c)(T:jJ X.prog X.w X.K tg J fp it tn)(st:tn 0 s2.heap)(f2:∀b∈fp,iD X aa H2 b)(hC: ~~~s2<=C):(bY X N' scope cl C s2 H2 fp).Ok:=by
 let lt:∀b∈fp,b< ~~~s2:=λb hb=>by
  let⟨o,e,_⟩:=T.obj 0 _ st b hb;show qK e
 show⟨I.ok.mod,S.kind,I.ok.glob,I.ok.blt,hC,λx y c h1 h2=>I.ok.inj x y c (gt x c h1) (gt y c h2),λx hx=>?_,(λx c q=>nomatch q),I.ok.hd,I.ok.frames,.inl O,λb hb=>?_,I.bs,rK I.ok.bsz I.sz,λb o e hb=>?_,λb hb z=>?_,I.stack,I.stkFree⟩
 .have Bc:(relabel scope X.env).names.lookup x=!.cell\/(relabel scope X.env).names.lookup x=!.free:=hx;let fin:(x,NameKind.free)∈scope.names:=by
   rcases Bc with q | q
   .obtain⟨k0,m,z | ⟨z,_⟩⟩:=LD q
    .show qT z (S.nocell _ m)
    .rw[<-z];show m
   .obtain⟨k0,m,z | ⟨_,z⟩⟩:=LD q
    .rw[<-z];show m
    .cases z
  show mw x fin
 .show⟨rC (rA (lt b hb) hC),λx c e=>(f2 b hb).2.2.2.2.1 x c (gt x c e)⟩
 .let q:=(f2 b hb).2.2.2.1;rcases q with q | q
  .show I.ok.noex b o e q
  .show qT (rA (rA (qK e) I.ok.bsz) q) (rP _)
 .rcases qN.mp (I.stkSub b z)with q | q
  .show(f2 b hb).2.1 q
  .show(f2 b hb).2.2.1 q
def LF(hc:X.calm=true)(S:CompScope X scope own frees ix)(I:Inv X aa σ H2 s2)(gt:∀x c,cl.lookup x=!c->X.env.cells.lookup x=!c)(mw:∀x,(x,NameKind.free)∈scope.names->∃c,cl.lookup x=!c)(T:jJ X.prog X.w X.K tg J fp it tn)(st:tn 0 s2.heap)(f2:∀b∈fp,iD X aa H2 b)(hg:∀C,PG (bY X (own++frees) scope cl C s2 H2 fp) tg g)(ht:∀C,oh (bY X (own++frees) scope cl C s2 H2 fp) dt tt)(he:∀C,PE (bY X (own++frees) scope cl C s2 H2 fp) dE te){Q:VK}{W:Nat->Nat->List V->St->Hp->Prop}(w0:∃m,W 0 m [] (iI own⁻¹ ix σ) H2)(turn:∀i m ys ae H',W i m ys ae H'->ys⁻¹<=i->ys⁻¹<sizeLine /\
   ((J.stop i H'/\∀ D,H' D=none->Q (.ref D) (af H' D (.lst ys))) \/
    (J.go i H'/\∃N:List V->St->Hp->Prop,(∀zs aY H2,N zs aY H2->∃m',m'<m/\W (i+1) m' zs aY H2)/\∀x H2,J.yld i H' x H2->g x ae H2 λaY H3=>tt aY H3 λb H4 =>
       if b=true then te aY H4 λv H5=>N (ys++[v]) aY H5 else N ys aY H4))){RR:Value->Addr->Result->Shared->Prop}(oi:∀D C H' s' m,Inv X aa σ H' s'->iD X aa H' C->s'.heap.Ns C m->Q (.ref D) H'->RR (.ref D) C (.ok .next) s') :
  wpAny (model X.prog X.w) X.A (newList []) (λacc s3=>wpAny (model X.prog X.w) X.A (newFunctionEnv scope X.env.globals cl [] X.env.qual none .none (!X.env)) (λLG s4 =>
   codeAny (model X.prog X.w) X.A (.compStart (.ListComp dE [⟨tg,iter,dt,0⟩] scope pos) 0 (.ref it) acc {LG with scope:=relabel scope X.env}) (RR acc LG.locals) s4) E s3) E s2:=by
 let⟨m0,w0⟩:=w0;show yZ (wpAny_newFunctionEnv S.nocell (by intro y hy;simp at hy) (λh1 D8 Be=>?_) S.kind);dsimp only at D8 Be⊢;generalize eH:s2.heap.push {cls:=.type "list",dict:=none,data:=.seq ([]:TU).toArray}=G at D8 Be⊢;let LH:G.objs.size= ~~~s2+1:=by rw[<-eH,rM]
 let hC: ~~~s2<=G.objs.size:=by rw[LH];show yS _
 let D9: ~~~s2≠G.objs.size:=by rw[LH];show rC (rW _)
 let below:∀b,b< ~~~s2->b≠G.objs.size/\b≠~~~s2:=λb hb=>⟨rC (rA hb hC),rC hb⟩
 let old:∀b o,s2.heap.get? b=!o->h1.get? b=!o:=λb o e=>Be.extBut b o (below b (qK e)).1 (qE _ (eH ▸ qE _ e))
 let V3:h1.get? (~~~s2)=!lobj [] 0:=Be.extBut _ _ D9 (qE _ (eH ▸ qR _ O));let Ea:∀b∈fp,b< ~~~s2:=λb hb=>by
  let⟨o,e,_⟩:=T.obj 0 _ st b hb;show qK e
 let LJ:(bY X (own++frees) scope cl G.objs.size s2 H2 fp).Ok:=V2 S I gt mw T st f2 hC;let V4:∀x c,cl.lookup x=!c->c< ~~~s2:=λx c e=>by
  let⟨v,q⟩:=I.cell x c (gt x c e);show q.lt
 let V5:∀b,~~~s2<=b->b∉cX X.stack:=λb hb z=>by
  rcases qN.mp (I.stkSub b z)with q | q
  .show qT (rA I.lt (by rw[<-q];show hb)) (rP _)
  .show I.nofs hb q
 let V6:ix⁻¹=frees⁻¹:=by have:=xJ List.length S.ixs;simpa using this
 have I0:Inv (bY X (own++frees) scope cl G.objs.size s2 H2 fp) [(~~~s2,lobj [] 0)] (iI own⁻¹ ix σ) H2 {s2 with heap:=h1,toks:=s2.toks+([]:List (Str×Value))⁻¹}:=by
  let⟨m2,n2,l2⟩:=id I.loc;show⟨LJ,O,I.bare,Un.kept old,⟨_,D8,λi x v e1 e2 e3=>?_⟩,λx c e=>?_,I.hok.fresh hC,λx c e=>I.freeC x c (gt x c e),λp hp=>?_,I.hok.kept old,?_⟩
  .have e1:(own++frees)[i]?=!x:=e1
   by_cases hi:i<own⁻¹
   .unfold iI at e2;rw[rY ‹hi›,List.getElem?_replicate]at e2
    split at e2<;>cases e2
   .have bW:own⁻¹<=i:=xW hi;unfold iI at e2;rw[rG ‹bW›,xU,qJ]at e2;rw[rG bW]at e1;cases ej:ix[i-own⁻¹]? with
    | none=>rw[ej]at e2;cases e2
    | some j =>
      rw[ej]at e2
      let uz:(σ[j]?).join=!v:=rD e2
      let ev:σ[j]?=!!v:=by
        cases q:σ[j]? with
        | none=>rw[q]at uz;cases uz
        | some y=>rw[q]at uz;show xJ some uz
      let eN:X.N[j]?=!x:=by
        let q:=xJ (λl=>l[i-own⁻¹]?) S.ixs
        simp only[List.getElem?_map,ej,e1,Option.map_some]at q
        show rD q
      let xf:x∈frees:=qL e1
      let xm:(x,NameKind.free)∈scope.names:=Ba (S.isf x xf)
      let tO:pH X.env.scope x:=by
        rcases S.fr _ xm O with q | q
        · show .inr (.inl q)
        · show .inr (.inr q)
      let⟨u,r,lk⟩:=l2 j x v eN ev tO
      show⟨u,r,?_⟩
      rcases lk with⟨k,_⟩ | ⟨_,c,ec,z⟩
      · let k':X.env.scope.names.lookup x=!.local:=k
        rcases S.fr _ xm O with q | q
        · rw[k']at q;cases q
        · rw[k']at q;cases q
      · let⟨c',pX⟩:=mw x xm
        have:c=c':=rD (ec.symm.trans (gt x c' pX))
        subst this
        show .inr ⟨?_,c,pX,z.keeps old⟩
        rcases V1 (env:=X.env) (S.isf x xf)with q | q
        · show .inr q
        · show .inl q
  .let⟨v,z⟩:=I.cell x c (gt x c e);show⟨v,z.keeps old⟩
  .let fV:p=(~~~s2,lobj [] 0):=by simpa[bY]using hp
   subst fV;show⟨V3,I.hok.fresh (qG _),D9,V5 _ (qG _),λv q=>nomatch q⟩
  .show(iI own⁻¹ ix σ)⁻¹=(own++frees)⁻¹;unfold iI;rw[qI,xU,qA,qI,V6]
 let cO:tn 0 h1:=T.keep 0 _ _ st λb hb o e=>old b o e
 let nV:∀{H':Hp} {pl:TF},(∀b∈fp,H' b=none)->(∀p∈pl,~~~s2<=p.1)->∀b∈fp,iD (bY X (own++frees) scope cl G.objs.size s2 H2 fp) pl H' b:=λ{H' pl} hn hp b hb =>
  ⟨hn b hb,(below b (Ea b hb)).1,λz=>LJ.exfs b hb z,.inl hb,λx c e=>(f2 b hb).2.2.2.2.1 x c (gt x c e),λp q z=>by
   let q':p∈pl:=by simpa[bY]using q
   have:=hp p q';rw[z]at this;show qT (rA (Ea b hb) this) (rP _)⟩
 have loop:∀s3:Shared,s3={s2 with heap:=h1,toks:=s2.toks+([]:List (Str×Value))⁻¹} ->
   codeAny (model X.prog X.w) X.A (.compLoop (.ListComp dE [⟨tg,iter,dt,0⟩] scope pos) 0 (.ref it) (.ref (~~~s2)) (compEnvC scope cl G.objs.size X.env)) (RR (.ref (~~~s2)) G.objs.size) s3:=by
  ext s3 rfl;show V0 (λn s'=>∃i ys ae H' ah k,Inv (bY X (own++frees) scope cl G.objs.size s2 H2 fp) [(~~~s2,lobj ah k)] ae H' s'/\tn i s'.heap/\(∀b∈fp,H' b=none)/\Vals ys ah/\ys⁻¹<=i/\W i n ys ae H') ?_ m0
   ⟨0,[],_,H2,[],0,I0,cO,λb hb=>(f2 b hb).1,.nil,qG _,w0⟩
  ext n s4 ⟨i,ys,Bf,H4,ah,k,I4,LK,LL,rv,ly,w4⟩;let⟨hz,Eb⟩:=turn i n ys Bf H4 w4 ly;let big:∀p∈[(~~~s2,lobj ah k)],~~~s2<=p.1:=λp hp=>by
   have:p=(~~~s2,lobj ah k):=‹hp›
   rw[this];show qG _
  rcases Eb with⟨stop,fin⟩ | ⟨go,NN,gu,step⟩
  .show xN (T.done (bY X (own++frees) scope cl G.objs.size s2 H2 fp) O O O hc i _ s4 Bf H4 (λ_ _=>False) I4 (nV LL big) LK stop) (λr s5 q5=>?_) λ_ _ z=>z
   let⟨hr,I5⟩:=q5;subst hr;let pD:=I5.pin (~~~s2,lobj ah k) (rO _ rF);let⟨m5,n5,_⟩:=id I5.loc;let V7:HOk X.prog X.w (af H4 (~~~s2) (.lst ys)) s5.heap:=HOk.track I5.hok pD.2.1 ⟨rX hz,ah,k,rv,pD.1⟩;let un:Un (cX X.stack) fp H2 (af H4 (~~~s2) (.lst ys)) s2.heap s5.heap:=Un.track I5.base (qG _) (I.hok.fresh (qG _));let I6:Inv X aa σ (af H4 (~~~s2) (.lst ys)) s5:=I.call' (ch:=fp) I5.os un V7 I5.bare λb hb=>⟨(f2 b hb).2.2.2.1,(f2 b hb).2.1,(f2 b hb).2.2.2.2.1,(f2 b hb).2.2.2.2.2⟩
   show oi _ _ _ _ m5 I6 ?_ n5 (fin _ pD.2.1);show⟨?_,?_,?_,.inr (rK I.sz hC),λx c e z=>?_,λp hp z=>?_⟩
   .rw[aF (rV D9)];show I5.free
   .show yG (rA I.lt hC)
   .show I.nofs hC
   .let⟨v,q⟩:=I.cell x c e;show qT (rA q.lt (by rw[z];show hC)) (rP _)
   .show qT (rA (qK (I.pin p hp).1) (by rw[z];show hC)) (rP _)
  .refine xN (T.item (bY X (own++frees) scope cl G.objs.size s2 H2 fp) O O O hc i _ s4 Bf H4 (λ_ _=>False) I4 (nV LL big) LK go) (λr s5 q5=>?_) λ_ _ z=>z
   let⟨u,hr,q5⟩:=q5;subst hr;show xN q5 (λ_ s6 q6=>?_) λ_ _ z=>z
   let⟨x,H6,I6,r6,y6,va,V8⟩:=q6;let V9:=I6.pinned (nV V8 big) (T.obj _ _ va);show xN (hg _ _ s6 Bf H6 x u _ V9 r6 (step x H6 y6)) (λ_ s7 q7=>?_) λ_ _ z=>z
   let⟨dR,H7,I7,q7⟩:=q7;show xN (ht _ _ s7 dR H7 _ I7 q7) (λok s8 q8=>?_) λ_ _ z=>z
   let⟨H8,I8,q8⟩:=q8;cases ok with
   | false =>
     rw[qX qU]at q8⊢
     let⟨m',hm,w8⟩:=gu _ _ _ q8
     show⟨m',hm,i+1,ys,dR,H8,ah,k,I8.unpinned,T.keep _ _ _ va λb hb o e=>(I8.pin (b,o) (rO _ (rO _ (pO hb e)))).1,λb hb=>?_,rv,yT ly,w8⟩
     let⟨o,e,d⟩:=T.obj _ _ va b hb
     show(I8.pin (b,o) (rO _ (rO _ (pO hb e)))).2.1
   | true =>
     rw[qZ O]at q8⊢
     show xN (he _ _ s8 dR H8 _ I8 q8) (λv s9 q9=>?_) λ_ _ z=>z
     let⟨y,H9,I9,ry,q9⟩:=q9
     let⟨m',hm,w9⟩:=gu _ _ _ q9
     let pD:=I9.pin (~~~s2,lobj ah k) (rO _ (vE _ rF))
     let vc:=rv⁻¹
     show wpAny_list_append_plain (items:=ah.toArray) ⟨k,pD.1⟩ (λh' hp hs=>?_) (by rw[qY];omega)
     let⟨k',e'⟩:=hp
     let ne:∀b∈fp,b≠~~~s2:=λb hb=>(below b (Ea b hb)).2
     let I10:Inv (bY X (own++frees) scope cl G.objs.size s2 H2 fp) (nU fp s6.heap) dR H9 s9:=I9.pins_of λp hp=>I9.pin p (rO _ (rO _ hp))
     have I11:Inv (bY X (own++frees) scope cl G.objs.size s2 H2 fp) (nU fp s6.heap) dR H9 {s9 with heap:=h',toks:=s9.toks} :=
       I10.turned (it:= ~~~s2) (λb o hb e=>(hs.2 b hb).trans e) pD.2.1 pD.2.2.1 (.inr (qG _)) (λx c e z=>qT (V4 x c e) (by rw[z];show rP _)) λp hp z=>by
         let fV:p∈nU fp s6.heap:=by simpa[bY]using hp
         show ne p.1 (KF fV).1 z
     let V':h'.get? (~~~s2)=!lobj (ah++[v]) k':=by rw[e'];simp
     let Wa:Inv (bY X (own++frees) scope cl G.objs.size s2 H2 fp) [(~~~s2,lobj (ah++[v]) k')] dR H9 {s9 with heap:=h',toks:=s9.toks}:=I11.pins_of λp hp=>by
       have:p=(~~~s2,lobj (ah++[v]) k'):=‹hp›
       subst this
       show⟨V',pD.2.1,pD.2.2.1,pD.2.2.2.1,λv q=>nomatch q⟩
     show⟨m',hm,i+1,ys++[y],dR,H9,ah++[v],k',Wa,T.keep _ _ _ va λb hb o e=>(hs.2 b (ne b hb)).trans (I9.pin (b,o) (rO _ (rO _ (pO hb e)))).1,λb hb=>?_,rv.append (.cons ry .nil),by rw[qI];show yO ly,w9⟩
     let⟨o,e,d⟩:=T.obj _ _ va b hb
     show(I9.pin (b,o) (rO _ (rO _ (pO hb e)))).2.1
 show codeAny_compStart_list (loop _ O) (T.self _ 0 _ _ _ cO (loop _ O))
variable{wi:TI}
def Wb(hc:X.calm=true)(S:CompScope X scope own frees ix)(hi:PI X tg iter wi)(hg:∀cl C s2 H2 fp,PG (bY X (own++frees) scope cl C s2 H2 fp) tg g)(ht:∀cl C s2 H2 fp,oh (bY X (own++frees) scope cl C s2 H2 fp) dt tt)(he:∀cl C s2 H2 fp,PE (bY X (own++frees) scope cl C s2 H2 fp) dE te)(hs:∀x,foldedSetIterable iter X.env x=pure x:=by intro _;rfl) :
  PE X (.ListComp dE [⟨tg,iter,dt,0⟩] scope pos) (Bb own⁻¹ ix wi g tt te):=by
 intro aa s σ H Q I h;let⟨cl,eR,gt,mw⟩:=LB (scope:=scope) (env:=X.env) λx hx hf=>I.ok.has x.1 (S.fr x hx hf)
 rw[eval_ListComp];show wpAny_comprehension_free (use:=none) O hs eR S.kind S.loc ?_;show aT (hi aa s σ H _ I h) λv s1 h1=>aT h1 λAS s2 h2=>?_
 let⟨it,fp,tn,J,H2,e,I2,T,gn,f2,W,w0,turn⟩:=h2;subst e;show LF (Q:=Q) (RR:=λacc C=>compPost (model X.prog X.w) X.A X.xe none (EP X aa σ Q) acc C) hc S I2 gt mw T gn f2 (λC=>hg cl C s2 H2 fp) (λC=>ht cl C s2 H2 fp) (λC=>he cl C s2 H2 fp) w0 turn ?_;intro D C H' s' m I' fC nC q;show⟨m,nC,λh' bw=>⟨.ref D,H',I'.letgo fC bw,O,q⟩⟩
def Wc{i:Nat}(hc:X.calm=true)(hN:X.N.Nodup)(Ec:X.N[i]?=!y)(hy:Loc X.env.scope y)(S:CompScope X scope own frees ix)(hi:PI X tg iter wi)(hg:∀ cl C s2 H2 fp,PG (bY X (own++frees) scope cl C s2 H2 fp) tg g)(ht:∀ cl C s2 H2 fp,oh (bY X (own++frees) scope cl C s2 H2 fp) dt tt)(he:∀ cl C s2 H2 fp,PE (bY X (own++frees) scope cl C s2 H2 fp) dE te)(hf:X.fn y=true\/X.env.scope.names.lookup y=!.local:=by first | show .inl rfl | show .inr rfl | assumption)(Ed:swapsWith (.ListComp dE [⟨tg,iter,dt,0⟩] scope pos) (!.Name y py) Ee.line X.env=pure true:=by with_unfolding_all rfl)(hs:∀ x,foldedSetIterable iter X.env x=pure x:=by intro _; rfl) :
  PS X (.Assign [.Name y py] (.ListComp dE [⟨tg,iter,dt,0⟩] scope pos) Ee) (l6 (Bb own⁻¹ ix wi g tt te) (aZ i)):=by
 intro aa s σ H D I h
 let⟨cl,eR,gt,mw⟩:=LB (scope:=scope) (env:=X.env) λx hx hf=>I.ok.has x.1 (S.fr x hx hf)
 rw [exec_Assign_Name_used _ _ _ _ Ed]
 show qC (v6 (qC ?_))
 show wpAny (model X.prog X.w) X.A (do let _ <- comprehension (.ListComp dE [⟨tg,iter,dt,0⟩] scope pos) scope X.env _ (newList []) false (eval iter X.env) (!assign (.Name y py) X.env)) _ _ s
 show qC (xN (wpAny_comprehension_free (use:=!assign (.Name y py) X.env) (Q:=λ_ s'=>SP X aa D .next s') O hs eR S.kind S.loc ?_) (λ_ s' q=>qM (qM q)) λ_ _ z=>z)
 show aT (hi aa s σ H _ I h) λv s1 h1=>aT h1 λAS s2 h2=>?_
 let⟨it,fp,tn,J,H2,e,I2,T,gn,f2,W,w0,turn⟩:=h2
 subst e
 show LF (Q:=λv H'=>aZ i v σ H' D.nx) (RR:=λacc C=>compPost (model X.prog X.w) X.A X.xe (!assign (.Name y py) X.env) (λ_ s'=>SP X aa D .next s') acc C) hc S I2 gt mw T gn f2 (λC=>hg cl C s2 H2 fp) (λC=>ht cl C s2 H2 fp) (λC=>he cl C s2 H2 fp) w0 turn ?_
 intro L C H' s' m I' fC nC q
 show wpAny (model X.prog X.w) X.A (assign (.Name y py) X.env (.ref L)) _ _ _
 show wpAny_assign_Name (J0 (v:=.ref L) I' hN Ec hy O (λs3 I3 eJ=>?_) hf)
 let⟨a,sb,ha⟩:=eJ
 let We:C≠a:=by
  rcases ha with z | z
  .rw [z]; show fC.2.1
  .show λq=>fC.2.2.2.2.1 y a z q.symm
 show ⟨m,nC.sameBut sb We,λh' bw=>?_⟩
 show ⟨_,H',I3.letgo fC bw,q⟩
end
def bx{K:W.Frag}{a:Addr}{xs:List V}{own:Nat}{ix:TM}{g:TG}{tt:TT}{te:TE}{σ:St}{H:Hp}{Q:VK}(Pv:Nat->List V->St->Hp->Prop)(hz:xs⁻¹<sizeLine)(h0:Pv 0 [] (iI own ix σ) H)(hl:∀i ys ae H',i<=xs⁻¹->Pv i ys ae H'->SqL K H' a xs)(hs:∀i x ys ae H',xs[i]?=!x->Pv i ys ae H'->g x ae H' λaY H3=>tt aY H3 λb H4=>if b=true then te aY H4 λv H5=>Pv (i+1) (ys++[v]) aY H5 else Pv (i+1) ys aY H4)(hd:∀ys ae H',Pv xs⁻¹ ys ae H'->∀D,H' D=none->Q (.ref D) (af H' D (.lst ys))) :
  pW own ix g tt te (pN K a) σ H Q:=by
 show⟨λi m ys σ H=>m=xs⁻¹-i/\i<=xs⁻¹/\Pv i ys σ H,⟨xs⁻¹,∅,rL _,h0⟩,?_⟩;ext i m ys σ H ⟨rfl,hi,p⟩ hy;let q:=hl i ys σ H hi p;show⟨(),?_⟩
 by_cases aX:i<xs⁻¹
 .show .inr ⟨⟨xs,xs[i],q,by simp[aX]⟩,Pv (i+1),λzs ae H' p'=>⟨xs⁻¹-(i+1),(),O,aX,p'⟩,λx H' y=>?_⟩;let⟨e,y⟩:=y;subst e;show hs i x ys σ _ (y xs q) p
 .let e:i=xs⁻¹:=()
  subst e;show .inl ⟨⟨xs,q,qG _⟩,hd ys σ H p⟩
def ObjOk.at(x:ObjOk P w H h a o):∃u,h.get? a=!u:=by
 cases o with
 | lst xs=>let⟨_,_,_,_,e⟩:=x;show⟨_,e⟩
 | tup xs=>let⟨_,_,_,o,e,_⟩:=x;show⟨_,e⟩
 | dK ax=>let⟨_,_,_,_,o,_,_,e,_⟩:=x;show⟨_,e⟩
 | dT ax=>let⟨_,_,_,_,o,_,_,e,_⟩:=x;show⟨_,e⟩
 | set S n=>let⟨o,_,_,_,e,_⟩:=x;show⟨_,e⟩
 | ins C dx fs=>let⟨_,_,_,e,_⟩:=x;show⟨_,e⟩
 | own y=>show x
 | xd fs=>let⟨_,⟨_,_,_,e,_⟩,_⟩:=x;show⟨_,e⟩
 | rng lo hi=>let⟨_,_,_,e⟩:=x;show⟨_,e⟩
 | frz ob u=>let⟨e,_⟩:=x;show⟨_,e⟩
 | tbl ps=>show⟨_,x⟩
 | met f y=>show⟨_,x⟩
 | ext φ=>show x.2.1
section
variable{X:Cx}{aa:TF}{σ:St}{H:Hp}{s:Shared}{D:Addr}{o:HO}
def Inv.track(I:Inv X aa σ H s)(h0:X.s₀.heap.get? D=none)(hn:H D=none)(hL:D≠X.env.locals)(hc:∀x c,X.env.cells.lookup x=!c->c≠D)(hp:∀p∈X.pn++aa,p.1≠D)(new:ObjOk X.prog X.w (af H D o) s.heap D o):Inv X aa σ (af H D o) s:=by
 show⟨I.ok,I.os,I.bare,⟨I.base.keep,I.base.slot,λb ob q n hx=>?_,I.base.there,λb xs q=>?_,λb ob xs q=>?_,λb ps q=>?_⟩,I.loc,I.cell,?_,λx c e=>?_,λp z=>?_,HOk.track I.hok hn new,I.len⟩
 .rw[aF (λz=>by rw[z,h0]at q;cases q)];show I.base.free b ob q n hx
 .let r:=I.base.tups b xs q;rw[aF (λz=>by rw[z,hn]at r;cases r)];show r
 .let r:=I.base.frzs b ob xs q;rw[aF (λz=>by rw[z,hn]at r;cases r)];show r
 .let⟨more,r⟩:=I.base.tbls b ps q;show⟨more,by rw[aF (λz=>by rw[z,hn]at r;cases r)];show r⟩
 .rw[aF (rV hL)];show I.free
 .rw[aF (hc x c e)];show I.freeC x c e
 .let⟨q1,q2,q3,q4,q5⟩:=I.pin p z;show⟨q1,by rw[aF (hp p z)];show q2,q3,q4,q5⟩
end
mutual
inductive di(H:Hp):V->W.Dat->Prop
 | non:di H .non .none
 | int (i):di H (.int i) (.int i)
 | str (x):di H (.str x) (.str x)
 | tup {a xs ds}:H a=!.tup xs->DAll H xs ds->di H (.ref a) (.tuple ds)
 | lst {a xs ds}:H a=!.lst xs->DAll H xs ds->di H (.ref a) (.list ds)
inductive DAll(H:Hp):List V->List W.Dat->Prop
 | nil:DAll H [] []
 | cons {x d xs ds}:di H x d->DAll H xs ds->DAll H (x::xs) (d::ds)
end
section
variable{P:Program}{w:World}{H:Hp}{h:Heap}
mutual
theorem Ef(ok:HOk P w H h):∀{v:V} {d:W.Dat} {u:Value} (n:Nat),di H v d->RelV v u->W.kqdOk n d=true->∃as,Reads h u (W.kqdP d) as
 | _,_,_,_,.non,r,_=>by cases r;show⟨_,Reads.none⟩
 | _,_,_,_,.int i,r,_=>by let⟨t,rfl⟩:=r;show⟨_,Reads.int i t⟩
 | _,_,_,_,.str x,r,_=>by let⟨t,rfl⟩:=r;show⟨_,Reads.str x t⟩
 | _,_,_,0,.tup _ _,_,hk=>by simp[W.kqdOk]at hk
 | _,_,_,0,.lst _ _,_,hk=>by simp[W.kqdOk]at hk
 | _, _, _, n + 1, .tup (a := a) e q, r, hk => by
   cases r
   let⟨_,ah,rv,o,e1,e2,k,e3⟩:=ok a _ e
   let⟨as,z⟩:=Eg ok n q rv (by simpa[W.kqdOk]using hk)
   rw[W.kqdP]
   show⟨as,reads_tuple_at e1 e2 e3 ‹z›⟩
 | _, _, _, n + 1, .lst (a := a) e q, r, hk => by
   cases r
   let⟨_,ah,k,rv,e1⟩:=ok a _ e
   let⟨as,z⟩:=Eg ok n q rv (by simpa[W.kqdOk]using hk)
   rw[W.kqdP]
   show⟨_,reads_list_at e1 O O ‹z›⟩
theorem Eg(ok:HOk P w H h):∀{vs:List V} {ds:List W.Dat} {us:TU} (n:Nat),DAll H vs ds->Vals vs us->(∀d∈ds,W.kqdOk n d=true)->∃as,ReadsAll h us (W.kqdPs ds) as
 | _,_,_,_,.nil,r,_=>by cases r;show⟨_,ReadsAll.nil⟩
 | _, _, _, n, .cons q qs, r, hk => by
   cases r with
   | cons r1 r2 =>
     let⟨as,z⟩:=Ef ok n q r1 (hk _ (.head _))
     let⟨bs,y⟩:=Eg ok n qs r2 λd hd=>hk d (.tail _ hd)
     rw[W.kqdPs]
     show⟨_,ReadsAll.cons z y⟩
end
end
def Wf{n k:Nat}(h1:W.kqdOk n d=true)(h2:W.kqdOk k e=true)[Decidable (d=e)]:PyData.eqv (W.kqdP d) (W.kqdP e)=decide (d=e):=by
 let q:=W.kqd_eqv n d e k h1 h2
 by_cases z:d=e
 .rw[qQ z];show q.mpr z
 .rw[rB z];show Bool.eq_false_iff.mpr λx=>z (q.mp x)
def LN(h:W.kqdOk 9 d=true):SeqAt.shaped (W.kqdP d)=true:=by
 let q:=W.kqd_lay 9 d h;unfold SeqAt.shaped;rw[q.1,Bool.true_and];show qQ (rK q.2 {})
section
variable{X:Cx}
open Classical in
inductive LP(neg:Bool):V->V->Hp->VK->Prop
|m d e:di H x d->di H y e->W.kqdOk 9 d=true->W.kqdOk 9 e=true->Q (.bl (if neg=true then (Bool.not (decide (d=e)))else decide (d=e))) H->LP neg x y H Q
open Classical in
def Wg(hu:X.A.units+64<cLine):cf X (compareOp .NotEq) (LP true):=by
 intro aa s σ H x y v u Q I rx ry h;let⟨d,e,h1,h2,k1,k2,q⟩:=h;let⟨as,r1⟩:=Ef I.hok 9 h1 rx k1;let⟨bs,r2⟩:=Ef I.hok 9 h2 ry k2;show ne_dataH r1 r2 (LN k1) (LN k2) hu (cg I q (by rw[Wf k1 k2];simp))
def Wh(i j:Int):=0<j/\j<18446744073709551616
def pY:cf X (binaryOp .FloorDiv) (rI Wh λi j=>.int (i / j)):=tP λi j _ _ _ _ _ hc q=>by
 let h1:(0:Int)<j:=hc.1;let h2:j<18446744073709551616:=hc.2;show floordiv_int () ?_ (.inl (PyProof.noPylong_of_log2 ?_))
 .rw[Int.fdiv_eq_ediv_of_nonneg i ()];show q
 .let h3:j.natAbs<2 ^ 64:=()
  show rA ((Nat.log2_lt ()).mpr h3) {}
def Wi:dB X (.builtin "isinstance") (λxs H Q=>∃x c t b,xs=[x,c]/\gq X.K H x t/\(∃cv,(∀u,RelV c u->u=cv)/\W.kitOne X.K t cv=!b)/\Q (.bl b) H):=by
 intro aa s σ H xs us Q I r h;let⟨x,c,t,b,rfl,ty,⟨cv,Wj,e⟩,q⟩:=h;let⟨u,w',rfl,r1,r2⟩:=vals2 r;obtain rfl:=Wj _ r2;show Vx I r1 ty e λtk=>⟨.bl b,H,I.tok _,O,q⟩
end
end L2
namespace Bk
inductive Kd
 | body | case | shelf | grid | text | head | picture | aside | note | leaf | no
 deriving DecidableEq
def Kd.s:Kd->Str
 | .body=>s!"body"
 | .case=>s!"case"
 | .shelf=>s!"shelf"
 | .grid=>s!"grid"
 | .text=>s!"text"
 | .head=>s!"head"
 | .picture=>s!"picture"
 | .aside=>s!"aside"
 | .note=>s!"note"
 | .leaf=>s!"leaf"
 | .no=>s!""
abbrev Eh:List Kd:=[.body,.case,.shelf,.grid,.text,.head,.picture,.aside,.note,.leaf,.no]
def Kd.inj(a b:Kd):(a.s=b.s)=(a=b):=by
 let m:∀a,a∈Eh:=by intro a;cases a<;>ac_rfl
 show propext ⟨λh=>(show∀a∈Eh,∀b∈Eh,a.s=b.s->a=b by ac_rfl) a (m a) b (m b) h,λh=>by rw[h]⟩
inductive So
 | word | page | note | sign
 deriving DecidableEq
def So.s:So->Str
 | .word=>s!"word"
 | .page=>s!"page"
 | .note=>s!"note"
 | .sign=>s!"sign"
def So.inj(a b:So):(a.s=b.s)=(a=b):=by
 cases a<;>cases b<;>first | show propext ⟨λ_=>rfl,λ_=>rfl⟩ | show propext ⟨λh=>qT h (by ac_rfl),λh=>by cases h⟩
inductive Th
 | int (n:Int) | tri (s:So) (x:Sum Str Int) (t:Int)
structure Nd where
 e:Int
 k:Kd
 nm:Str
 mks:TV
 st:List Th
def pZ:TM:=[97,98,99,100,101,102,103,104,105,106,107,108,109,110,111,112,113,114,115,116,117,118,119,120,121,122,
 65,66,67,68,69,70,71,72,73,74,75,76,77,78,79,80,81,82,83,84,85,86,87,88,89,90,48,49,50,51,52,53,54,55,56,57,46,44,45,59,58,39,40,41,33,63]
def vd(c:Nat):=97<=c/\c<=122
def p7(w:Str):=1<=w⁻¹/\w⁻¹<=20/\∀c∈w.cps.toList,c∈pZ
def Name(n:Str):=1<=n⁻¹/\n⁻¹<=8/\∀c∈n.cps.toList,vd c
def gQ:Th->Bool
 | .tri .note _ _=>true
 | _=>false
def gw:Th->Prop
 | .tri .word (.inl w) t=>p7 w/\0<=t/\t<=3
 | .tri .page (.inl n) t=>Name n/\0<=t/\t<=3
 | .tri .note (.inr k) t=>0<=k/\k<=60/\t=0
 | _=>False
def ve:Th->Option Int
 | .tri .note (.inr k) _=>!k
 | _=>none
def du(l:List Th):TN:=l.filterMap ve
def nums(n:Nat):TN:=(List.range n).map λ(i:Nat)=>(i:Int)
def Ei(n:Nat):nums (n+1)=nums n++[(n:Int)]:=by unfold nums;rw[u8,qD];rfl
structure vf(n:Nat)(l:List Th):Prop where
 ok:∀x∈l,gw x
 ne:∃x r,l=x::r/\gQ x=false
 nn:du l=nums n
 le:l⁻¹<=60
def gU:Kd->Kd->Bool
 | .body,.case | .body,.shelf | .body,.grid | .body,.text | .body,.head | .body,.picture | .body,.aside=>true
 | .case,.case | .case,.shelf | .case,.grid | .case,.text | .case,.head | .case,.picture | .case,.aside=>true
 | .shelf,.case | .shelf,.shelf | .shelf,.grid | .shelf,.text | .shelf,.picture=>true
 | .grid,.case | .grid,.shelf | .grid,.grid | .grid,.text | .grid,.picture=>true
 | .text,.note | .head,.note=>true
 | .aside,.case | .aside,.shelf | .aside,.grid | .aside,.text | .aside,.head | .aside,.picture=>true
 | _,_=>false
def Wk:Kd->Bool
 | .body | .shelf | .grid | .aside=>true
 | _=>false
def Wl:Kd->Bool
 | .text | .head | .note=>true
 | _=>false
def Nexts:List Kd->Prop
 | []=>True
 | .aside :: .text::r=>Nexts r
 | .aside::_=>False
 | _::r=>Nexts r
def Holds(k:Kd)(ks:List Kd)(st:List Th):=(∀c∈ks,gU k c=true)/\(Wk k=true->ks≠[])/\Nexts ks/\(Wl k=true->du st=nums ks⁻¹)
def kO(l:TV):Prop:=l⁻¹<=4/\(∀m∈l,Name m)/\l.Pairwise λa b=>a.cps.toList<b.cps.toList
def Ej:Kd->List Th->Prop
 | .picture,l=>∃a b:Int,l=[.int a,.int b]/\1<=a/\a<=2000/\1<=b/\b<=2000
 | .text,l | .head,l | .note,l=>(∀x∈l,gw x)/\(∃x r,l=x::r/\gQ x=false)/\l⁻¹<=60
 | _,l=>l=[]
def cD:Str:=s!""
structure jL(d:Nd):Prop where
 nm:d.nm=cD\/Name d.nm
 mks:kO d.mks
 st:Ej d.k d.st
inductive Forest:Nat->Nat->Nat->List Nd->List Kd->Prop
 | nil {e i lv:Nat}:Forest e i lv [] []
 | cons {e i lv:Nat} {d:Nd} {sub rest:List Nd} {ks bZ:List Kd}:d.e=(e:Int)->lv<=6->d.k≠.body->Forest i (i+1) (lv+1) sub ks->Holds d.k ks d.st->Forest e (i+1+sub⁻¹) lv rest bZ->Forest e i lv (d::(sub++rest)) (d.k::bZ)
def Forest.append{e lv:Nat}{i:Nat}(x:Forest e i lv a ks):Forest e (i+a⁻¹) lv b bZ->Forest e i lv (a++b) (ks++bZ):=by
 induction x with
 | nil=>intro y;show y
 | @cons e i lv d sub rest ks ks1 h1 h2 h3 f1 h4 f2 jM gx =>
   intro y
   let y':Forest e (i+1+sub⁻¹+rest⁻¹) lv b bZ:=by
     have:i+(d::(sub++rest))⁻¹=i+1+sub⁻¹+rest⁻¹:=by simp;omega
     rw[<-this];show y
   have:=gx y'
   rw[v7,xE,v7]
   show .cons h1 h2 h3 f1 h4 this
def Forest.one{e i lv:Nat}(h1:d.e=(e:Int))(h2:lv<=6)(h3:d.k≠.body)(f:Forest i (i+1) (lv+1) sub ks)(h4:Holds d.k ks d.st):Forest e i lv (d::sub) [d.k]:=by
 have:=Forest.cons (rest:=[]) h1 h2 h3 f h4 .nil
 rwa [rS]at this
def ItemKs(ke:Kd)(ks:List Kd):=(∃k,ks=[k]/\k≠.aside/\gU ke k=true)\/(ks=[.aside,.text]/\gU ke .aside=true/\gU ke .text=true)
theorem Nexts.append:∀{a b:List Kd},Nexts a->Nexts b->Nexts (a++b)
 | [],b,_,h=>h
 | [.aside],b,h,_=>by cases h
 | .aside :: k :: r, b, h, h' => by
   cases k<;>first | (show Nexts.append (a:=r) h h') | cases h
 | .body::r,b,h,h'=>Nexts.append (a:=r) h h'
 | .case::r,b,h,h'=>Nexts.append (a:=r) h h'
 | .shelf::r,b,h,h'=>Nexts.append (a:=r) h h'
 | .grid::r,b,h,h'=>Nexts.append (a:=r) h h'
 | .text::r,b,h,h'=>Nexts.append (a:=r) h h'
 | .head::r,b,h,h'=>Nexts.append (a:=r) h h'
 | .picture::r,b,h,h'=>Nexts.append (a:=r) h h'
 | .note::r,b,h,h'=>Nexts.append (a:=r) h h'
 | .leaf::r,b,h,h'=>Nexts.append (a:=r) h h'
 | .no::r,b,h,h'=>Nexts.append (a:=r) h h'
def ItemKs.nexts(h:ItemKs ke ks):Nexts ks:=by
 rcases h with⟨k,rfl,n,_⟩ | ⟨rfl,_⟩
 .cases k<;>first | trivial | show qT rfl n
 .trivial
def ItemKs.may(h:ItemKs ke ks):∀k∈ks,gU ke k=true:=by
 rcases h with⟨k,rfl,_,m⟩ | ⟨rfl,m1,m2⟩
 .intro k' hk;have:k'=k:=‹hk›
  rw[this];show m
 .intro k' hk;rcases qN.mp hk with rfl | hk
  .show m1
  .have:k'=.text:=‹hk›
   rw[this];show m2
def ItemKs.ne(h:ItemKs ke ks):ks≠[]:=by
 rcases h with⟨k,rfl,_⟩ | ⟨rfl,_⟩<;>simp
def Names(l:List Nd):=(l.filter λd=>d.nm≠cD).map (·.nm) |>.Nodup
structure Book(l:List Nd):Prop where
 tree:∃d sub ks,l=d::sub/\d.e=-1/\d.k=.body/\Forest 0 1 1 sub ks/\Holds .body ks d.st
 form:∀d∈l,jL d
 names:Names l
def iK(R lv:Nat):Nat:=R+(if 4<=lv then 2 else if lv=3 then 12 else if lv=2 then 21 else 30)
end Bk
namespace L2
def ar(h:H p=none)(o:HO):Same H (af H p o):=λb u q=>by rw[aF (cB q h)];show q
def KeepN(N:Addr->Prop)(H H':Hp):=∀b o,N b->H b=!o->H' b=!o
def KeepN.trans{N:Addr->Prop}(a:KeepN N H H1)(b:KeepN N H1 H2):KeepN N H H2:=λc o n h=>b c o n (a c o n h)
def KeepN.mono{N N':Addr->Prop}(a:KeepN N H H1)(h:∀b,N' b->N b):KeepN N' H H1:=λc o n e=>a c o (h c n) e
def Same.keep{N:Addr->Prop}(s:Same H H'):KeepN N H H':=λb o _ e=>s b o e
def KeepN.refl{N:Addr->Prop}:KeepN N H H:=λ_ _ _ e=>e
end L2
namespace Bk
open L2
def Wm:Sum Str Int->V
 | .inl x=>.str x
 | .inr k=>.int k
def ItAt(N:Addr->Prop)(H:Hp)(v:V):Th->Prop
 | .int n=>v=.int n
 | .tri s x t=>∃a,v=.ref a/\N a/\H a=!.tup [.str s.s,Wm x,.int t]
def ItAt.keep{N N':Addr->Prop}(h:ItAt N H v x)(k:KeepN N H H')(sub:∀b,N b->(H b).isSome=true->N' b):ItAt N' H' v x:=by
 cases x with
 | int n=>show h
 | tri s x t =>
   let⟨a,e,n,g⟩:=h
   show⟨a,e,sub a n (by rw[g];rfl),k _ _ n g⟩
def StAt(N:Addr->Prop)(H:Hp)(s:Addr)(l:List Th):=N s/\∃vs,H s=!.lst vs/\Paired (ItAt N H) vs l
structure NdAt(N:Addr->Prop)(H:Hp)(a:Addr)(d:Nd):Prop where
 na:N a
 ex:∃m s,H a=!.tup [.int d.e,.str d.k.s,.str d.nm,.ref m,.ref s]/\N m/\H m=!.lst (d.mks.map V.str)/\StAt N H s d.st
def StAt.keep{N N':Addr->Prop}(h:StAt N H s l)(k:KeepN N H H')(sub:∀b,N b->(H b).isSome=true->N' b):StAt N' H' s l:=by
 let⟨n,vs,g,p⟩:=h;show⟨sub s n (by rw[g];rfl),vs,k _ _ n g,p.mono λv x q=>q.keep k sub⟩
def NdAt.keep{N N':Addr->Prop}(h:NdAt N H a d)(k:KeepN N H H')(sub:∀b,N b->(H b).isSome=true->N' b):NdAt N' H' a d:=by
 let⟨na,m,s,g,nm,gm,st⟩:=h;show⟨sub a na (by rw[g];rfl),m,s,k _ _ na g,sub m nm (by rw[gm];rfl),k _ _ nm gm,st.keep k sub⟩
abbrev NdsAt(N:Addr->Prop)(H:Hp)(as:TQ)(ds:List Nd):Prop:=Paired (NdAt N H) as ds
def NdsAt.keep{N N':Addr->Prop}(h:NdsAt N H as ds)(k:KeepN N H H')(sub:∀b,N b->(H b).isSome=true->N' b):NdsAt N' H' as ds:=h.mono λa d q=>q.keep k sub
def NdsAt.get{N:Addr->Prop}(h:NdsAt N H as ds){i:Nat}(e:ds[i]?=!d):∃a,as[i]?=!a/\NdAt N H a d:=by
 induction h generalizing i with
 | nil=>cases e
 | @cons a b l1 l2 q t ih =>
   cases i with
   | zero=>cases e;show⟨a,O,q⟩
   | succ i=>show ih ‹e›
def NdsAt.at{N:Addr->Prop}(h:NdsAt N H as ds){i:Nat}(e:as[i]?=!a):∃d,ds[i]?=!d/\NdAt N H a d:=by
 induction h generalizing i with
 | nil=>cases e
 | @cons a b l1 l2 q t ih =>
   cases i with
   | zero=>cases e;show⟨b,O,q⟩
   | succ i=>show ih ‹e›
def NdsAt.append{N:Addr->Prop}(p:NdsAt N H as ds)(h:NdsAt N H bs es):NdsAt N H (as++bs) (ds++es):=by
 induction p with
 | nil=>show h
 | cons q t ih=>show .cons q ih
def b8(N:Addr->Prop)(H:Hp)(p:Addr)(ds:List Nd):=∃as,H p=!.lst ↑as/\NdsAt N H as ds
def aU{as:TQ}{i:Nat}{a:Addr}(e:as[i]?=!a):bI ↑as ((i:Nat):Int)=!.ref a:=eQ (by rw[qJ,e];rfl)
end Bk
namespace L2
open PyProof.Rows
def Wn:bootBuiltins "enumerate" = !.type "enumerate":=by ac_rfl
section
variable{X:Cx}{aa:TF}{σ:St}{H:Hp}{s:Shared}{h':Heap}{fp:TQ}
def Inv.moved{t':Nat}(I:Inv X aa σ H s)(hf:∀b∈fp,iD X aa H b)(k:∀b o,b∉fp->s.heap.get? b=!o->h'.get? b=!o):Inv X aa σ H {s with heap:=h',toks:=t'}:=by
 show I.step (g':=s.gens) (d':=s.drawn) (ch:=fp) (λb hb=>?_) (λb o _ _ hc e _=>k b o hc e) (λb o _ _ hc e _=>⟨o.slots,k b o hc e⟩) (λ_ _ _ _ n=>n) (λb o hc e=>⟨o,k b o hc e⟩) (λ_ _ q=>q) (λ_ _ _ q=>q) (λb ps q=>⟨#[],by rw[q];simp⟩) (λm hn=>?_) (λa u q=>?_) I.bare
 .let⟨_,f1,_,f3,f4,f5⟩:=hf b hb;show⟨f3,f1,f4,f5⟩
 .let⟨o,es,ep,e,r⟩:=hn;show⟨o,es,ep,k _ _ (λz=>(hf _ z).2.1 O) e,r⟩
 .show(I.hok a u q).stay (λb v hb e=>k b v (λz=>?_) e) (λ_ z=>z) λ_ _ z=>z
  have:=(hf b z).1;rcases hb with rfl | hb
  .rw[q]at this;cases this
  .rw[hb]at this;cases this
end
def p8(K:W.Frag)(a:Addr):It :=
 ⟨λi H=>∃xs x,SqL K H a xs/\xs[i]?=!x,λi H x H'=>∃T y,H T=none/\x=.ref T/\H'=af H T (.tup [.int (i:Nat),y])/\∀xs,SqL K H a xs->xs[i]?=!y,λi H=>∃xs,SqL K H a xs/\xs⁻¹<=i⟩
def Wo{P:Program}{w:World}{K:W.Frag}{jd:TW}{k1:Nat}{tp:Pos}(a e it:Addr)(LQ:e≠it):jJ P w K (.Tuple jd k1 tp) (p8 K a) [e,it] e (λi h=>(∃old,IsEnum h e it ((i:Nat):Int) old)/\h.IsListIter it a i) where
 mem:=∅
 obj:=λi h st b hb=>by
  let⟨⟨old,x⟩,o,e1,c,d⟩:=st;rcases qN.mp hb with rfl | hb
  .show⟨_,x,λv z=>by cases z⟩
  .have:b=it:=‹hb›
   subst this;show⟨o,e1,λv z=>by rw[d]at z;cases z⟩
 keep:=λi h h' st k=>by
  let⟨⟨old,x⟩,y⟩:=st;show⟨⟨old,k e ∅ _ x⟩,y.at λo z=>k it ∅ o z⟩
 item:=by
  intro X hP hw hK hc i aa s σ H E I hf st hg;subst hP hw hK;let⟨xs,x,hq,hx⟩:=hg;let⟨⟨old,cO⟩,gn⟩:=st;let⟨ah,rv,p,hz⟩:=I.list hq;let⟨u,hu,ru⟩:=rv.get hx;show wpAny_pyNext_enum_item cO gn p.isList (x:=u) ‹hu› LQ λh' ho Wp hT hsz hk=>?_
  show-⟨wpAny_letOwnedTupleGo_enum ho λh2 Wq sb=>?_⟩;let k2:∀b o,b∉[e,it]->s.heap.get? b=!o->h2.get? b=!o:=λb o hb z=>(sb.2 b (λq=>hb (by simp[q]))).trans (hk b o (λq=>hb (by simp[q])) (λq=>hb (by simp[q])) z)
  let dE:e< ~~~s:=qK cO;let Ek:it< ~~~s:=by let⟨o,z,_⟩:=gn;show qK z
  let gT:h2.get? (~~~s)=!{cls:=.type "tuple",data:=.seq #[.int i s.toks,u]}:=(sb.2 _ (yG dE)).trans hT;let I1:Inv X aa σ H {s with heap:=h2,toks:=s.toks+1}:=I.moved hf k2;let hn:H (~~~s)=none:=I.hok.fresh (qG _);show⟨.ref (~~~s),af H (~~~s) (.tup [.int (i:Nat),x]),I1.track ?_ hn (yG I.lt) (λy c ec z=>?_) (λq hq z=>?_) ?_,O,⟨~~~s,x,hn,O,O,λys hy=>by rw[I.list_inj hy hq];show hx⟩,⟨⟨u,?_⟩,Wp.at λo z=>(sb.2 it (rV LQ)).trans z⟩,λb hb=>?_⟩
  .cases z:X.s₀.heap.get? (~~~s) with
   | none=>rfl
   | some u=>show qT (rA (qK z) I.sz) (rP _)
  .let⟨v,q⟩:=I.cell y c ec;show qT q.lt (by rw[z];show rP _)
  .show qT (qK (I.pin q hq).1) (by rw[z];show rP _)
  .show⟨by show 2<=sizeLine;decide,[.int i s.toks,u],.cons ⟨_,O⟩ (.cons ru .nil),_,gT,O,_,O⟩
  .simpa using Wq
  .rw[aF (λz=>by
    have:=hb;rw[z]at this;rcases qN.mp this with q | q
    .show qT dE (by rw[<-q];show rP _)
    .let q': ~~~s=it:=‹q›
     show qT Ek (by rw[<-q'];show rP _))]
   show(hf b hb).1
 done:=by
  intro X hP hw hK hc i aa s σ H E I hf st hg;subst hP hw hK;let⟨xs,hq,hx⟩:=hg;let⟨⟨old,cO⟩,gn⟩:=st;let⟨ah,rv,p,hz⟩:=I.list hq;let hl:=rv⁻¹;show wpAny_pyNext_enum_end (I.ok.hd hc) cO gn p.isList (by simp;omega) λh' eb=>⟨O,I.moved (t':=s.toks) hf λb o hb z=>eb b o (λq=>hb (by simp[q])) z⟩
 self:=λ_ _ _ _ _ st h=>by
  let⟨⟨old,x⟩,_⟩:=st;show wpAny_pyIter_enum x h
def El(x:Str):It:=⟨λi _=>i<x.cps.size,λi H v H'=>H'=H/\∃c,x.cps[i]?=!c/\v=.str ⟨#[c]⟩,λi _=>x.cps.size<=i⟩
section
variable{X:Cx}{tg:Expr}
inductive LR(K:W.Frag)(R:It->Hp->Prop):List V->Hp->Prop
|m {vs H1} a:vs=[.ref a]->(∃xs,SqL K H1 a xs)->R (p8 K a) H1->LR K R vs H1
def Wr(K:W.Frag)(ta:TA):TI:=λσ H R=>ta σ H (LR K R)
def vg{jd:TW}{k1:Nat}(hg:Gl X "enumerate")(hm:X.mg "enumerate" = none)(ha:PA X [a] ta)(hs:starEach [a] X.env=[(false,eval a X.env)]:=by rfl):PI X (.Tuple jd k1 tp) (.Call (.Name "enumerate" p) [a] [] pos) (Wr X.K ta):=by
 intro aa s σ H R I h;show Call_ (i5 I hg hm Wn (xT (aT (ha pos aa s σ H _ I h) λus s1 ⟨vs,H1,I1,r1,q1⟩=>?_) hs O));let⟨l,e,⟨xs,hq⟩,q⟩:=q1;subst e;cases r1 with
 | cons r rr =>
   cases rr
   cases r
   let⟨ah,rv,pl,hz⟩:=I1.list hq
   show call_enumerate_list pl.isList λh' he vh hsz kp=>?_
   show wpAny_pyIter_enum he ?_
   let I2:Inv X aa σ H1 {s1 with heap:=h'}:=I1.kept (t':=s1.toks) kp
   show⟨~~~s1+1,[~~~s1+1,~~~s1],_,_,H1,O,I2,Wo l _ _ (yG (rW _)),⟨⟨_,‹he›⟩,vh⟩,λb hb=>?_,q⟩
   rcases qN.mp hb with rfl | hb
   · show I1.fpOk (yS _) (I1.hok.fresh (yS _))
   · have:b= ~~~s1:=‹hb›
     subst this
     show I1.fpOk (qG _) (I1.hok.fresh (qG _))
end
end L2
namespace L2
section
variable{κ:Type}[DecidableEq κ]
def cL(l:List κ)(v:κ):List κ:=if v∈l then l else l++[v]
def met(val:Nat->κ)(i:Nat):List κ:=((List.range i).map val).foldl cL []
def Em(val:Nat->κ)(i:Nat):met val (i+1)=cL (met val i) (val i):=by
 unfold met;rw[u8,qD,List.foldl_append];rfl
theorem LS(val:Nat->κ):∀i,(met val i)⁻¹<=i
 | 0=>qG _
 | i + 1 => by
   rw[Em]
   unfold cL
   have:=LS val i
   split
   · omega
   · rw[qI,uQ];omega
def LU(l:List κ)(v k:κ):decide (k∈cL l v)=(decide (k∈l) || decide (k=v)):=by
 unfold cL
 by_cases z:v∈l
 .rw[qZ z]
  by_cases e:k=v
  .subst e;simp[z]
  .simp[e]
 .rw[qX z];simp
def En(l:List κ)(v:κ):(cL l v)⁻¹=if decide (v∈l)=true then l⁻¹ else l⁻¹+1:=by
 unfold cL
 by_cases z:v∈l
 .simp[z]
 .simp[z]
def LV{prog:Program}{w:World}{knd:KeyKind prog w κ}{h:Heap}{a:Addr}{S S':κ->Bool}{n n':Nat}(x:h.SetOf knd a S n)(e:∀k,S k=S' k)(en:n=n'):h.SetOf knd a S' n':=by
 obtain rfl:S=S':=funext e;show en ▸ x
end
section
variable{prog:Program}{w:World}{A:Around}{E:TH}{s:Shared}{κ:Type}[DecidableEq κ]{knd:KeyKind prog w κ}
abbrev jN(led:Bool):Obj:={cls:=.type "set",dict:=none,data:=.set #[] 0 (.fresh 0 0 led)}
def NotPlain(w:World)(h:Heap)(a:Addr):=∃o es ep t,h.get? a=!o/\o.data=.set es ep t/\(t.plain=false\/es.size=0)/\t.led=(Bool.not ((w.params.followText "set-order")))
def Ws(t:SetTable)(n:Nat):(t.orStandIn n).led=t.led:=by
 unfold SetTable.orStandIn
 split<;>rfl
def Wt(t:SetTable)(es:Array (Int×Value))(h:Int)(x:Value):(layNew t es h x).2.1.led=t.led:=by
 unfold layNew
 split
 .show Ws _ _
 .rfl
def Wu(t:SetTable)(es:Array (Int×Value))(n:Nat):(relayAll t es n).2.1.led=t.led:=by
 unfold relayAll;cases e:t.relaid (es.map (·.1)) n with
 | none=>rfl
 | some r =>
   let⟨t',order⟩:=r
   dsimp only
   split
   · unfold SetTable.relaid SetTable.laid at e
     cases e1:SetTable.layClean (SetTable.sizeAbove n-1) (es.map (·.1))with
     | none=>rw[e1]at e;cases e
     | some ow =>
       rw[e1]at e
       cases e
       rfl
   · rfl
def Wv(t:SetTable)(es:Array (Int×Value))(n:Nat)(h:t.plain=false):(relayAll t es n).2.1.plain=false:=by
 unfold relayAll;cases e:t.relaid (es.map (·.1)) n with
 | none=>rfl
 | some r =>
   let⟨t',order⟩:=r
   dsimp only
   split
   · unfold SetTable.relaid SetTable.laid at e
     cases e1:SetTable.layClean (SetTable.sizeAbove n-1) (es.map (·.1))with
     | none=>rw[e1]at e;cases e
     | some ow =>
       rw[e1]at e
       cases e
       show h
   · rfl
def LW{g:Bool->Sem Unit}(hg:∀ (b:Bool) (s1:Shared) (Q1:Unit->Shared->Prop),Q1 Unit.unit s1->wpAny (model prog w) A (g b) Q1 E s1){es:Array (Int × Value)}{ep:Nat}(ho:s.heap.get? a=!o)(hex:o.ExactSet)(hd:o.data=.set es ep t){bQ:Array (Int × Value)}{S':κ->Bool}(kP:ElemsOf knd bQ.toList)(oj:∀ k',S' k'=true↔∃ e∈bQ.toList,knd.is k' e.2=true)(hb:bQ.size < scanBound)(hf:t2.fits bQ.size=true)(gz:t2.plain=false)(fH:t2.led=(Bool.not ((w.params.followText "set-order")))){dm:Bool}{R:Option Bool->Shared->Prop}(fin:∀ h',Heap.SameBut a s.heap h'->h'.SetOf knd a S' bQ.size->NotPlain w h' a->R (!true) { s with heap:=h' }) :
  wpAny (model prog w) A (do
   storeSet a bQ t2
   if ((Bool.not (dm)) && t2.tooFull)=true then do
       g (relayAll t2 bQ (SetTable.grown bQ.size)).2.2
       storeSet a (relayAll t2 bQ (SetTable.grown bQ.size)).1 (relayAll t2 bQ (SetTable.grown bQ.size)).2.1
       pure (!true)
    else pure (!true)) R E s:=by
 let⟨g1,x1⟩:=SetOf_store (knd:=knd) ho hex hd kP oj hb hf
 let b1:=Heap.SameBut.update s.heap a (Obj.putSet bQ t2)
 show qC (wpAny_storeSet_of ho hd ?_ (fits_of_scanBound hb))
 by_cases LX:((Bool.not (dm)) && t2.tooFull)=true
 .rw [qZ LX]
  let pm:=relayAll_perm t2 bQ (SetTable.grown bQ.size)
  let ft:=relayAll_fits t2 bQ (SetTable.grown bQ.size)
  let pl:=Wv t2 bQ (SetTable.grown bQ.size) gz
  let ld:=Wu t2 bQ (SetTable.grown bQ.size)
  generalize relayAll t2 bQ (SetTable.grown bQ.size)=Z at pm ft pl ld ⊢
  let⟨p9,t3,gv⟩:=Z
  dsimp only at pm ft pl ld ⊢
  let sz:p9.size=bQ.size:=‹pm.length_eq›
  let Bg:p9.size < scanBound:=()
  show qC (hg gv _ _ ?_)
  show qC (wpAny_storeSet_of g1 O ?_ (fits_of_scanBound Bg))
  let⟨g2,x2⟩:=SetOf_store (knd:=knd) (S':=S') g1 hex O (kP.perm pm) (λk'=>(oj k').trans ⟨λz=>⟨z.choose,pm.mem_iff.mpr z.choose_spec.1,z.choose_spec.2⟩,λz=>⟨z.choose,pm.mem_iff.mp z.choose_spec.1,z.choose_spec.2⟩⟩) Bg ft
  rw [sz] at x2
  show qM (fin _ (b1.trans (Heap.SameBut.update _ a _)) x2 ⟨_,_,_,_,g2,O,.inl pl,ld.trans fH⟩)
 .rw [qX LX]
  show qM (fin _ b1 x1 ⟨_,_,_,_,g1,O,.inl gz,fH⟩)
def Ww{S:κ->Bool}{n:Nat}{k:κ}{Q:Bool->Shared->Prop}(tZ:knd.is k (.str x tk)=true)(hS:s.heap.SetOf knd a S n)(hP:NotPlain w s.heap a)(room:n+1<scanBound)(fin:∀h',Heap.SameBut a s.heap h'->h'.SetOf knd a (λk'=>S k' || decide (k'=k)) (if S k then n else n+1)->NotPlain w h' a->Q ((Bool.not (S k))) {s with heap:=h'}) :
  wpAny (model prog w) A (setAddHashed a (.str x tk) (knd.hash k)) Q E s:=by
 let⟨o,es,ep,t,ho,hex,hd,kP,oj,hb,hf,hn⟩:=hS;unfold setAddHashed setAddHashedIn;show xZ (qC (yH ho hd hf ?_));dsimp only;rw[byScan_of (x:=.str x tk) O hb kP,qZ O];unfold setAddByScan;show qC (qC (wpAny_rule (qC (wpAny_setScan_of tZ ho hd hf kP ?_))));cases there:List.findIdx? (λe=>knd.is k e.2) es.toList with
 | some j =>
   dsimp only
   let⟨hj,Wx,_⟩:=List.findIdx?_eq_some_iff_getElem.mp there
   let Eo:S k=true:=(oj k).mpr ⟨_,rJ hj,Wx⟩
   show qM (qM ?_)
   let q:=fin s.heap (Heap.SameBut.refl a s.heap) ⟨o,es,ep,t,ho,hex,hd,kP,λk'=>?_,hb,hf,by rw[qZ Eo];show hn⟩ hP
   · rw[Eo]at q
     show q
   · rw[<-oj k',Bool.or_eq_true,decide_eq_true_eq]
     constructor
     · ext(z | rfl)
       · show z
       · show Eo
     · show .inl
 | none =>
   dsimp only
   let no:S k=false:=Bool.eq_false_iff.mpr λz=>by
     let⟨e,he,hp⟩:=(oj k).mp z
     show qT hp (by rw[List.findIdx?_eq_none_iff.mp there e he];show qU)
   let pm:=layNew_perm t es (knd.hash k) (.str x tk)
   let ft:=layNew_fits t es (knd.hash k) (.str x tk)
   let ld:=Wt t es (knd.hash k) (.str x tk)
   let Wy:t.led=(Bool.not ((w.params.followText "set-order"))):=by
     let⟨o',nQ,tD,t',e1,e2,_,e3⟩:=hP
     rw[ho]at e1
     cases e1
     rw[hd]at e2
     cases e2
     show e3
   rw[Wy]at ld
   generalize layNew t es (knd.hash k) (.str x tk)=Z at pm ft ld⊢
   let⟨bQ,t1,dm,gv⟩:=Z
   dsimp only at pm ft ld⊢
   rw[Array.toList_push]at pm
   let sz:bQ.size=n+1:=by
     have:=pm.length_eq
     rw[qI,xG,xG,hn]at this
     show this
   let quiet:∀(b:Bool) (s1:Shared) (Q1:Unit->Shared->Prop),Q1 Unit.unit s1->wpAny (model prog w) A (match b with | true=>rule "set.scan.the-table-gave-way" | false=>pure Unit.unit) Q1 E s1:=λb s1 Q1 q=>by
     cases b with
     | true=>show wpAny_rule q
     | false=>show qM q
   let vi:∀h',Heap.SameBut a s.heap h'->h'.SetOf knd a (λk'=>S k' || decide (k'=k)) bQ.size->NotPlain w h' a->Q true {s with heap:=h'}:=λh' sb x' np=>by
     let q:=fin h' sb
     rw[no,qX qU,<-sz]at q
     show q x' np
   show qC (quiet _ _ _ ?_)
   let LY:ElemsOf knd bQ.toList:=(kP.push tZ O).perm pm
   let LZ:=λk'=>mem_push_iff tZ oj pm k'
   let Bh:bQ.size<scanBound:=()
   cases pl:t1.plain with
   | true =>
     rw[qZ O,hashByValue_scannable 8 (x:=.str x tk) O]
     show qC (qM ?_)
     show LW quiet ho hex hd LY LZ Bh (t2:={t1 with plain:=false}) (SetTable.fits_plain_off ft) O ld λh' sb x' np=>?_
     show qM (vi h' sb x' np)
   | false =>
     rw[qX qU]
     show qC (qM ?_)
     show LW quiet ho hex hd LY LZ Bh (t2:=t1) ft pl ld λh' sb x' np=>?_
     show qM (vi h' sb x' np)
end
def NotPlain.at(x:NotPlain w h a)(k:∀o,h.get? a=!o->h'.get? a=!o):NotPlain w h' a:=by
 let⟨o,es,ep,t,e,r⟩:=x;show⟨o,es,ep,t,k _ e,r⟩
section
variable{prog:Program}{w:World}{A:Around}{E:TH}{s:Shared}
def Wz(a:Value){Q1:TH}(q:Q1 (.ref (~~~s)) {s with heap:=s.heap.push (jN ((Bool.not ((w.params.followText "set-order")))))}) :
  codeAny (model prog w) A (.call (.builtin "set.__new__") ⟨[.type "set",a],[]⟩) (wants Q1 E) s:=by
 show codeAny_of_tree ?_;show wpAny _ A.in1 (checkBuiltinCall "set.__new__" ⟨[.type "set",a],[]⟩>>=λ_=>again (.builtin "set.__new__" ⟨[.type "set",a],[]⟩)) _ _ s;show qC (wpAny_of_eq (F.newCall_set_1 a) (qM ⟨yV F.plain_set_new _,xV F.entry_set_new ?_⟩));rw[xI F.plain_set_new _];unfold Builtin.«set.__new__» Builtin.Frozenset.newClass;let e1:=sub_set_self;let⟨h0,g0,d0,t0,o0⟩:=s;dsimp only
 wp_walk
 show yW (qM ?_);dsimp only;simp only[newObj];show qC (wpAny_alloc (qM (qM q)))
end
section
variable{prog:Program}{w:World}{A:Around}{R:Result->Shared->Prop}{J:Addr}{fp wr:TQ}{G:Array GenState->Array GenState->Prop}{n:Nat}{P:Nat->Value->Prop}{St:Nat->Shared->Prop}{κ:Type}[DecidableEq κ]{knd:KeyKind prog w κ}
def WA(W:WalksS prog w A.in1 J fp wr G n P St)(S:Addr)(nS:S∉fp)(val:Nat->κ)(hv:∀i v,P i v->∃x t,v=.str x t/\knd.is (val i) (.str x t)=true)(hb:n+1<scanBound) :
  ∀(k i:Nat) (s:Shared),n-i=k->i<=n->St i s->s.heap.SetOf knd S (λq=>decide (q∈met val i)) (met val i)⁻¹->NotPlain w s.heap S ->
   (∀s',Moved (S::wr) G s s'->s'.heap.SetOf knd S (λq=>decide (q∈met val n)) (met val n)⁻¹->NotPlain w s'.heap S->R (.ok (.ret .none)) s') ->
   codeAny (model prog w) A (.builtin "set.update.loop" ⟨[.ref S,.ref J],[]⟩) R s:=by
 let Bi:S∉wr:=λq=>nS (W.sub _ q)
 let sub:∀b∈wr,b∈S::wr:=λb q=>qW _ q
 intro k
 induction k with
 | zero =>
   intro i s hk hi st x np fin
   obtain rfl:i=n:=()
   show xV PyProof.Rows.F.entry_set_update_loop ?_
   rw[xI uJ _]
   show wpAny (model prog w) A.in1 (pyNext (.ref J)>>=_) _ _ s
   show qC (W.done s _ _ st λs1 mv=>?_)
   show wpAny (model prog w) A.in1 (ret Value.none) _ _ s1
   show qM (fin s1 (mv.mono sub) ?_ (np.at λo e=>mv.heap S _ Bi e))
   let⟨o,es,ep,tb,ho,r⟩:=x
   show⟨o,es,ep,tb,mv.heap S _ Bi ho,r⟩
 | succ k ih =>
   intro i s hk hi st x np fin
   let lt:i<n:=()
   show xV PyProof.Rows.F.entry_set_update_loop ?_
   rw[xI uJ _]
   show wpAny (model prog w) A.in1 (pyNext (.ref J)>>=_) _ _ s
   show qC (W.item i s _ _ lt st λv s1 hP cO mv=>?_)
   let⟨tx,tt,rfl,kv⟩:=hv i v hP
   let WB:NotPlain w s1.heap S:=np.at λo e=>mv.heap S _ Bi e
   let x1:s1.heap.SetOf knd S (λq=>decide (q∈met val i)) (met val i)⁻¹:=by
     let⟨o,es,ep,tb,ho,r⟩:=x
     show⟨o,es,ep,tb,mv.heap S _ Bi ho,r⟩
   show wpAny (model prog w) A.in1 (holding [Value.str tx tt] (setAdd S (Value.str tx tt))>>=_) _ _ s1
   show qC (xZ ?_)
   unfold setAdd
   show xZ ?_
   show qC (knd.pyHash kv ?_)
   let room:(met val i)⁻¹+1<scanBound:=by have:=LS val i;omega
   show Ww (knd:=knd) (s:={s1 with toks:=s1.toks+1}) kv x1 WB room λh' sb x2 WC=>?_
   let x3:h'.SetOf knd S (λq=>decide (q∈met val (i+1))) (met val (i+1))⁻¹ :=
     LV x2 (λq=>by rw[Em,LU]) (by rw[Em,En])
   show qM ⟨yV uJ _,ih (i+1) _ () lt (W.frame _ s1 _ _ cO (yS _) λb hb o e=>?_) x3 WC λs2 Ep x4 WD=>?_⟩
   · rw[sb.2 b (λz:b=S=>nS (by rw[<-z];show hb))];show e
   · show fin s2 (Moved.trans W.gtrans ((mv.mono sub).then_heap (yS _) λb o hb e=>?_) Ep) x4 WD
     rw[sb.2 b (λz:b=S=>hb (by rw[z];show rF))];show e
end
section
variable{prog:Program}{w:World}{A:Around}{E:TH}{s:Shared}{κ:Type}[DecidableEq κ]{knd:KeyKind prog w κ}
def WE{val:Nat->κ}{Q:TH}(hh:A.handled=none)(hl:s.heap.IsList l ah)(hv:∀(i:Nat) (v:Value),ah[i]?=!v->∃x t,v=.str x t/\knd.is (val i) (.str x t)=true)(hb:ah.size+1<scanBound)(fin:∀(h':Heap) (tk:Nat),h'.SetOf knd (~~~s) (λq=>decide (q∈met val ah.size)) (met val ah.size)⁻¹->NotPlain w h' (~~~s)->(∀b o,b< ~~~s->s.heap.get? b=!o->h'.get? b=!o) ->
   Q (.ref (~~~s)) {s with heap:=h',toks:=tk}) :
  wpAny (model prog w) A (call (.type "set") [.ref l]) Q E s:=by
 let⟨c1,c2,m1⟩:=F.called_set.mro;let m2:=F.called_set.made;let m3:=F.called_set.sub;show wpAny_call (codeAny_of_tree ?_);show wpAny (model prog w) _ (callAny (.type "set") _) _ _ _;show qM ⟨Code.quiet_builtin _ (by ac_rfl),xV F.entry_type_call ?_⟩;rw[Around.under_plain (weight_type_call_type "set" [.ref l] []) O];let m4:=F.called_set.notType;let m5:=F.called_set.canCreate;let m6:=F.typeCall_set_1 (.ref l)
 repeat (any_goals (first | assumption | wp_step))
 show uT (Wz (.ref l) (E:=E) (Q1:=λob s1=>∃led:Bool,ob=.ref (~~~s)/\s1={s with heap:=s.heap.push (jN led)}/\led=(Bool.not ((w.params.followText "set-order")))) ⟨_,O,O,O⟩) λr s1 hr=>?_
 rcases r with e | fl
 .show hr
 rcases fl with _ | _ | _ | ob<;>first | show hr.elim | skip
 let⟨led,rfl,rfl,WF⟩:=hr;let gS:(s.heap.push (jN led)).get? (~~~s)=!jN led:=qR _ O;let tS:Shared.TypeIs {s with heap:=s.heap.push (jN led)} (.ref (~~~s)) "set":=⟨_,gS,O⟩;let q1:=F.called_set.init.lookup;let q2:=F.called_set.init.bind (.ref (~~~s))
 repeat (any_goals (first | assumption | wp_step))
 show uT (codeAny_call_builtin (R:=wants (λr s2=>r=.none/\∃h' tk,s2={s with heap:=h',toks:=tk}/\h'.SetOf knd (~~~s) (λq=>decide (q∈met val ah.size)) (met val ah.size)⁻¹/\NotPlain w h' (~~~s) /\
   (∀b o,b< ~~~s->s.heap.get? b=!o->h'.get? b=!o)) E) F.called_set.init.plain F.entry_set_init (check_set_init_1 tS ?_)) λr2 s2 Er=>?_
 .obtain⟨ol,L1,eR,nl,L3⟩:=hl;let⟨z1,z2,z3,z4⟩:=ol;simp only at eR L3;subst eR L3;let WG:(s.heap.push (jN led)).get? l=!⟨.type "list",z2,.seq ah nl,z4⟩:=qE _ L1;let e1:=F.sub_list_set;let e2:=F.sub_list_frozenset;let e3:(Value.type "list" == Value.type "dict")=false:={}
  let il:(s.heap.push (jN led)).IsList l ah:=⟨_,WG,O,nl,O⟩;unfold Builtin.«set.__init__» noKeywords Builtin.Frozenset.updateFrom;generalize Es:pyIter=PI
  wp_walk
  subst Es;show xS il ?_;show qC (wpAny_runValue ?_);let lS:l< ~~~s:=qK L1;let h3:A.in1.in1.in1.handled=none:=by simp[hh]
  let nI:l≠(s.heap.push (jN led)).objs.size:=by rw[rM];show rC (xQ lS)
  let nS: ~~~s∉[(s.heap.push (jN led)).objs.size,l]:=by
   rw[rM];intro z;rcases qN.mp z with z | z
   .show qT z (rC (rW _))
   .rcases qN.mp z with z | z
    .show qT z.symm (rC lS)
    .cases z
  show WA (knd:=knd) ((Walks.list h3 _ l nI ah).toS) (~~~s) nS val hv hb (ah.size-0) 0 _ () (rL _) ⟨⟨_,qR _ O,O,O⟩,(il.push _)⟩ ?x0 ⟨_,_,_,_,qE _ gS,O,.inr O,WF⟩ ?xR
  case x0 =>
   show LV ((PyProof.Rows.setObjOf_fresh (knd:=knd) led).setOf (qE _ gS) (by unfold scanBound;omega)) (λq=>by simp[met]) O
  case xR =>
   intro s' mv x np;let⟨h',g',d',kQ,kG⟩:=s';obtain rfl:g'=s.gens:=mv.gens;obtain rfl:d'=s.drawn:=mv.drawn;obtain rfl:kG=s.os:=mv.os;show wpAny (model prog w) _ _ _ _ _;show qM ?_;show wpAny (model prog w) _ (ret Value.none) _ _ _;show qM ⟨O,h',kQ,O,x,np,λb o hb e=>?_⟩;show mv.heap b o (λz=>?_) (qE _ (qE _ e));rcases qN.mp z with z | z
   .show qT z (rC hb)
   .let z':b=(s.heap.push (jN led)).objs.size:=‹z›
    rw[rM]at z';show qT z' (rC (xQ hb))
 .rcases r2 with e | fl2
  .show Er
  rcases fl2 with _ | _ | _ | r<;>first | show Er.elim | skip
  let⟨rfl,h',tk,rfl,x,np,kp⟩:=Er
  repeat (any_goals (first | assumption | wp_step))
  show fin _ _ x np kp
end
def vj:Slot "set_iterator" "__next__" "set_iterator.__next__" :=
 .of (owner := "set_iterator") (n := "__next__") (by rw[typeLookup_type,builtinLookup_eq_fast];kernel_rfl) (by ac_rfl) (by ac_rfl) (by ac_rfl) (by first | show .inl (by ac_rfl) | show .inr (by ac_rfl)) (by rw[wE];kernel_rfl)
def L4:Slot "set_iterator" "__iter__" "set_iterator.__iter__" :=
 .of (owner := "set_iterator") (n := "__iter__") (by rw[typeLookup_type,builtinLookup_eq_fast];kernel_rfl) (by ac_rfl) (by ac_rfl) (by ac_rfl) (by first | show .inl (by ac_rfl) | show .inr (by ac_rfl)) (by rw[wE];kernel_rfl)
def WH:entryFor table "set_iterator.__next__" = some Builtin.«set_iterator.__next__»:=entryFor_of_tree (by kernel_rfl)
def WI:entryFor table "set_iterator.__iter__" = some Builtin.«dict_keyiterator.__iter__» :=
 entryFor_alias (id' := "dict_keyiterator.__iter__") (by kernel_rfl) (by first | rfl | ac_rfl) (by ac_rfl) (by kernel_rfl)
def WJ:entryFor table "set.__iter__" = some Builtin.«frozenset.__iter__» :=
 entryFor_alias (id' := "frozenset.__iter__") (by kernel_rfl) (by first | rfl | ac_rfl) (by ac_rfl) (by kernel_rfl)
def WK(a:Value):argsOk "set_iterator.__next__" ⟨[a],[]⟩:=by unfold argsOk;kernel_rfl
def WM(a:Value):argsOk "set_iterator.__iter__" ⟨[a],[]⟩:=by unfold argsOk;kernel_rfl
def SIt(h:Heap)(it:Addr)(f:Value)(i:Nat)(d:Addr)(n ep:Nat):Prop:=h.get? it=!{cls:=.type "set_iterator",data:=.fields #[f,.int i 0,.ref d,.int n 0,.int ep 0]}
def SAt(h:Heap)(d:Addr)(es:Array (Int×Value))(ep:Nat)(t:SetTable):=∃o,h.get? d=!o/\o.data=.set es ep t/\t.fits es.size=true
theorem Et{α:Type}:∀(l:List α) (i:Nat) (h:i<l⁻¹),List.Perm (l[i]::l.eraseIdx i) l
 | x::l,0,h=>vT _
 | x :: l, i + 1, h => by
   let hi:i<l⁻¹:=‹h›
   show List.Perm (l[i]::x::l.eraseIdx i) (x::l)
   show(List.Perm.swap _ _ _).trans (List.Perm.cons _ (Et l i hi))
theorem L5{α:Type}(next:Nat->Nat):∀(fuel k:Nat) (left:List α) (out:Array α),left⁻¹<=fuel->List.Perm (pickOrder.go next fuel k left out).toList (out.toList++left)
 | 0, k, left, out, h => by
   have:left=[]:=vM.mp ()
   subst this
   simp[pickOrder.go]
 | fuel + 1, k, left, out, h => by
   unfold pickOrder.go
   cases left with
   | nil=>simp
   | cons y ys =>
     let aX:next k % (y::ys)⁻¹<(y::ys)⁻¹:=Nat.mod_lt _ ∅
     rw[qB aX]
     dsimp only
     show(L5 next fuel (k+1) _ _ (by rw[List.length_eraseIdx_of_lt aX];omega)).trans ?_
     rw[Array.toList_push,xE]
     show List.Perm.append_left _ ?_
     show Et _ _ aX
def Eu{α:Type}(next:Nat->Nat)(xs:Array α):List.Perm (pickOrder next xs).toList xs.toList:=by
 have:=L5 next xs.size 0 xs.toList #[] ∅
 simpa[pickOrder]using this
section
variable{prog:Program}{w:World}{A:Around}{E:TH}{s:Shared}
def WN{n:Nat}{Q:Nat->Shared->Prop}(hn:n≠0)(q:∀k d',k<n->Q k {s with drawn:=d'}):wpAny (model prog w) A (choose je n) Q E s:=λΓ p hΓ=>by
 show Sem.wp _ _ (Sem.choose _ _ Sem.pure) _ _ _ _;rw[Sem.wp_choose];show⟨hn,q _ _ (Nat.mod_lt _ (Nat.pos_of_ne_zero hn))⟩
theorem L6{α:Type}:∀(n:Nat) (xs:List α) (s:Shared) (Q:List α->Shared->Prop),xs⁻¹<=n->(∀ys d',ys.Perm xs->Q ys {s with drawn:=d'})->wpAny (model prog w) A (drawOrder n xs) Q E s
 | 0, xs, s, Q, h, q => by
   have:xs=[]:=vM.mp ()
   subst this
   show qM (q [] s.drawn (vT _))
 | n+1,[],s,Q,h,q=>qM (q [] s.drawn (vT _))
 | n + 1, x :: xs, s, Q, h, q => by
   unfold drawOrder
   show qC (WN ∅ λk d' aX=>?_)
   rw[qB aX]
   dsimp only
   show qC (L6 n _ _ _ (by rw[List.length_eraseIdx_of_lt aX];omega) λys d' pm=>qM ?_)
   show q _ _ ((List.Perm.cons _ pm).trans (Et _ _ aX))
def qa{i d n ep:Nat}{Q:Option Value->Shared->Prop}(vh:SIt s.heap it f i d n ep)(h:wpAny (model prog w) A.in1 (Builtin.«set_iterator.__next__» ⟨[.ref it],[]⟩) (λfin s'=>∃v,fin=.done (.ret v)/\Q (!v) s') (λe s'=>wpAny (model prog w) A (isInstance e (.type "StopIteration")) (λb s2=>b=true/\Q none s2) E s') s) :
  wpAny (model prog w) A (pyNext (.ref it)) Q E s:=by
 let hT:s.TypeIs (.ref it) "set_iterator":=⟨_,vh,O⟩;unfold pyNext;show qC (wpAny_attempt (wpAny_callSpecial?_slot (name:=s!"__next__") hT vj (uN vj hT WH ?_ (WK _))));show xN h (λfin s' q=>?_) λe s' q=>?_
 .let⟨v,rfl,q⟩:=q;show⟨v,O,qM q⟩
 .show qC (xN q (λb s2 z=>?_) λ_ _ z=>z);let⟨rfl,z⟩:=z;show qM z
def Ev{Q:Option Value->Shared->Prop}{R:Fin->Shared->Prop}(hh:A.handled=none)(s':Shared)(hQ:∀h',(∀b o,s'.heap.get? b=!o->h'.get? b=!o)->Q none {s' with heap:=h'}) :
  wpAny (model prog w) A.in1 (newExc (.type "StopIteration") []>>=raiseNew) R (λe s'=>wpAny (model prog w) A (isInstance e (.type "StopIteration")) (λb s2=>b=true/\Q none s2) E s') s':=by
 show qC ?_;simp only[newExc,newTuple];show qC (yZ ?_ (by size_fits));show qC (m:=firstArgMember _ _) (wpAny_of_eq (a:=Value.none) (by first | rfl | (simp only[firstArgMember];rfl)) ?_);show yZ ?_ (by size_fits);simp only[raiseNew];show qC (wpAny_handled ?_);rw[show A.in1.handled=none from hh];show qC (qM (wpAny_throw ?_));show wA (T := "StopIteration") (b:=true) ⟨_,qR _ O,O⟩ isSubtype_stop ?_;show⟨O,hQ _ λb o e=>qE _ (qE _ e)⟩
def qb{i d n ep:Nat}{es:Array (Int × Value)}{R:Fin->Shared->Prop}{Ex:TH}(vh:SIt s.heap it f i d n ep)(hs:SAt s.heap d es ep t)(hn:es.size=n)(h:wpAny (model prog w) A (match f with
   | .int slot _ => do
     match <- setNext d slot.toNat i ep with
     | some (x, next) => do
       setField (.ref it) 0 (rawInt next)
       setField (.ref it) 1 (rawInt ((i:Int)+1))
       ret x
     | none=>do setField (.ref it) 2 .none; (newExc (.type "StopIteration") [] >>= raiseNew)
   | first => do
     let some WO <- seqItems? first | unsupported "internal:set_iterator"
     match WO[i]? with
     | some (.int place _) => do
       let x <- setNextDrawn d place.toNat ep
       setField (.ref it) 1 (rawInt ((i:Int)+1))
       ret x
     | some _=>unsupported "internal:set_iterator"
     | none=>do setField (.ref it) 0 (rawInt 0); setField (.ref it) 2 .none; (newExc (.type "StopIteration") [] >>= raiseNew)) R Ex s) :
  wpAny (model prog w) A (Builtin.«set_iterator.__next__» ⟨[.ref it],[]⟩) R Ex s:=by
 let⟨o,ho,hd,hf⟩:=hs
 unfold Builtin.«set_iterator.__next__»
 show qC (qM ?_)
 show qC (wpAny_fieldsOf vh O ?_)
 dsimp only
 show qC (wpAny_setEntries_of ho hd hf ?_)
 rw [hn,qX ∅]
 cases f with
 | int slot tk=>show h
 | _=>show h
end
def SIt.turn{i d n ep:Nat}(x:SIt h it f i d n ep):SIt (h.update it (Obj.mapFields (·.setIfInBounds 1 (rawInt ((i:Int)+1))))) it f (i+1) d n ep:=by
 unfold SIt;rw[yE _ x O];rfl
def SIt.slot{i d n ep:Nat}(x:SIt h it f i d n ep)(k:Nat):SIt (h.update it (Obj.mapFields (·.setIfInBounds 0 (rawInt k)))) it (.int k 0) i d n ep:=by
 unfold SIt;rw[yE _ x O];rfl
def SIt.at{i d n ep:Nat}(x:SIt h it f i d n ep)(k:∀o,h.get? it=!o->h'.get? it=!o):SIt h' it f i d n ep:=k _ x
def SAt.at{es:Array (Int×Value)}{ep:Nat}(x:SAt h d es ep t)(k:∀o,h.get? d=!o->h'.get? d=!o):SAt h' d es ep t:=by
 let⟨o,e,r⟩:=x;show⟨o,k _ e,r⟩
def dX{h:Heap}{it b:Addr}{f:Obj->Obj}{o:Obj}(hb:b≠it)(e:h.get? b=!o):(h.update it f).get? b=!o:=(yA _ _ (rV hb)).trans e
def L7(h:Heap)(T:Addr)(pl:TM):Prop:=h.get? T=!{cls:=.type "tuple",data:=.seq (pl.map λp:Nat=>rawInt p).toArray}
def vk(a b:Array GenState):Prop:=b=a
section
variable{prog:Program}{w:World}{A:Around}
def Ew{i d n ep:Nat}{Q:TH}{E:TH}(x:SIt s.heap it f i d n ep)(q:Q (.ref it) s):wpAny (model prog w) A (pyIter (.ref it)) Q E s:=by
 let hT:s.TypeIs (.ref it) "set_iterator":=⟨_,x,O⟩;show wpAny_pyIter_slot hT L4 (uN L4 hT WI ?_ (WM _));show wpAny _ _ (ret (.ref it)) _ _ s;show qM ⟨_,O, "set_iterator",_,hT,vj.lookup,q⟩
def qe(k:∀b o,b≠it->s.heap.get? b=!o->h'.get? b=!o):Moved [it] vk s {s with heap:=h'} :=
 ⟨λb o hb e=>k b o ‹hb› e,O,O,O,qG _⟩
def WP(hh:A.handled=none)(n1:d≠it)(n2:T≠it){es:Array (Int×Value)}{ep:Nat}{pl:TM}{ord:List (Int×Value)}(hl:ord⁻¹=es.size)(hp:∀i,i<es.size->∃p e,pl[i]?=!p/\es[p]?=!e/\ord[i]?=!e)(dO:pl⁻¹=es.size) :
  WalksS prog w A it [it,d,T] [it] vk es.size (λi v=>∃e,ord[i]?=!e/\e.2=v) (λi s=>SIt s.heap it (.ref T) i d es.size ep/\SAt s.heap d es ep t/\L7 s.heap T pl) where
 sub:=λb hb=>by simp at hb;simp[hb]
 grefl:=λ_=>rfl
 gtrans:=λ_ _ _ h1 h2=>h2.trans h1
 frame:=λi s h' tk st _ k=>⟨st.1.at λo e=>k it ∅ o e,st.2.1.at λo e=>k d ∅ o e,k T ∅ _ st.2.2⟩
 item:=λi s Q E hi st q=>by
  let⟨x1,x2,x3⟩:=st;let⟨p,e,e1,e2,e3⟩:=hp i hi;show qa x1 (qb x1 x2 O ?_);show qC (yL x3 O ?_);dsimp only;let vm:((pl.map λp:Nat=>rawInt p).toArray)[i]?=!.int p 0:=by simp[e1,rawInt]
  rw[vm];dsimp only;let⟨o,ho,hd,hf⟩:=id x2;show qC ?_;unfold setNextDrawn;show qC (yH ho hd hf ?_);dsimp only;rw[qX ∅,yR,e2];show qM ?_;show qC (uF x1 O ∅ ?_);show qM ⟨_,O,q _ _ ⟨e,e3,O⟩ ⟨x1.turn,x2.at λo z=>dX n1 z,dX n2 x3⟩ (qe λb o hb z=>dX hb z)⟩
 done:=λs Q E st q=>by
  let⟨x1,x2,x3⟩:=st;show qa x1 (qb x1 x2 O ?_);show qC (yL x3 O ?_);dsimp only;let vm:((pl.map λp:Nat=>rawInt p).toArray)[es.size]?=none:=by simp[dO]
  rw[vm];dsimp only;show qC (uF x1 O ∅ ?_);show qC (uF (x1.slot 0) O ∅ ?_);show Ev hh _ λh' k=>q _ (qe λb o hb z=>k b o (dX hb (dX hb z)))
 self:=λi s Q E st q=>Ew st.1 q
def WQ(hh:A.handled=none)(hT:w.params.followText "set-order" = true)(n1:d≠it){es:Array (Int×Value)}{ep:Nat} :
  WalksS prog w A it [it,d] [it] vk es.size (λi v=>∃e,(pickOrder (w.params.setOrder d ep) es).toList[i]?=!e/\e.2=v) (λi s=>(∃k:Nat,SIt s.heap it (.int k 0) i d es.size ep)/\SAt s.heap d es ep t) where
 sub:=λb hb=>by simp at hb;simp[hb]
 grefl:=λ_=>rfl
 gtrans:=λ_ _ _ h1 h2=>h2.trans h1
 frame:=λi s h' tk st _ k=>⟨st.1.imp λ_ z=>z.at λo e=>k it ∅ o e,st.2.at λo e=>k d ∅ o e⟩
 item:=λi s Q E hi st q=>by
  let⟨⟨k,x1⟩,x2⟩:=st;let sz:(pickOrder (w.params.setOrder d ep) es).size=es.size:=by simpa using(Eu (w.params.setOrder d ep) es).length_eq
  let bW:i<(pickOrder (w.params.setOrder d ep) es).size:=by rw[sz];show hi
  show qa x1 (qb x1 x2 O ?_);dsimp only;let⟨o,ho,hd,hf⟩:=id x2;show qC ?_;unfold setNext setsByText;show qC (yH ho hd hf ?_);show qC (qC (yW (qM ?_)));show wpAny _ _ (if(w.params.followText "set-order")=true then _ else _) _ _ _;rw[qZ hT,qX ∅];show qC ?_;unfold setWalk setsByText;show qC (yH ho hd hf ?_);show qC (qC (yW (qM ?_)));show wpAny _ _ (if(w.params.followText "set-order")=true then _ else _) _ _ _;rw[qZ hT];show qC (yW (qM ?_));show qM ?_;let eg:(pickOrder ((model prog w).w.params.setOrder d ep) es)[i]?=!(pickOrder (w.params.setOrder d ep) es)[i]:=yP bW;rw[eg];dsimp only[Option.map_some];show qC (uF x1 O ∅ ?_);show qC (uF (x1.slot _) O ∅ ?_);show qM ⟨_,O,q _ _ ⟨_,by rw[vB,yP bW],O⟩ ⟨⟨_,(x1.slot _).turn⟩,x2.at λo z=>dX n1 (dX n1 z)⟩ (qe λb o hb z=>dX hb (dX hb z))⟩
 done:=λs Q E st q=>by
  let⟨⟨k,x1⟩,x2⟩:=st;let sz:(pickOrder (w.params.setOrder d ep) es).size=es.size:=by simpa using(Eu (w.params.setOrder d ep) es).length_eq
  show qa x1 (qb x1 x2 O ?_);dsimp only;let⟨o,ho,hd,hf⟩:=id x2;show qC ?_;unfold setNext setsByText;show qC (yH ho hd hf ?_);show qC (qC (yW (qM ?_)));show wpAny _ _ (if(w.params.followText "set-order")=true then _ else _) _ _ _;rw[qZ hT,qX ∅];show qC ?_;unfold setWalk setsByText;show qC (yH ho hd hf ?_);show qC (qC (yW (qM ?_)));show wpAny _ _ (if(w.params.followText "set-order")=true then _ else _) _ _ _;rw[qZ hT];show qC (yW (qM ?_));show qM ?_;let eg:(pickOrder ((model prog w).w.params.setOrder d ep) es)[es.size]?=none:=vN (by show(pickOrder (w.params.setOrder d ep) es).size<=es.size;omega);rw[eg];dsimp only[Option.map_none];show qC (uF x1 O ∅ ?_);show Ev hh _ λh' k=>q _ (qe λb o hb z=>k b o (dX hb z))
 self:=λi s Q E st q=>by
  let⟨k,x1⟩:=st.1;show Ew x1 q
end
def L8{xs:Array Nat}{j:Nat}(h:xs.size=1):SetTable.below xs j=if xs.getD 0 j<j then 1 else 0:=by
 unfold SetTable.below;rw[h];show(if 0<1 then if xs.getD ((0+1) / 2) j<j then SetTable.below.go xs j 0 ((0+1) / 2+1) 1 else SetTable.below.go xs j 0 0 ((0+1) / 2)else 0)=_;rw[qZ {}];rfl
section
variable{prog:Program}{w:World}{A:Around}{E:TH}{s:Shared}
def L9(hT:w.params.followText "set-order" = false){es:Array (Int×Value)}{ep k i:Nat}(x:SAt s.heap d es ep t)(h1:es.size<=1)(hL:t.led=true){Q:Option (Value×Nat)->Shared->Prop}(q:Q (match es[SetTable.below t.place k]?,t.place[SetTable.below t.place k]? with | some (_,x),!j=>!(x,j+1) | _,_=>none) s):wpAny (model prog w) A (setNext d k i ep) Q E s:=by
 let⟨o,ho,hd,hf⟩:=x;unfold setNext setsByText;show qC (yH ho hd hf ?_);show qC (qC (yW (qM ?_)));show wpAny _ _ (if(w.params.followText "set-order")=true then _ else _) _ _ _;rw[hT,qX qU];let e1:((Bool.not (t.plain)) && decide (es.size>1))=false:=by rw[rB (),Bool.and_false]
 show wpAny _ _ (if((Bool.not (t.plain)) && decide (es.size>1))=true then _ else _) _ _ _;rw[e1,qX qU];show qC ?_;show wpAny _ _ (if((Bool.not (t.led)) && (Bool.not (es.isEmpty)))=true then _ else _) _ _ _;rw[hL,qX ∅];show qM (qM q)
def WR(hh:A.handled=none)(hT:w.params.followText "set-order" = false)(n1:d≠it){es:Array (Int×Value)}{ep:Nat}(h1:es.size<=1)(hL:t.led=true) :
  WalksS prog w A it [it,d] [it] vk es.size (λi v=>∃e,es.toList[i]?=!e/\e.2=v)
   (λi s=>((i=0/\SIt s.heap it (.int ((0:Nat):Int) 0) 0 d es.size ep)\/(i=1/\∃j:Nat,t.place[0]?=!j/\SIt s.heap it (.int ((j+1:Nat):Int) 0) 1 d es.size ep))/\SAt s.heap d es ep t) where
 sub:=λb hb=>by simp at hb;simp[hb]
 grefl:=λ_=>rfl
 gtrans:=λ_ _ _ h1 h2=>h2.trans h1
 frame:=λi s h' tk st _ k=>by
  show⟨?_,st.2.at λo e=>k d ∅ o e⟩;rcases st.1 with⟨z,x⟩ | ⟨z,j,zj,x⟩
  .show .inl ⟨z,x.at λo e=>k it ∅ o e⟩
  .show .inr ⟨z,j,zj,x.at λo e=>k it ∅ o e⟩
 item:=λi s Q E hi st q=>by
  let⟨st,x2⟩:=st;let sz:es.size=1:=()
  rcases st with⟨rfl,x1⟩ | ⟨rfl,_⟩
  case inr=>omega
  let⟨o,ho,hd,hf⟩:=id x2;let ps:t.place.size=1:=by
   have:=hf;simp only[SetTable.fits,Bool.and_eq_true,beq_iff_eq]at this;omega
  let b0:SetTable.below t.place 0=0:=by rw[L8 ps,qX (xP _)]
  obtain⟨e,ee⟩:∃e,es[0]?=!e:=⟨es[0],by simp[sz]⟩;obtain⟨j,ej⟩:∃j,t.place[0]?=!j:=⟨t.place[0],by simp[ps]⟩;show qa x1 (qb x1 x2 O ?_);dsimp only;show qC (L9 hT x2 h1 hL ?_);rw[yR,b0,ee,ej];dsimp only;show qC (uF x1 O ∅ ?_);show qC (uF (x1.slot _) O ∅ ?_);show qM ⟨_,O,q _ _ ⟨e,by rw[vB,ee],O⟩ ⟨.inr ⟨O,j,ej,(x1.slot _).turn⟩,x2.at λo z=>dX n1 (dX n1 z)⟩ (qe λb o hb z=>dX hb (dX hb z))⟩
 done:=λs Q E st q=>by
  let⟨st,x2⟩:=st;let⟨o,ho,hd,hf⟩:=id x2;let ps:t.place.size=es.size:=by
   have:=hf;simp only[SetTable.fits,Bool.and_eq_true,beq_iff_eq]at this;omega
  let fin:∀(k:Nat),SIt s.heap it (.int (k:Int) 0) es.size d es.size ep->es[SetTable.below t.place k]?=none->wpAny (model prog w) A (pyNext (.ref it)) Q E s:=λk x1 en=>by
   show qa x1 (qb x1 x2 O ?_);dsimp only;show qC (L9 hT x2 h1 hL ?_);rw[yR,en];dsimp only;show qC (uF x1 O ∅ ?_);show Ev hh _ λh' k=>q _ (qe λb o hb z=>k b o (dX hb z))
  rcases st with⟨z,x1⟩ | ⟨z,j,ej,x1⟩
  .let Ey:SIt s.heap it (.int ((0:Nat):Int) 0) es.size d es.size ep:=by rw[z]at x1⊢;show x1
   show fin 0 Ey ?_;rw[vN ()]
  .let Ey:SIt s.heap it (.int ((j+1:Nat):Int) 0) es.size d es.size ep:=by rw[z]at x1⊢;show x1
   show fin (j+1) Ey ?_;let lt:t.place.getD 0 (j+1)<j+1:=by
    rw[Array.getD_eq_getD_getElem?,ej];show rW _
   rw[L8 (),qZ lt,vN ()]
 self:=λi s Q E st q=>by
  rcases st.1 with⟨_,x⟩ | ⟨_,_,_,x⟩<;>show Ew x q
def WS{es:Array (Int×Value)}{ep:Nat}(hh:A.handled=none)(ho:s.heap.get? d=!o)(hex:o.ExactSet)(hd:o.data=.set es ep t)(hf:t.fits es.size=true)(hb:es.size<=sizeLine)(hp:t.plain=false\/es.size=0)(hL:t.led=(Bool.not ((w.params.followText "set-order")))){Q:TH}(q:∀(it:Addr) (fp:TQ) (h':Heap) (d':Drawn) (ord:List (Int×Value)) (St:Nat->Shared->Prop),~~~s<=it->it<h'.objs.size->(∀b o,s.heap.get? b=!o->h'.get? b=!o)->(∀b∈fp,b=d\/(~~~s<=b/\b<h'.objs.size))->ord.Perm es.toList ->
   (∀A':Around,A'.handled=none->WalksS prog w A' it fp [it] vk es.size (λi v=>∃e,ord[i]?=!e/\e.2=v) St)->St 0 {s with heap:=h',drawn:=d'}->Q (.ref it) {s with heap:=h',drawn:=d'}) :
  wpAny (model prog w) A (pyIter (.ref d)) Q E s:=by
 let hT:s.TypeIs (.ref d) "set":=⟨o,ho,hex.1⟩;let vn:=qK ho;let xd:SAt s.heap d es ep t:=⟨o,ho,hd,hf⟩;show wpAny_pyIter_slot hT F.slot_set_iter (uN F.slot_set_iter hT WJ ?_ (F.args_set_iter_1 _));unfold Builtin.«frozenset.__iter__»;show qC (qM ?_);unfold Builtin.Frozenset.sizeOf setDrawn setsByText setEpoch;show qC (qC (wpAny_setEntries_of ho hd hf (qM ?_)));show qC (qC (yH ho hd hf (qC (qC (yW (qM (qM ?_)))))));show wpAny _ _ (if((Bool.not ((w.params.followText "set-order"))) && ((Bool.not (t.plain)) && decide (es.size>1)))=true then _ else _) _ _ _;let Ma:∀{h:Heap} {o1:Obj},h.objs.size<(h.push o1).objs.size:=λ{h o1}=>by rw[rM];show rW _
 by_cases dr:((Bool.not ((w.params.followText "set-order"))) && ((Bool.not (t.plain)) && decide (es.size>1)))=true
 .rw[qZ dr];show qC (L6 _ _ _ _ ∅ λpl d' pm=>?_);let Mb:pl⁻¹=es.size:=‹pm.length_eq›
  show qC (yZ ?_ ?zz)
  case zz=>show(List.map _ pl).toArray.size<=sizeLine;rw[qY,qA];omega
  show qC (qC (yH (s:={s with heap:=_,drawn:=d'}) (qE _ ho) hd hf (qM ?_)));show qC (yZ (qM ⟨_,O, "set_iterator",_,⟨_,qR _ O,O⟩,vj.lookup,?_⟩));let WT:∀p∈pl,p<es.size:=λp hp=>by simpa using pm.mem_iff.mp hp
  let e0:(pl.map λp=>es.toList.getD p (0,.none)).Perm es.toList:=by
   show(pm.map _).trans (List.Perm.of_eq ?_);apply vD;intro i;rw[qJ]
   by_cases hi:i<es.size
   .rw[xA hi];simp[hi]
   .rw[xM ‹hi›,xM ‹hi›];rfl
  rw[rM];show q (~~~s+1) [~~~s+1,d,~~~s] _ d' (pl.map λp=>es.toList.getD p (0,.none)) (λi s1=>SIt s1.heap (~~~s+1) (.ref (~~~s)) i d es.size ep/\SAt s1.heap d es ep t/\L7 s1.heap (~~~s) pl) (yS _) ?_ (λb o e=>qE _ (qE _ e)) (λb hb=>?_) e0 (λA' hA=>?_) ⟨?_,(xd.at λo e=>qE _ (qE _ e)),qE _ (qR _ O)⟩
  .rw[rM,rM];show rW _
  .rcases qN.mp hb with rfl | hb
   .show .inr ⟨yS _,by rw[rM,rM];show rW _⟩
   .rcases qN.mp hb with rfl | hb
    .show .inl O
    .have:b= ~~~s:=‹hb›
     subst this;show .inr ⟨qG _,by rw[rM,rM];show xQ (rW _)⟩
  .show WP hA (rC (xQ vn)) (rC (rW _)) (by rw[qA,Mb]) (λi hi=>?_) Mb;let bW:i<pl⁻¹:=()
   let hp:=WT pl[i] (rJ bW);show⟨pl[i],es[pl[i]],by simp[bW],by simp[hp],by simp[bW,hp]⟩
  .let ez: ~~~s+1=(s.heap.push {cls:=.type "tuple",data:=.seq (pl.map λi:Nat=>rawInt i).toArray}).objs.size:=by rw[rM]
   unfold SIt;rw[ez];show qR _ O
 .rw[if_neg dr];show qC (qM ?_);show qC (qC (yH ho hd hf (qM ?_)));show qC (yZ (qM ⟨_,O, "set_iterator",_,⟨_,qR _ O,O⟩,vj.lookup,?_⟩));let Bj:∀{h':Heap},h'.objs.size= ~~~s+1->∀b∈[~~~s,d],b=d\/(~~~s<=b/\b<h'.objs.size):=λ{h'} hz b hb=>by
   rcases qN.mp hb with rfl | hb
   .show .inr ⟨qG _,by rw[hz];show rW _⟩
   .show .inl ‹hb›
  cases Bl:w.params.followText "set-order" with
  | true =>
    show q _ [~~~s,d] _ s.drawn (pickOrder (w.params.setOrder d ep) es).toList (λi s1=>(∃k:Nat,SIt s1.heap (~~~s) (.int k 0) i d es.size ep)/\SAt s1.heap d es ep t) (qG _) Ma (λb o e=>qE _ e) (Bj (by rw[rM])) (Eu _ _) (λA' hA=>WQ hA Bl (rC vn)) ⟨⟨0,qR _ O⟩,xd.at λo e=>qE _ e⟩
  | false =>
    have h1:es.size<=1:=by
      rw[Bl]at dr
      rcases hp with hp | hp
      · rw[hp]at dr
        simp at dr
        omega
      · omega
    show q _ [~~~s,d] _ s.drawn es.toList _ (qG _) Ma (λb o e=>qE _ e) (Bj (by rw[rM])) (vT _) (λA' hA=>WR hA Bl (t:=t) (ep:=ep) (rC vn) h1 (by rw[hL,Bl];rfl)) ⟨.inl ⟨O,qR _ O⟩,xd.at λo e=>qE _ e⟩
end
end L2
namespace L2
open PyProof.Rows
section
variable{prog:Program}{w:World}{A:Around}{E:TH}{s:Shared}
def WU{Q:Bool->Shared->Prop}(hT:s.TypeIs (.ref r) "set")(h:Q false s):wpAny (model prog w) A (Builtin.List.listLengthHint (.ref r)) Q E s:=by
 unfold Builtin.List.listLengthHint;show qC (wpAny_specialOf hT PySem.F.slot_set_len.lookup ?_);generalize Mc:("set.__len__" : String)=nm
 wp_delta
 rw[show splitId nm=!("set", "__len__")from by subst Mc;ac_rfl];subst Mc;show qC (wA (T := "set") (b:=true) hT (by rw[wE];kernel_rfl) ?_);show wB (λz=>qT z {}) (λ_=>?_);show wB (λ_=>?_) (λz=>qT (by ac_rfl) z);show qC (wpAny_typeOf hT (qM h))
def WV{es:Array (Int×Value)}{ep:Nat}(hh:A.handled=none)(ho:s.heap.get? d=!o)(hex:o.ExactSet)(hd:o.data=.set es ep t)(hf:t.fits es.size=true)(hb:es.size<=sizeLine)(hp:t.plain=false\/es.size=0)(hL:t.led=(Bool.not ((w.params.followText "set-order")))){R:TU->Shared->Prop}(fin:∀(h':Heap) (tk:Nat) (d':Drawn) (ord:List (Int×Value)),(∀b o,s.heap.get? b=!o->h'.get? b=!o)->ord.Perm es.toList->R (ord.map (·.2)) {s with heap:=h',toks:=tk,drawn:=d'}) :
  wpAny (model prog w) A (collect (.ref d)) R E s:=by
 let vn:=qK ho;unfold collect;show qC (wpAny_runValue (xV entry_proto_collect' ?_));rw[xI PySem.F.plain_proto_collect _];show wpAny _ A.in1 (newList []>>=λl=>again (.builtin "list.__iadd__" ⟨[l,.ref d],[]⟩)) _ _ s;show qC (yZ ?_);show qM ⟨yV PySem.F.plain_list_iadd _,xV entry_list_iadd' ?_⟩;rw[xI PySem.F.plain_list_iadd _];show wpAny _ A.in1 (Builtin.List.listExtendWith (.ref (~~~s)) (.ref d) (.ref (~~~s))) _ _ {s with heap:=s.heap.push {cls:=.type "list",data:=.seq ([]:TU).toArray}};let g0:(s.heap.push {cls:=.type "list",data:=.seq ([]:TU).toArray}).get? (~~~s)=!{cls:=.type "list",data:=.seq #[]}:=qR _ O;let Ez:(s.heap.push {cls:=.type "list",data:=.seq ([]:TU).toArray}).get? d=!o:=qE _ ho;let Md: ~~~s≠d:=yG vn;unfold Builtin.List.listExtendWith;let hT:Shared.TypeIs {s with heap:=s.heap.push {cls:=.type "list",data:=.seq ([]:TU).toArray}} (.ref d) "set":=⟨o,Ez,hex.1⟩;show qC (wpAny_typeOf hT ?_);let e1:Builtin.List.listSameRef (.ref (~~~s)) (.ref d)=false:=by simp[Builtin.List.listSameRef,Md]
 let e2:(Value.type "set" == Value.type "list")=false:={}
 let e3:(Value.type "set" == Value.type "tuple")=false:={}
 simp only[e1,e2,e3,Bool.or_false,Bool.false_eq_true,if_false];show qC (WS (A:=A.in1) hh Ez hex hd hf hb hp hL λit fp h2 d2 ord St l1 l2 k2 Bj pm W st=>?_);let g2:=k2 _ _ g0;let Me: ~~~s∉fp:=λz=>by
  rcases Bj _ z with e | ⟨e,_⟩
  .show Md e
  .rw[rM]at e;show qT e (Nat.not_succ_le_self _)
 have loop:∀(h3:Heap) (c:Nat),St 0 {s with heap:=h3,drawn:=d2}->(∀b o,s.heap.get? b=!o->h3.get? b=!o)->h3.get? (~~~s)=!{cls:=.type "list",data:=.seq #[] c} ->
   codeAny (model prog w) A (.builtin "list.extend.loop" ⟨[.ref (~~~s),.ref it,.ref (~~~s)],[]⟩) (λr s'=>∃acc h' tk,r=.ok (.ret (.ref (~~~s)))/\s'={s with heap:=h',toks:=tk,drawn:=d2} /\
    (∀b o,s.heap.get? b=!o->h'.get? b=!o)/\(∃c',h'.get? (~~~s)=!{cls:=.type "list",dict:=none,data:=.seq acc c',slots:=#[]})/\acc.toList=ord.map (·.2)) {s with heap:=h3,drawn:=d2}:=by
  intro h3 c kF k3 g3;show codeAny_extend_loopS (W A.in1 hh) hb (~~~s) Me _ es.size 0 _ #[] c O (rL _) kF g3 (ItemsOf.nil _) λs' acc c' mv g4 items=>?_
  let⟨h',g',dd,kQ,kG⟩:=s';obtain rfl:g'=s.gens:=mv.gens;obtain rfl:dd=d2:=mv.drawn;obtain rfl:kG=s.os:=mv.os;show⟨acc,h',kQ,O,O,λb o e=>mv.heap b o (λz=>?_) (k3 b o e),⟨c',g4⟩,?_⟩
  .let lb:=qK e;rcases qN.mp z with z | z
   .show qT lb (by rw[z];show rP _)
   .let z':b=it:=‹z›
    rw[rM]at l1;show qT lb (by rw[z'];show xF (Nat.le_of_succ_le l1))
  .let lo:ord⁻¹=es.size:=‹pm.length_eq›
   apply vD;intro j;rw[qJ]
   by_cases hj:j<acc.size
   .let⟨e,z1,z2⟩:=items.2 j acc[j] (by simp[hj]);rw[z1,vB,yP hj,<-z2];rfl
   .let ha:acc.size=es.size:=items.1;rw[xM ‹xW hj›,xM ()];rfl
 show qC (xZ (WU ⟨o,k2 _ _ Ez,hex.1⟩ ?_));show wB (λ_=>?_) (λ_=>?_)
 .refine qC (wpAny_rule (qC ?_));show wpAny _ _ (updateSeq (~~~s) (·.push .none)>>=λ_=>updateSeq (~~~s) (·.pop)) _ _ _;show qC (u9 g2 O ?_);let g3:=yE (Obj.mapSeq (·.push Value.none)) g2 O;show u9 (hz:=by seq_fits) g3 O ?_;let g4:=yE (Obj.mapSeq (·.pop)) g3 O;show qM ⟨yV PySem.F.plain_extend_loop _,uT (loop _ _ ?_ (λb o e=>dX ?_ (dX ?_ (k2 _ _ (qE _ e)))) g4) λr s' x=>?_⟩
  .show(W A.in1 hh).frame 0 _ _ _ st (qG _) λb hb o e=>by
    let nb:b≠~~~s:=λz=>Me (z ▸ hb)
    show dX nb (dX nb e)
  .show rC (qK e)
  .show rC (qK e)
  .let⟨acc,h',tk,rfl,rfl,k,⟨c',g⟩,ea⟩:=x;show wpAny _ A (load (~~~s)>>=_) _ _ _;show qC (wpAny_load g ?_);show wpAny _ _ (pure acc.toList) _ _ _;rw[ea];show qM (fin h' tk d2 ord k pm)
 .show qM ⟨yV PySem.F.plain_extend_loop _,uT (loop _ _ st (λb o e=>k2 _ _ (qE _ e)) g2) λr s' x=>?_⟩;let⟨acc,h',tk,rfl,rfl,k,⟨c',g⟩,ea⟩:=x;show wpAny _ A (load (~~~s)>>=_) _ _ _;show qC (wpAny_load g ?_);show wpAny _ _ (pure acc.toList) _ _ _;rw[ea];show qM (fin h' tk d2 ord k pm)
def WW{es:Array (Int×Value)}{ep:Nat}(hh:A.handled=none)(ho:s.heap.get? d=!o)(hex:o.ExactSet)(hd:o.data=.set es ep t)(hf:t.fits es.size=true)(hb:es.size<64)(hp:t.plain=false\/es.size=0)(hL:t.led=(Bool.not ((w.params.followText "set-order"))))(hS:StrsAre (es.toList.map (·.2)) ks){Q:TH}(fin:∀(D:Addr) (h':Heap) (tk:Nat) (d':Drawn) (out:TU) (ss:TV) (c:Nat),s.heap.get? D=none->(∀b o,s.heap.get? b=!o->h'.get? b=!o)->h'.get? D=!{cls:=.type "list",data:=.seq out.toArray c}->StrsAre out ss->ss.Perm ks->sortedS ss=true->Q (.ref D) {s with heap:=h',toks:=tk,drawn:=d'}) :
  wpAny (model prog w) A (call (.builtin "sorted") [.ref d]) Q E s:=by
 let hb':es.size<=sizeLine:=by rw[sizeLine_eq];omega
 show Calls.call_function_entry kind_sorted plain_sorted entry_sorted (args_sorted1 _) ?_;unfold Builtin.«sorted»;show qC (m:=checkCount "sorted" 1 1 _) (qM ?_);show qC (WV (A:=A.in1) hh ho hex hd hf hb' hp hL λh1 tk d1 ord k1 pm=>?_);let ln:(ord.map (·.2))⁻¹=es.size:=by rw[qA];simpa using pm.length_eq
 show qC (wpAny_newList ?_ (by rw[ln];show hb'));let gD:(h1.push {cls:=.type "list",data:=.seq (ord.map (·.2)).toArray}).get? h1.objs.size=!seqObj "list" (ord.map (·.2)).toArray 0:=qR _ O;obtain⟨bZ,sk,pk⟩:∃bZ,StrsAre (ord.map (·.2)) bZ/\bZ.Perm ks:=by
  show⟨(ord.map (·.2)).map strOf,strsAre_map _ λv hv=>?_,?_⟩
  .let⟨e,he,rfl⟩:=qO.mp hv;show hS.all _ (qO.mpr ⟨e,pm.mem_iff.mp he,O⟩)
  .rw[<-hS.strs];show(pm.map _).map _
 show qC (xZ (uN slot_list_sort ⟨_,gD,O⟩ entry_list_sort (list_sort_treeK strKind_oneLt gD sk.keysOf (λv1 v2 rest e=>keyKind_strs (by rw[<-e];show sk)) (by rw[ln];show hb) λaO a1 a2=>-⟨?_⟩) (args_list_sort _)));let⟨ss,h3,h4,h5⟩:=sorted_out_str sk a1 a2;show qM ⟨_,O,?_⟩;obtain⟨c,gc⟩:∃c,(sortedHeap (h1.push {cls:=.type "list",data:=.seq (ord.map (·.2)).toArray}) h1.objs.size (ord.map (·.2)) ((arrOf aO).map (·.2))).get? h1.objs.size=!seqObj "list" ((arrOf aO).map (·.2)) c:=by
  have:=sortedHeap_at (out:=(arrOf aO).map (·.2)) gD;show this
 let lS:s.heap.get? h1.objs.size=none:=by
  cases z:s.heap.get? h1.objs.size with
  | none=>rfl
  | some o=>show qT (qK (k1 _ _ z)) (rP _)
 show fin h1.objs.size _ tk d1 ((arrOf aO).map (·.2)).toList ss c lS (λb o e=>?_) ?_ h3 (h4.trans pk) h5
 .let lb:=qK (k1 b o e);rw[sortedHeap_old (rC lb) (by rw[rM];show xQ lb)];show qE _ (k1 b o e)
 .rw[gc]
end
def Inv.dr{aa:TF}(I:Inv X aa σ H s)(d':Drawn):Inv X aa σ H {s with drawn:=d'}:=⟨I.ok,I.os,I.bare,I.base,I.loc,I.cell,I.free,I.freeC,I.pin,I.hok,I.len⟩
def Mf{κ:Type}[DecidableEq κ]{k:κ}{l:List κ}:decide (k∈l)=true↔k∈l:=decide_eq_true_iff
def dq(ks:TV):TV:=ks.foldl cL []
def WX{κ:Type}[DecidableEq κ]{l:List κ}{v:κ}(h:l.Nodup):(cL l v).Nodup:=by
 unfold cL
 split
 .show h
 .rename_i n;rw[vO];show⟨h,∅,λa ha b hb=>?_⟩;have:b=v:=‹hb›
  subst this;show λz=>n (z ▸ ha)
theorem Mg{κ:Type}[DecidableEq κ]:∀(ks l:List κ),l.Nodup->(ks.foldl cL l).Nodup
 | [],l,h=>h
 | k::ks,l,h=>Mg ks (cL l k) (WX h)
theorem Mh{κ:Type}[DecidableEq κ](x:κ):∀(ks l:List κ),x∈ks.foldl cL l↔x∈l\/x∈ks
 | [],l=>∅
 | k :: ks, l => by
   rw[xK,Mh x ks]
   have:x∈cL l k↔x∈l\/x=k:=by
     have:=LU l k x
     rw[uA]at this
     simpa using this
   rw[this,qN,or_assoc]
def Mj(ks:TV):(dq ks).Nodup:=Mg ks [] vV
def WY(ks:TV)(x:Str):x∈dq ks↔x∈ks:=by unfold dq;rw[Mh];simp
theorem Mk{κ ρ:Type}[DecidableEq κ][DecidableEq ρ](f:κ->ρ)(inj:∀a b,f a=f b->a=b):∀(ks l:List κ),(ks.map f).foldl cL (l.map f)=(ks.foldl cL l).map f
 | [],l=>rfl
 | k :: ks, l => by
   rw[xY,xK,xK,<-Mk f inj ks (cL l k)]
   congr 1
   unfold cL
   by_cases z:k∈l
   · rw[qZ z,qZ (uU z)]
   · rw[qX z,qX (λq=>by
       let⟨a,ha,e⟩:=qO.mp q
       show z (inj _ _ e ▸ ha))]
     simp
theorem Ml{κ:Type}[DecidableEq κ]:∀(m l:List κ),m.Nodup->(∀x∈m,x∈l)->l⁻¹=m⁻¹->l.Perm m
 | [], l, _, _, h => by
   have:l=[]:=vM.mp h
   rw[this]
 | x :: m, l, nd, sub, h => by
   let hx:=sub x rF
   let⟨nx,nm⟩:=u6.mp nd
   let p:=List.perm_cons_erase hx
   show p.trans (List.Perm.cons _ (Ml m (l.erase x) nm (λy hy=>?_) ?_))
   · show(List.mem_erase_of_ne (λz:y=x=>nx (z ▸ hy))).mpr (sub y (qW _ hy))
   · rw[List.length_erase_of_mem hx,h]
     rfl
def jf(w:World)(d:Addr)(ks:TV):HO:=.ext λh=>∃o es ep t,h.get? d=!o/\o.ExactSet/\o.data=.set es ep t/\t.fits es.size=true/\(t.plain=false\/es.size=0)/\t.led=(Bool.not ((w.params.followText "set-order"))) /\
 es.size<scanBound/\∃us,StrsAre (es.toList.map (·.2)) us/\us.Perm ks
section
variable{X:Cx}
def WZ(hc:X.calm=true):dB X (.type "set") (λxs H Q=>∃(p:Addr) (ks:TV),xs=[.ref p]/\SqL X.K H p (ks.map V.str)/\ks⁻¹+1<scanBound/\∀d,H d=none->Q (.ref d) (af H d (jf X.w d (dq ks)))):=by
 intro aa s σ H xs us Q I r h;let⟨p,ks,rfl,hp,hb,q⟩:=h;let⟨u,rfl,rx⟩:=vals1 r;cases rx;let⟨ah,rv,pl,hz⟩:=I.list hp;let bK:ah.toArray.size=ks⁻¹:=by rw[qY,<-rv⁻¹,qA]
 show WE (knd:=fD X.prog X.w) (val:=λi=>Sum.inr (ks.getD i Str.empty)) (I.ok.hd hc) pl.isList (λi v e=>?_) (by rw[bK];show hb) λh' tk x np kp=>?_
 .let e':ah[i]?=!v:=‹e›
  let hi:i<ks⁻¹:=by rw[<-bK,qY];show(qF.mp e').1
  let⟨u,e2,r2⟩:=rv.get (i:=i) (x:=.str ks[i]) (by rw[qJ,qB hi];rfl);rw[e']at e2;cases e2;let⟨t,rfl⟩:=r2;let eg:ks.getD i Str.empty=ks[i]:=by simp[hi]
  show⟨_,t,O,by rw[eg];show JQ _ _ _ _⟩
 .have em:met (λi=>(Sum.inr (ks.getD i Str.empty):aW)) ah.toArray.size=(dq ks).map (Sum.inr:Str->aW):=by
   unfold met dq;rw[bK,<-Mk (Sum.inr:Str->aW) (λa b e=>Sum.inr.inj e) ks []]
   congr 1
   apply vD;intro i;rw[qJ,qJ]
   by_cases h:i<ks⁻¹
   .rw[xA h,qB h];simp[h]
   .rw[xM ‹xW h›,xM (xW h)];rfl
  rw[em]at x;let keep:∀b o,s.heap.get? b=!o->h'.get? b=!o:=λb o e=>kp b o (qK e) e
  let hn:H (~~~s)=none:=I.hok.fresh (qG _);show⟨.ref (~~~s),_,I.laid (o:=jf X.w (~~~s) (dq ks)) keep (qG _) ?_,O,q _ hn⟩;let⟨o,es,ep,t,ho,hex,hd,kP,vo,Bm,hf,hsz⟩:=x;let⟨o',nQ,tD,t',e1,e2,e3,e4⟩:=np;rw[ho]at e1;cases e1;rw[hd]at e2;cases e2;let all:∀e∈es.toList,∃y tk,e.2=.str y tk/\y∈dq ks:=λe he=>by
   let⟨⟨k,hk,_⟩,_⟩:=kP e he;let t0:=(vo k).mpr ⟨e,he,hk⟩;let this:k∈(dq ks).map (Sum.inr:Str->aW):=Mf.mp t0;let⟨y,hy,rfl⟩:=qO.mp this;rcases i4 (show lZ (Sum.inr y) e.2=true from hk)with⟨i,t,z,_⟩ | ⟨z,t,zz,ez⟩
   .cases z
   .cases zz;show⟨y,t,ez,hy⟩
  let W0:StrsAre (es.toList.map (·.2)) ((es.toList.map (·.2)).map strOf):=strsAre_map _ λv hv=>by
   let⟨e,he,rfl⟩:=qO.mp hv;let⟨y,tk,e1,_⟩:=all e he;show⟨y,tk,e1⟩
  show⟨⟨o,es,ep,t,ho,hex,hd,hf,e3,e4,Bm,_,W0,?_⟩,⟨o,ho⟩,λg1 g2 y k=>?_⟩
  .show Ml _ _ (Mj ks) (λy hy=>?_) ?_
   .let⟨e,he,hk⟩:=(vo (Sum.inr y)).mp (Mf.mpr (uU hy));rcases i4 (show lZ (Sum.inr y) e.2=true from hk)with⟨i,t,z,_⟩ | ⟨z,t,zz,ez⟩
    .cases z
    .cases zz;rw[rZ];show qO.mpr ⟨e,he,by show strOf e.2=y;rw[ez];rfl⟩
   .rw[qA,qA,xG,hsz,qA]
  .let⟨o1,bQ,vm,t1,z1,z2⟩:=y;show⟨o1,bQ,vm,t1,k _ z1,z2⟩
def W1(hc:X.calm=true)(hex:X.ex=[]):dB X (.builtin "sorted") (λxs H Q=>∃(d:Addr) (ks:TV),xs=[.ref d]/\H d=!jf X.w d ks/\ks⁻¹<64/\∀D ss,H D=none->ss.Perm ks->sortedS ss=true->Q (.ref D) (af H D (.lst (ss.map V.str)))):=by
 intro aa s σ H xs us Q I r h;let⟨d,ks,rfl,hd,fI,q⟩:=h;let⟨u,rfl,rx⟩:=vals1 r;cases rx;let⟨⟨o,es,ep,t,ho,W2,W3,hf,hp,hL,hb,bZ,st,pm⟩,_⟩:=I.hok d _ hd;let ls:es.size=ks⁻¹:=by
  let h1:=st⁻¹;rw[qA,xG]at h1;rw[h1,pm.length_eq]
 show WW (I.ok.hd hc) ho W2 W3 hf () hp hL st λD h' tk d' out ss c hD kp hg hs ps so=>?_
 have HD:H D=none:=by
  cases z:H D with
  | none=>rfl
  | some v =>
    let⟨o,e⟩:=(I.hok D v z).at
    rw[hD]at e
    cases e
 let pk:=ps.trans pm;let I2:=(I.kept (t':=tk) kp).dr d';let DL:D≠X.env.locals:=λz=>by
  have:=qK (Classical.choose_spec (let⟨m,⟨o,_,_,e,_⟩,_⟩:=I.loc;⟨o,e⟩:∃o,s.heap.get? X.env.locals=!o));let⟨m,⟨o,_,_,e,_⟩,_⟩:=I.loc;rw[z,e]at hD;cases hD
 show⟨.ref D,_,I2.track (o:=.lst (ss.map V.str)) ?_ HD DL (λz c e w'=>?_) (λz hz w'=>?_) ?_,O,q D ss HD pk so⟩
 .cases z:X.s₀.heap.get? D with
  | none=>rfl
  | some o =>
    let⟨o',e⟩:=I.base.there D o z (by rw[hex];simp)
    rw[hD]at e
    cases e
 .let⟨v,o,e1,_⟩:=I.cell z c e;rw[w',hD]at e1;cases e1
 .let e:=(I.pin z hz).1;rw[w',hD]at e;cases e
 .let vs:∀{out:TU} {ss:TV},StrsAre out ss->Vals (ss.map V.str) out:=λ{out ss} h=>by
   induction h with
   | nil=>show .nil
   | cons x t _ ih=>show .cons ⟨t,O⟩ ih
  show⟨?_,out,c,vs hs,hg⟩;rw[qA,pk.length_eq];show rX (aR ())
end
structure Fx(P:Program)(w:World)(K:W.Frag)(mg:TJ)(base:Heap)(CX:dg)(k:Nat)(x:Str)(ps:TV)(sp:Sp):Prop where
 ex:∃f fd,aN P w K mg base CX k f fd ps sp/\Binds K fd ps []/\W.keepIn K (.ref f)=true/\mg x=!.ref f
section
variable{X:Cx}{CX:dg}{k:Nat}{ps:TV}{sp:Sp}{E:XK}{x:Str}{p pos:Pos}{e:Expr}{es:TW}{t:TA}
def Mm(F:Fx X.prog X.w X.K X.mg X.base CX k x ps sp)(hr:Room k X.A)(hg:Gl X x)(hx:ua CX X E)(ha:PA X (e::es) t)(gO:(x == ("__debug__" : Str))=false:=by decide)(he:starEach (e::es) X.env=(false,eval e X.env)::starEach es X.env:=by rfl)(dO:(backTo pos (starEach es X.env)).any (·.1)=false:=by rfl):PE X (.Call (.Name x p) (e::es) [] pos) (AW sp [] E t):=by
 let⟨f,fd,G,b,kp,m⟩:=F.ex;show K' G hr hg m kp b .nil hx ha gO he dO
end
def CompScope.frees{X:Cx}{scope:Scope}{own fr:TV}{ix:TM}(h1:scope.kind=.function)(h2:∀y∈scope.names,y.2≠.cell)(h3:∀y∈scope.names,y.2=.local->scope.names.lookup y.1=!.local)(h4:∀y∈scope.names,y.2=.free->y.1∈fr)(h5:ix.map (λj=>X.N[j]?)=fr.map some)(h6:∀x∈fr,scope.names.lookup x=!.free)(h7:∀x∈fr,X.env.scope.names.lookup x=!.cell\/X.env.scope.names.lookup x=!.free):CompScope X scope own fr ix :=
 ⟨h1,h2,h3,λy hy hf=>h7 _ (h4 y hy hf),h5,h6⟩
def jO{lo:Int}{n own:Nat}{ix:TM}(Pv:Nat->List V->St->Hp->Prop)(hz:n<sizeLine)(h0:Pv 0 [] (iI own ix σ) H)(hs:∀i ys ae H',i<n->Pv i ys ae H'->g (.int (lo+i)) ae H' λaY H3=>tt aY H3 λb H4=>if b=true then te aY H4 λv H5=>Pv (i+1) (ys++[v]) aY H5 else Pv (i+1) ys aY H4)(hd:∀ys ae H',Pv n ys ae H'->∀D,H' D=none->Q (.ref D) (af H' D (.lst ys))):pW own ix g tt te (ma lo n) σ H Q:=by
 show⟨λi m ys σ H=>m=n-i/\i<=n/\Pv i ys σ H,⟨n,∅,rL _,h0⟩,?_⟩;ext i m ys σ H ⟨rfl,hi,p⟩ hy;show⟨(),?_⟩
 by_cases aX:i<n
 .show .inr ⟨aX,Pv (i+1),λzs ae H' p'=>⟨n-(i+1),(),O,aX,p'⟩,λx H' y=>?_⟩;let⟨e,y⟩:=y;subst e y;show hs i ys σ _ aX p
 .let e:i=n:=()
  subst e;show .inl ⟨qG _,hd ys σ H p⟩
def Mn{K:W.Frag}{a:Addr}{xs:List V}{own:Nat}{ix:TM}{g:TG}{tt:TT}{te:TE}{σ:St}{H:Hp}{Q:VK}(Pv:Nat->List V->St->Hp->Prop)(hz:xs⁻¹<sizeLine)(h0:Pv 0 [] (iI own ix σ) H)(hl:∀i ys ae H',i<=xs⁻¹->Pv i ys ae H'->SqL K H' a xs)(hs:∀i x ys ae H' T,xs[i]?=!x->H' T=none->Pv i ys ae H'->g (.ref T) ae (af H' T (.tup [.int (i:Nat),x])) λaY H3=>tt aY H3 λb H4=>if b=true then te aY H4 λv H5=>Pv (i+1) (ys++[v]) aY H5 else Pv (i+1) ys aY H4)(hd:∀ys ae H',Pv xs⁻¹ ys ae H'->∀D,H' D=none->Q (.ref D) (af H' D (.lst ys))):pW own ix g tt te (p8 K a) σ H Q:=by
 show⟨λi m ys σ H=>m=xs⁻¹-i/\i<=xs⁻¹/\Pv i ys σ H,⟨xs⁻¹,∅,rL _,h0⟩,?_⟩;ext i m ys σ H ⟨rfl,hi,p⟩ hy;let q:=hl i ys σ H hi p;show⟨(),?_⟩
 by_cases aX:i<xs⁻¹
 .show .inr ⟨⟨xs,xs[i],q,by simp[aX]⟩,Pv (i+1),λzs ae H' p'=>⟨xs⁻¹-(i+1),(),O,aX,p'⟩,λx H' y=>?_⟩;let⟨T,z,hT,e1,e2,y⟩:=y;subst e1 e2;show hs i z ys σ _ T (y xs q) hT p
 .let e:i=xs⁻¹:=()
  subst e;show .inl ⟨⟨xs,q,qG _⟩,hd ys σ H p⟩
inductive Mo(neg:Bool):V->V->Hp->VK->Prop
|m d e:di H x d->di H y e->W.kqdOk 9 d=true->W.kqdOk 9 e=true->(d=e->Q (.bl ((Bool.not (neg)))) H)->(d≠e->Q (.bl neg) H)->Mo neg x y H Q
section
variable{X:Cx}
open Classical in
def Bp(hu:X.A.units+64<cLine):cf X (compareOp .NotEq) (Mo true):=by
 intro aa s σ H x y v u Q I rx ry h;let⟨d,e,h1,h2,k1,k2,q1,q2⟩:=h;show Wg hu aa s σ H x y v u Q I rx ry ⟨d,e,h1,h2,k1,k2,?_⟩;rw[qZ O]
 by_cases z:d=e
 .rw[qQ z];show q1 z
 .rw[rB z];show q2 z
end
theorem Mp:∀(nms:TV),DAll H (nms.map V.str) (nms.map W.Dat.str)
 | []=>.nil
 | x::l=>.cons (.str x) (Mp l)
end L2
namespace Gen
open L2 Bk
def W4:bootBuiltins "isinstance" = !.builtin "isinstance":=by ac_rfl
def b_len:bootBuiltins "len" = !.builtin "len":=by ac_rfl
def Mq:bootBuiltins "sorted" = !.builtin "sorted":=by ac_rfl
def qf:bootBuiltins "int" = !.type "int":=by ac_rfl
def W5:bootBuiltins "bool" = !.type "bool":=by ac_rfl
def W6:bootBuiltins "str" = !.type "str":=by ac_rfl
def jP:bootBuiltins "list" = !.type "list":=by ac_rfl
def W7:bootBuiltins "tuple" = !.type "tuple":=by ac_rfl
def W8:bootBuiltins "set" = !.type "set":=by ac_rfl
structure Bn(mg:TJ):Prop where
 isinstance:mg "isinstance" = none
 len:mg "len" = none
 range:mg "range" = none
 sorted:mg "sorted" = none
 int:mg "int" = none
 bool:mg "bool" = none
 list:mg "list" = none
 tuple:mg "tuple" = none
 str:mg "str" = none
 set:mg "set" = none
 enumerate:mg "enumerate" = none
 all:mg "all" = none
 ver:mg "ValueError" = none
def StOk(H:Hp)(st:Addr):=∃x y:Int,H st=!.lst [.int x,.int y]/\0<=y/\y<4294967296
abbrev Keep1(st:Addr)(H H':Hp):Prop:=KeepN (λb=>b≠st) H H'
abbrev fW(st p:Addr)(H H':Hp):Prop:=KeepN (λb=>b≠st/\b≠p) H H'
def Keep1.two(k:Keep1 st H H'):fW st p H H':=k.mono λ_ n=>n.1
def StOk.same(h:StOk H st)(s:Same H H'):StOk H' st:=by
 let⟨x,y,e,z⟩:=h;show⟨x,y,s _ _ e,z⟩
def StOk.some(h:StOk H st):∃o,H st=!o:=by
 let⟨x,y,e,z⟩:=h;show⟨_,e⟩
def bM{H:Hp}{a b:Addr}(h:∃o,H a=!o)(n:H b=none):b≠a:=by
 let⟨o,e⟩:=h;show rV (cB e n)
inductive EA(K:W.Frag):List V->Hp->VK->XK->Prop
|m (a:Addr) (ns:TN) (k:Int):vs=[.ref a,.int k]->SqL K H a ⇑ns->0<=k->k<=100->(∀(st:Addr) (H':Hp),H st=none->StOk H' st->Same H H'->Q (.ref st) H')->EA K vs H Q E
inductive gV:List V->Hp->VK->XK->Prop
|m (st:Addr) (m:Int):vs=[.ref st,.int m]->StOk H st->0<m->m<=1000000000000->(∀(r:Int) (H':Hp),0<=r->r<m->StOk H' st->Keep1 st H H'->Q (.int r) H')->gV vs H Q E
inductive Bq:List V->Hp->VK->XK->Prop
|m (st:Addr) (m:Int):vs=[.ref st,.int m]->StOk H st->1<=m->m<=20->(∀(x:Str) (H':Hp),p7 x->(x⁻¹:Int)<=m->StOk H' st->Keep1 st H H'->Q (.str x) H')->Bq vs H Q E
def W9(H:Hp):Addr->Prop:=λb=>H b=none
inductive EB:List V->Hp->VK->XK->Prop
|m (st p:Addr) (n:Nat) (nms:TV):vs=[.ref st,.int n,.ref p]->StOk H st->n<=2->p≠st->H p=!.lst (nms.map V.str)->nms≠[]->nms⁻¹<=1000->(∀x∈nms,Name x)->(∀(s:Addr) (ah:List Th) (H':Hp),vf n ah->StAt (W9 H) H' s ah->StOk H' st->Keep1 st H H'->Q (.ref s) H')->EB vs H Q E
def gC(H0:Hp)(p:Addr):Addr->Prop:=λb=>H0 b=none/\b≠p
structure Gs(H0:Hp)(st p:Addr)(H:Hp)(ds:List Nd):Prop where
 so:StOk H st
 s0:∃o,H0 st=!o
 p0:H0 p=none
 old:Keep1 st H0 H
 bk:b8 (gC H0 p) H p ds
section
variable{H0 H H':Hp}{st p:Addr}{ds:List Nd}
def Gs.pne(g:Gs H0 st p H ds):p≠st:=by
 let⟨o,e⟩:=g.s0;show rV (cB e g.p0)
def Gs.nst(g:Gs H0 st p H ds)(h:gC H0 p b):b≠st:=by
 let⟨o,e⟩:=g.s0;show rV (cB e h.1)
def Gs.psome(g:Gs H0 st p H ds):∃o,H p=!o:=by
 let⟨as,e,_⟩:=g.bk;show⟨_,e⟩
def Gs.fresh(g:Gs H0 st p H ds){b:Addr}(h:H b=none):gC H0 p b:=by
 show⟨?_,bM g.psome h⟩;cases e:H0 b with
 | none=>rfl
 | some o =>
   have:=g.old b o (bM g.so.some h) e
   rw[h]at this
   cases this
def Gs.keep1(g:Gs H0 st p H ds)(k:Keep1 st H H')(so:StOk H' st):Gs H0 st p H' ds:=by
 let⟨as,e,q⟩:=g.bk;show⟨so,g.s0,g.p0,g.old.trans k,as,k _ _ g.pne e,q.keep (k.mono λb n=>g.nst n) λ_ n _=>n⟩
def Gs.same(g:Gs H0 st p H ds)(s:Same H H'):Gs H0 st p H' ds:=g.keep1 s.keep (g.so.same s)
def Gs.push(g:Gs H0 st p H ds)(e:H p=!.lst ↑as)(q:NdsAt (gC H0 p) H as ds)(x:NdAt (gC H0 p) H a d):Gs H0 st p (af H p (.lst (↑as++[.ref a]))) (ds++[d]):=by
 let k:KeepN (gC H0 p) H (af H p (.lst (↑as++[.ref a]))):=λb o n e=>by rw[aF n.2];show e
 show⟨?_,g.s0,g.p0,λb o n e=>?_,as++[a],by rw[aj];simp,(q.keep k λ_ n _=>n).append (.cons (x.keep k λ_ n _=>n) .nil)⟩
 .let⟨x,y,z,w⟩:=g.so;show⟨x,y,by rw[aF (rV g.pne)];show z,w⟩
 .rw[aF (λz=>by rw[z,g.p0]at e;cases e)];show g.old b o n e
end
def om(ds:List Nd):=∀d∈ds,d.nm=cD\/Name d.nm
def mz(k:Kd):Prop:=k=.body\/k=.case\/k=.shelf\/k=.grid\/k=.aside
def int_at{ns:TN}{k:Int}(h0:0<=k)(h:k<(ns⁻¹:Int)):∃v:Int,bI ⇑ns k=!.int v:=by
 let hk:k.toNat<ns⁻¹:=()
 let ek:k=((k.toNat:Nat):Int):=()
 let q:bI ⇑ns ((k.toNat:Nat):Int)=!.int ns[k.toNat]:=eQ (by rw[qJ,qB hk]<;>rfl);rw[<-ek]at q;show⟨_,q⟩
def signs:Str:=s!"abcdefghijklmnopqrstuvwxyzABCDEFGHIJKLMNOPQRSTUVWXYZ0123456789.,-;:'()!?"
def small:Str:=s!"abcdefghijklmnopqrstuvwxyz"
def sg(c:Nat):Str:=⟨#[c]⟩
def W':signs.cps.toList=pZ:=by ac_rfl
def Xa:signs⁻¹<=sizeLine:=by ac_rfl
def Mr:small⁻¹<=sizeLine:=by ac_rfl
def Ms{α:Type}{l:List α}{i:Int}(h0:0<=i)(h1:i<(l⁻¹:Int)):∃c,bI l i=!c/\c∈l:=by
 let hi:i.toNat<l⁻¹:=()
 let ei:i=((i.toNat:Nat):Int):=()
 let q:bI l ((i.toNat:Nat):Int)=!l[i.toNat]:=eQ (qB hi);rw[<-ei]at q;show⟨_,q,rJ hi⟩
def signs_at{i:Int}(h0:0<=i)(h1:i<72):∃c,bI signs.cps.toList i=!c/\c∈pZ:=by
 rw[W'];show Ms h0 h1
def Xb:cD.cps.toList=[]:=by ac_rfl
def EC(x y:Str):(x++y)⁻¹=x⁻¹+y⁻¹:=by
 show(x.cps++y.cps).size=_;rw[Array.size_append];rfl
def vp(x y:Str):(x++y).cps.toList=x.cps.toList++y.cps.toList:=by
 show(x.cps++y.cps).toList=_;show Array.toList_append
def Xc{p:Nat->Prop}{c:Nat}(h:p c):∀d∈(sg c).cps.toList,p d:=λd hd=>by
 have:d=c:=by simpa[sg]using hd
 rw[this];show h
def Xd{p:Nat->Prop}{x y:Str}(h1:∀c∈x.cps.toList,p c)(h2:∀c∈y.cps.toList,p c):∀c∈(x++y).cps.toList,p c:=λc hc=>by
 rw[vp]at hc;rcases rE.mp hc with h | h
 .show h1 c h
 .show h2 c h
def ED{p:Nat->Prop}{x:Str}{c:Nat}(h1:∀c∈x.cps.toList,p c)(h2:p c):∀d∈(x++sg c).cps.toList,p d:=Xd h1 (Xc h2)
def small_str(h:∀c∈x.cps.toList,vd c):PyData.strOk x=true:=by
 show(x.cps.all λc=>decide (c<0x110000))=true;rw[Array.all_eq_true'];intro c hc;have:=h c ‹hc›;unfold vd at this;show qQ ()
def EE{nms:TV}{i:Int}(h0:0<=i)(h1:i<((nms.map V.str)⁻¹:Int)):∃y,bI (nms.map V.str) i=!.str y/\y∈nms:=by
 let⟨v,e,m⟩:=Ms h0 h1;let⟨y,my,rfl⟩:=qO.mp m;show⟨y,e,my⟩
def back(k:Keep1 st H H')(n:b≠st)(h:H' b=none):H b=none:=by
 cases e:H b with
 | none=>rfl
 | some o =>
   rw[k b o n e]at h
   cases h
def vq(a b:List Th):du (a++b)=du a++du b:=yU
def Xe(l:TN):du (l.map λk=>Th.tri .note (.inr k) 0)=l:=by
 unfold du;rw[vU];show List.filterMap_some
def Xf{n m:Nat}(h:m<=n):nums m=(nums n).take m:=by
 unfold nums;rw[<-vA,List.take_range,uH h]
def Xg(dn i:Nat):((nums (dn+(i+1))).drop dn).map (λk=>Th.tri .note (.inr k) 0)=((nums (dn+i)).drop dn).map (λk=>Th.tri .note (.inr k) 0)++[Th.tri .note (.inr ((dn+i:Nat):Int)) 0]:=by
 rw[<-Nat.add_assoc,Ei,List.drop_append_of_le_length (by simp[nums]),qD];rfl
theorem vt{α β:Type}{F:α->β->Prop}:∀{a b:List α} {c d:List β},Paired F a c->Paired F b d->Paired F (a++b) (c++d)
 | _,_,_,_,.nil,h=>h
 | _,_,_,_,.cons q t,h=>.cons q (vt t h)
end Gen
namespace L2
def KeepN.back(k:KeepN (λb=>b≠st) H H')(n:b≠st)(h:H' b=none):H b=none:=Gen.back k n h
end L2
namespace Gen
open L2 Bk PyProof.Rows
theorem Mt:∀(l:TV) (x:Str),risingS x l=true->(∀y∈l,¬y.cps.toList<x.cps.toList)/\l.Pairwise λa b=>¬b.cps.toList<a.cps.toList
 | [],x,_=>⟨(λy hy=>nomatch hy),List.Pairwise.nil⟩
 | y :: r, x, h => by
   let h':((Bool.not (ltCps y.cps.toList x.cps.toList)) && risingS y r)=true:=h
   rw[uC]at h'
   let⟨h1,h2⟩:=h'
   let n1:¬y.cps.toList<x.cps.toList:=by
     rw[ltCps_eq]at h1
     simpa using h1
   let⟨a,b⟩:=Mt r y h2
   show⟨λz hz=>?_,List.Pairwise.cons (λz hz=>a z hz) b⟩
   rcases qN.mp hz with rfl | hz
   · show n1
   · intro lt
     show a z hz (Std.lt_of_lt_of_le lt (wG.mp n1))
def Xh(h:sortedS l=true):l.Pairwise λa b=>¬b.cps.toList<a.cps.toList:=by
 cases l with
 | nil=>show List.Pairwise.nil
 | cons x r =>
   let⟨a,b⟩:=Mt r x h
   show List.Pairwise.cons a b
def Xi{x y:Str}(h:x.cps.toList=y.cps.toList):x=y:=by
 let⟨⟨x⟩⟩:=x;let⟨⟨y⟩⟩:=y;cases h;rfl
def Xj{l:TV}(h:sortedS l=true)(n:l.Nodup):l.Pairwise λa b=>a.cps.toList<b.cps.toList:=by
 have:=(Xh h).and n;show this.imp λ{a b} q=>?_
 by_cases z:a.cps.toList<b.cps.toList
 .show z
 .show qT (Xi (List.le_antisymm (wG.mp q.1) (wG.mp z))) q.2
def vw:TV:=[s!"big",s!"red",s!"far",s!"of"]
def Xk:∀x∈vw,Name x:=by
 intro x hx;unfold Name vd;revert x hx;ac_rfl
def Xl(h:∀x∈ks,x∈vw)(l:ks⁻¹<=4)(pm:ms.Perm (dq ks))(so:sortedS ms=true):kO ms:=by
 have le:(dq ks)⁻¹<=ks⁻¹:=by
  have:∀(a b:TV),(a.foldl cL b)⁻¹<=a⁻¹+b⁻¹:=by
   intro a
   induction a with
   | nil=>intro b;simp
   | cons x a ih =>
     intro b
     rw[xK]
     let h1:=ih (cL b x)
     let h2:=En b x
     let h3:(cL b x)⁻¹<=b⁻¹+1:=by rw[h2];split<;>omega
     simp only[List.length_cons]
     omega
  simpa[dq]using this ks []
 show⟨by rw[pm.length_eq];omega,λm hm=>?_,Xj so (pm.nodup_iff.mpr (Mj ks))⟩;show Xk m (h m ((WY ks m).mp (pm.mem_iff.mp hm)))
def qg(nms:TV):(nms.map V.str).all kK=true:=by
 rw[uW];intro v hv;let⟨x,_,rfl⟩:=qO.mp hv;rfl
def Xm{α β:Type}(f:α->β){ts:List α}{i:Nat}{t:α}(h:ts[i]?=!t):(ts.take (i+1)).map f=(ts.take i).map f++[f t]:=by
 rw[qP,h,qD];rfl
def cE{as:TQ}{i:Nat}{x:V}(h:(↑as)[i]?=!x):∃a,as[i]?=!a/\x=.ref a:=by
 rw[qJ]at h;cases e:as[i]? with
 | none=>rw[e]at h;cases h
 | some t=>rw[e]at h;cases h;show⟨t,O,O⟩
def Xn(ks:TV):(dq ks)⁻¹<=ks⁻¹:=by
 have:∀(a b:TV),(a.foldl cL b)⁻¹<=a⁻¹+b⁻¹:=by
  intro a
  induction a with
  | nil=>intro b;simp
  | cons x a ih =>
    intro b
    rw[xK]
    let h1:=ih (cL b x)
    let h2:=En b x
    let h3:(cL b x)⁻¹<=b⁻¹+1:=by rw[h2];split<;>omega
    simp only[List.length_cons]
    omega
 simpa[dq]using this ks []
end Gen
namespace Gen
open L2 Bk
theorem Mu{e lv:Nat}(hl:lv<=6):∀(cY:List Nd) (i:Nat),(∀c∈cY,c.e=(e:Int)/\c.k=.note/\du c.st=[])->Forest e i lv cY (List.replicate cY⁻¹ .note)
 | [],i,_=>.nil
 | c :: cY, i, h => by
   let⟨h1,h2,h3⟩:=h c rF
   let f:=Mu hl cY (i+1) λd hd=>h d (qW _ hd)
   have:=Forest.cons (d:=c) (sub:=[]) (ks:=[]) h1 hl (by rw[h2];decide) .nil ⟨(λc hc=>nomatch hc),(by rw[h2];intro z;cases z),trivial,(λ_=>h3)⟩ (show Forest e (i+1+([]:List Nd)⁻¹) lv cY _ from f)
   rw[h2,List.nil_append]at this
   show this
theorem Mv:∀n,Nexts (List.replicate n .note)
 | 0=>trivial
 | n+1=>Mv n
def Xo{n:Nat}(hk:k=.text\/k=.head)(h:du st=nums n):Holds k (List.replicate n .note) st:=by
 show⟨λc hc=>?_,λz=>?_,Mv n,λ_=>by rw[xU];show h⟩
 .rw[vY hc];rcases hk with rfl | rfl<;>rfl
 .rcases hk with rfl | rfl<;>cases z
def Mw{n:Nat}(hk:d.k=.text\/d.k=.head\/d.k=.note)(p:vf n d.st)(m:kO d.mks)(nm:d.nm=cD\/Name d.nm):jL d:=by
 show⟨nm,m,?_⟩;rcases hk with h | h | h<;>rw[h]<;>show⟨p.ok,p.ne,p.le⟩
def Xp:Name (s!"nowhere"):=by unfold Name vd;ac_rfl
def Xq{r:Int}(h0:0<=r)(h1:r<5):∃n:Nat,n<=2/\bI [V.int 0,V.int 0,V.int 1,V.int 0,V.int 2] r=!.int n:=by
 rcases(by omega:r=0\/r=1\/r=2\/r=3\/r=4)with rfl | rfl | rfl | rfl | rfl
 .show⟨0,{},O⟩
 .show⟨0,{},O⟩
 .show⟨1,{},O⟩
 .show⟨0,{},O⟩
 .show⟨2,{},O⟩
end Gen
namespace L2
def seq_post(P:St->Hp->Prop)(h:∀D':gN,(∀ae H',P ae H'->D'.nx ae H')->t D' σ H)(k:∀ae H',P ae H'->u D ae H'):tI t u D σ H:=h _ k
def Mx(P:Bool->Hp->Prop)(h:∀Q:Bool->Hp->Prop,(∀b H',P b H'->Q b H')->c σ H Q)(k:∀b H',P b H'->if b=true then t D σ H' else u D σ H'):Kp c t u D σ H:=h _ k
def Xr(P:V->Hp->Prop)(h:∀Q:VK,(∀v H',P v H'->Q v H')->te σ H Q)(k:∀v H',P v H'->g v σ H' D.nx):l6 te g D σ H:=h _ k
end L2
namespace Gen
open L2 Bk
def bB(k k':Kd):decide (V.str k.s=V.str k'.s)=decide (k=k'):=by
 by_cases h:k=k'
 .rw[qQ h,h];simp
 .rw[rB h];show rB λz=>h ((Kd.inj k k').mp (V.str.inj z))
def on:List Kd:=[.text,.text,.picture,.case,.shelf,.grid,.head,.aside]
def Xs{r:Int}(h0:0<=r)(h1:r<8):∃k:Kd,bI (on.map λk=>V.str k.s) r=!.str k.s/\(k=.text\/k=.picture\/k=.case\/k=.shelf\/k=.grid\/(6<=r/\(k=.head\/k=.aside))):=by
 rcases(by omega:r=0\/r=1\/r=2\/r=3\/r=4\/r=5\/r=6\/r=7)with rfl | rfl | rfl | rfl | rfl | rfl | rfl | rfl
 .show⟨.text,O,.inl O⟩
 .show⟨.text,O,.inl O⟩
 .show⟨.picture,O,.inr (.inl O)⟩
 .show⟨.case,O,.inr (.inr (.inl O))⟩
 .show⟨.shelf,O,.inr (.inr (.inr (.inl O)))⟩
 .show⟨.grid,O,.inr (.inr (.inr (.inr (.inl O))))⟩
 .show⟨.head,O,.inr (.inr (.inr (.inr (.inr ⟨{},.inl O⟩))))⟩
 .show⟨.aside,O,.inr (.inr (.inr (.inr (.inr ⟨{},.inr O⟩))))⟩
def kR(k:Kd):Prop:=k=.text\/k=.head\/k=.picture
def EF(ke k:Kd):=(gU ke k=true\/(k=.aside/\ke=.aside))/\(k=.text\/k=.picture\/k=.case\/k=.shelf\/k=.grid\/k=.head\/k=.aside)
def Xt{sd:Bool}{r:Int}(hc:mz ke)(hs:sd=true↔ke=.shelf\/ke=.grid)(hr:r<if sd=true then 6 else 8)(hk:k=.text\/k=.picture\/k=.case\/k=.shelf\/k=.grid\/(6<=r/\(k=.head\/k=.aside))):EF ke k:=by
 unfold EF;let EG:6<=r->¬(ke=.shelf\/ke=.grid):=λh z=>by
  rw[qZ (hs.mpr z)]at hr;omega
 rcases hc with rfl | rfl | rfl | rfl | rfl<;>rcases hk with rfl | rfl | rfl | rfl | rfl | ⟨h6,rfl | rfl⟩<;>first | show⟨.inl rfl,{}⟩ | show⟨.inr ⟨rfl,rfl⟩,{}⟩ | show qT (show _\/_ by first | show .inl rfl | show .inr rfl) (EG h6)
instance (k:Kd):Decidable (kR k):=inferInstanceAs (Decidable (k=.text\/k=.head\/k=.picture))
def Bt:List Kd:=[.text,.head,.picture]
def My(k:Kd):mq (.str k.s) (Bt.map λk=>V.str k.s)=decide (kR k):=by
 unfold mq Bt kR;let e:∀a b:Kd,kL (.str a.s) (.str b.s)=decide (a=b):=λa b=>by
  show(a.s == b.s)=_;rw[uA];simp[Kd.inj]
 simp only[List.map_cons,List.map_nil,List.any_cons,List.any_nil,e];cases k<;>rfl
def Mz(hc:mz ke):gU ke .text=true:=by rcases hc with rfl | rfl | rfl | rfl | rfl<;>rfl
def Xu(hc:mz ke):gU ke .picture=true:=by rcases hc with rfl | rfl | rfl | rfl | rfl<;>rfl
structure Xv(ke k:Kd)(lv R n:Nat):Prop where
 may:gU ke k=true
 lvl:3<lv->kR k
 room:R<=n->kR k
 one:k=.text\/k=.picture\/k=.case\/k=.shelf\/k=.grid\/k=.head\/k=.aside
def Xw(sd:Bool):bI [V.int 8,V.int 6] (if sd=true then 1 else 0)=!.int (if sd=true then 6 else 8):=by cases sd<;>rfl
def MA{R lv n:Nat}(h:n<R):n+3<=iK R lv:=by unfold iK;split<;>(try split)<;>(try split)<;>omega
def jg(R lv j n:Nat):Prop:=n<=R+3*j\/(1<=j/\n<=iK R (lv+1)+3*(j-1))
def MB{R lv j n n':Nat}(h:jg R lv j n)(h1:R<=n->n'<=n+3)(h2:n<R->n'<=iK R (lv+1)):jg R lv (j+1) n':=by
 unfold jg at *
 by_cases z:n<R
 .show .inr ⟨(),by have:=h2 z;omega⟩
 .have:=h1 ();rcases h with h | ⟨h,h'⟩
  .show .inl ()
  .show .inr ⟨(),()⟩
def Xx{R lv j n:Nat}(h:jg R lv j n)(hj:j<=3)(hl:1<=lv)(EH:lv<=3):n+3<=iK R lv:=by
 unfold jg iK at *;rcases(by omega:lv=1\/lv=2\/lv=3)with rfl | rfl | rfl<;>simp at*<;> omega
def MC{R lv j n:Nat}(h:jg R lv j n)(hj:j<=3)(hR:R<=12):n<=60:=by
 unfold jg iK at h
 split at h<;>(try split at h)<;>(try split at h)<;>omega
end Gen
namespace Bk
open L2
open PySem.W (Dat kqdOk)
def Bu:Sum Str Int->Dat
 | .inl w=>.str w
 | .inr k=>.int k
def mB:Th->Dat
 | .int n=>.int n
 | .tri s x t=>.tuple [.str s.s,Bu x,.int t]
def Bv(d:Nd):Dat:=.tuple [.int d.e,.str d.k.s,.str d.nm,.list (d.mks.map Dat.str),.list (d.st.map mB)]
def Bx(ds:List Nd):Dat:=.list (ds.map Bv)
section
variable{N:Addr->Prop}{H:Hp}
def Xy(h:ItAt N H v x):di H v (mB x):=by
 cases x with
 | int n=>cases h;show .int n
 | tri s x t =>
   let⟨a,rfl,_,e⟩:=h
   show .tup e (.cons (.str _) (.cons ?_ (.cons (.int _) .nil)))
   cases x with
   | inl w=>show .str w
   | inr k=>show .int k
def Xz(p:Paired (ItAt N H) vs l):DAll H vs (l.map mB):=by
 induction p with
 | nil=>show .nil
 | cons q t ih=>show .cons (Xy q) ih
def XA(h:NdAt N H a d):di H (.ref a) (Bv d):=by
 let⟨_,m,s,e,_,em,_,vs,es,p⟩:=h;show .tup e (.cons (.int _) (.cons (.str _) (.cons (.str _) (.cons (.lst em (Mp _)) (.cons (.lst es (Xz p)) .nil)))))
def XB(p:NdsAt N H as ds):DAll H ↑as (ds.map Bv):=by
 induction p with
 | nil=>show .nil
 | cons q t ih=>show .cons (XA q) ih
def XC(h:b8 N H p ds):di H (.ref p) (Bx ds):=by
 let⟨as,e,q⟩:=h;show .lst e (XB q)
end
def XD(h:∀c∈x.cps.toList,c<128):PyData.strOk x=true:=by
 show(x.cps.all λc=>decide (c<0x110000))=true;rw[Array.all_eq_true'];intro c hc;have:=h c ‹hc›;show qQ ()
def XE(k:Kd):PyData.strOk k.s=true:=by cases k<;>ac_rfl
def EI(s:So):PyData.strOk s.s=true:=by cases s<;>ac_rfl
def XF:∀c∈pZ,c<128:={}
def XG(h:p7 w):PyData.strOk w=true:=XD λc hc=>XF c (h.2.2 c hc)
def EJ(h:n=cD\/Name n):PyData.strOk n=true:=by
 rcases h with rfl | h
 .ac_rfl
 .show Gen.small_str h.2.2
def bR:Nd:=⟨-1,.body,cD,[],[]⟩
end Bk
namespace Gen
open L2 Bk
end Gen
namespace L2
open PyProof.Rows
structure FunD(K:W.Frag)(x qual:Str)(st:Stmt)(f:Addr)(fd:FuncData):Prop where
 ex:∃(oc:Value) (od:Option Addr) (dV kV bq pm:Value) (an:Option Addr) (aB ct:Value) (fF:Array (Option Value)),
  fd=W.fnOf x qual (dh st) (cr st) (bH st) dV kV bq pm an aB ct/\K.lookup f=!⟨oc,od,.func fd,fF⟩/\W.codeIn K aB qual=true
 kp:W.keepIn K (.ref f)=true
def FunD.ok{P:Program}{w:World}{K:W.Frag}{mg:TJ}{base:Heap}{CX:dg}{x qual:Str}{st:Stmt}{f:Addr}{fd:FuncData}{N ps:TV}{k:Nat}{sp:Sp}(F:FunD K x qual st f fd)(S:nX N ps (bH st))(len:∀vs H Q E,sp vs H Q E->vs⁻¹=ps⁻¹)(kI:∀(aB:Value) (A:Around) (outer:List Env) (s:Shared) (H:Hp) (vs:List V) (Q:VK) (E:XK),Room k (A.deeper (envOfC qual (bH st) (~~~s) f aB))->sp vs H Q E ->
   ∃t,PSs (fQ CX P w K mg base N qual (bH st) f aB A outer s H E) (cr st) t/\t {nx:=λ_ H'=>Q .non H',rt:=Q} (start N vs) H):aN P w K mg base CX (k+1) f fd ps sp:=by
 let⟨oc,od,dV,kV,bq,pm,an,aB,ct,fF,rfl,lk,fO⟩:=F.ex;show DT lk fO S len λA outer s H vs Q E hr eP=>kI aB A outer s H vs Q E hr eP
def EK{K:W.Frag}{x qual:Str}{st:Stmt}{f:Addr}{oc:Value}{od an:Option Addr}{fF:Array (Option Value)}{dV kV bq pm aB ct:Value}(l:K.lookup f=!⟨oc,od,.func (W.fnOf x qual (dh st) (cr st) (bH st) dV kV bq pm an aB ct),fF⟩)(c:W.codeIn K aB qual=true)(k:W.keepIn K (.ref f)=true):FunD K x qual st f (W.fnOf x qual (dh st) (cr st) (bH st) dV kV bq pm an aB ct) :=
 ⟨⟨oc,od,dV,kV,bq,pm,an,aB,ct,fF,O,l,c⟩,k⟩
def XH(K:W.Frag):List V->Hp->VK->Prop:=λxs H Q=>∃p ys,xs=[.ref p]/\(SqL K H p ys\/SqT K H p ys)/\∀l,H l=none->Q (.ref l) (af H l (.lst ys))
def By(K:W.Frag)(hK:X.K=K):dB X (.type "list") (XH K):=by
 subst hK;show pU
def Fx.none{P:Program}{w:World}{K:W.Frag}{mg:TJ}{base:Heap}{CX:dg}{k:Nat}{x:Str}{ps:TV}{f:Addr}{fd:FuncData}{sp:Sp}(b:Binds K fd ps [])(kp:W.keepIn K (.ref f)=true)(m:mg x=!.ref f)(no:∀vs H Q E,¬sp vs H Q E):Fx P w K mg base CX k x ps sp :=
 ⟨f,fd,⟨λ_ _ _ _ h=>(no _ _ _ _ h).elim,λ_ _ _ _ _ _ _ _ _ _ _ _ _ h=>(no _ _ _ _ h).elim⟩,b,kp,m⟩
def mC{k:Nat}{n:Nat}(K:W.Frag)(hK:X.K=K)(hc:X.calm=true)(h:pK X es t)(hn:(assignEach es X.env)⁻¹=n:=by rfl)(cC:(assignEach es X.env).findIdx? (·.1)=none:=by rfl):PG X (.Tuple es k pos) (DC K n t):=by
 subst hK;show i6 hc h hn cC
end L2
namespace Gen
open L2 Bk
section
variable{X:Cx}
def Bz{T':String}(hi:X.mg "isinstance" = none)(g1:Gl X "isinstance")(hT:X.mg T=none)(gT:Gl X T)(bT:bootBuiltins T=!.type T')(he:PE X e te)(hn:T ≠ "__name__":=by decide)(hd:(T == ("__debug__" : Str))=false:=by decide)(h1:starEach [e,.Name T p2] X.env=(false,eval e X.env)::starEach [.Name T p2] X.env:=by rfl)(h2:starEach [.Name T p2] X.env=(false,eval (.Name T p2) X.env)::starEach [] X.env:=by rfl)(h3:(backTo pos (starEach [.Name T p2] X.env)).any (·.1)=false:=by rfl) :
  PE X (.Call (.Name "isinstance" p1) [e,.Name T p2] [] pos) (ue (λxs H Q=>∃x c t b,xs=[x,c]/\gq X.K H x t/\(∃cv,(∀u,RelV c u->u=cv)/\W.kitOne X.K t cv=!b)/\Q (.bl b) H) (dD te (dD (tC (.ty T')) iG))) :=
 Lh Wi g1 hi W4 (aJ he (aJ (UL (v:=.ty T') gT hT bT O hn hd) bE h2) h1) {} {} h1 h3
end
section
variable{K:W.Frag}
def XJ:W.kitOne K (.type "int") (.type "int")=!true:=by unfold W.kitOne;rw[qZ {}]
def XM:W.kitOne K (.type "int") (.type "bool")=!false:=by
 unfold W.kitOne;rw[qX {}];show(if W.kitMeta "bool" = true then W.subIn K (.type "int") (.type "bool")else none)=_;rw[qZ (by ac_rfl)];show(fastBuiltinMro "int").map (·.contains (Value.type "bool"))=!false;ac_rfl
def XN:W.kitOne K (.type "list") (.type "list")=!true:=by unfold W.kitOne;rw[qZ {}]
def XO:W.kitOne K (.type "tuple") (.type "tuple")=!true:=by unfold W.kitOne;rw[qZ {}]
end
end Gen
namespace L2
open PyProof.Rows
def aK{n:Nat}(h:Nat.ble n 1000=true:=by rfl):n<=sizeLine:=rX (aR (Nat.le_of_ble_eq_true h))
class Nd (N:TV):Prop where
 nd:N.Nodup
abbrev Fu(K:W.Frag)(x:Str)(st:Stmt)(f:Addr)(fd:FuncData):Prop:=Fun K x x st f fd
def Fun.go{P:Program}{w:World}{K:W.Frag}{mg:TJ}{base:Heap}{x qual:Str}{st:Stmt}{f:Addr}{fd:FuncData}{ps:TV}{k:Nat}{sp:Sp}(F:Fun K x qual st f fd)(N:TV)(kI:∀(aB:Value) (A:Around) (outer:List Env) (s:Shared) (H:Hp) (vs:List V) (Q:VK) (E:XK),Room k (A.deeper (envOfC qual (bH st) (~~~s) f aB))->sp vs H Q E->Nd (fQ am P w K mg base N qual (bH st) f aB A outer s H E).nox.N ->
   ∃t,PSs (fQ am P w K mg base N qual (bH st) f aB A outer s H E).nox (cr st) t/\t {nx:=λ_ H'=>Q .non H',rt:=Q} (start N vs) H)(S:nX N ps (bH st):=by show⟨O,O,O,by ac_rfl,O,by ac_rfl,by ac_rfl⟩)(len:∀vs H Q E,sp vs H Q E->vs⁻¹=ps⁻¹:=by intro _ _ _ _ h;first | (cases h;subst_vars;rfl) | (cases h.2;subst_vars;rfl) | (repeat first | rfl | let⟨rfl,h⟩:=h | let⟨_,h⟩:=h)):aN P w K mg base am (k+1) f fd ps sp :=
 F.ok S len λaB A outer s H vs Q E hr h=>kI aB A outer s H vs Q E hr h ⟨S.nd⟩
def FunD.go{P:Program}{w:World}{K:W.Frag}{mg:TJ}{base:Heap}{CX:dg}{x qual:Str}{st:Stmt}{f:Addr}{fd:FuncData}{ps:TV}{k:Nat}{sp:Sp}(F:FunD K x qual st f fd)(N:TV)(kI:∀(aB:Value) (A:Around) (outer:List Env) (s:Shared) (H:Hp) (vs:List V) (Q:VK) (E:XK),Room k (A.deeper (envOfC qual (bH st) (~~~s) f aB))->sp vs H Q E->Nd (fQ CX P w K mg base N qual (bH st) f aB A outer s H E).N ->
   ∃t,PSs (fQ CX P w K mg base N qual (bH st) f aB A outer s H E) (cr st) t/\t {nx:=λ_ H'=>Q .non H',rt:=Q} (start N vs) H)(S:nX N ps (bH st):=by show⟨O,O,O,by ac_rfl,O,by ac_rfl,by ac_rfl⟩)(len:∀vs H Q E,sp vs H Q E->vs⁻¹=ps⁻¹:=by intro _ _ _ _ h;first | (cases h;subst_vars;rfl) | (cases h.2;subst_vars;rfl) | (repeat first | rfl | let⟨rfl,h⟩:=h | let⟨_,h⟩:=h)):aN P w K mg base CX (k+1) f fd ps sp :=
 F.ok S len λaB A outer s H vs Q E hr h=>kI aB A outer s H vs Q E hr h ⟨S.nd⟩
section
variable{X:Cx}{e a b o tg iter dE:Expr}{te ta tb to:TE}{x:Str}{pos p eL:Pos}{es dt:TW}{t:TA}{u:TA}
def sv(i:Nat)[n:Nd X.N](he:PE X e te)(hi:X.N[i]?=!x:=by rfl)(hx:Loc X.env.scope x:=by first | show Or.inl (by rfl) | show Or.inr (by rfl))(hs:swapsWith e (!.Name x eL) pos.line X.env=pure false:=by rfl)(hf:X.fn x=true\/X.env.scope.names.lookup x=!.local:=by first | show .inl rfl | show .inr rfl | assumption):PS X (.Assign [.Name x eL] e pos) (l6 te (aZ i)):=U5 n.nd hi hx he hs hf
def av(i:Nat)[n:Nd X.N](he:PE X e te)(ho:tJ X op ti)(hi:X.N[i]?=!x:=by rfl)(hx:Loc X.env.scope x:=by first | show Or.inl (by rfl) | show Or.inr (by rfl))(hf:X.fn x=true\/X.env.scope.names.lookup x=!.local:=by first | show .inl rfl | show .inr rfl | assumption):PS X (.AugAssign (.Name x eL) op e pos) (DD i te ti):=U6 n.nd hi hx he ho hf
def nv(i:Nat)[n:Nd X.N](hi:X.N[i]?=!x:=by rfl)(hx:Loc X.env.scope x:=by first | show Or.inl (by rfl) | show Or.inr (by rfl))(hf:X.fn x=true\/X.env.scope.names.lookup x=!.local:=by first | show .inl rfl | show .inr rfl | assumption):PG X (.Name x pos) (aZ i):=U4 n.nd hi hx hf
def fv{body:List Stmt}{wi:TI}{g:TG}{tb:TS}(hi:PI X tg iter wi)(hg:PG X tg g)(hb:PSs X body tb)(hp:PassesOwn (model X.prog X.w) X.A X.env X.xe:=by show vK)(hc:X.calm=true:=by rfl)(hs:∀x,foldedSetIterable iter X.env x=pure x:=by intro _;rfl):PS X (.For tg iter body [] pos) (KD wi g tb):=Vh hp hc hi hg hb hs
def a1(h1:PE X e te)(s1:starEach [e] X.env=(false,eval e X.env)::starEach [] X.env:=by rfl):PA X [e] (dD te iG):=aJ h1 bE s1
def a2(h1:PE X e te)(h2:PE X e2 t2)(s1:starEach [e,e2] X.env=(false,eval e X.env)::starEach [e2] X.env:=by rfl)(s2:starEach [e2] X.env=(false,eval e2 X.env)::starEach [] X.env:=by rfl):PA X [e,e2] (dD te (dD t2 iG)):=aJ h1 (a1 h2 s2) s1
def a3(h1:PE X e te)(h2:PE X e2 t2)(h3:PE X e3 t3)(s1:starEach [e,e2,e3] X.env=(false,eval e X.env)::starEach [e2,e3] X.env:=by rfl)(s2:starEach [e2,e3] X.env=(false,eval e2 X.env)::starEach [e3] X.env:=by rfl)(s3:starEach [e3] X.env=(false,eval e3 X.env)::starEach [] X.env:=by rfl):PA X [e,e2,e3] (dD te (dD t2 (dD t3 iG))):=aJ h1 (a2 h2 h3 s2 s3) s1
def cF{k m:Nat}(F:Fx X.prog X.w X.K X.mg X.base am k x ps sp)(hr:Room m X.A)(ha:PA X (e::es) t)(hk:k<=m:=by first | decide | omega)(hg:Gl X x:=by rfl)(gO:(x == ("__debug__" : Str))=false:=by decide)(he:starEach (e::es) X.env=(false,eval e X.env)::starEach es X.env:=by rfl)(dO:(backTo pos (starEach es X.env)).any (·.1)=false:=by rfl):PE X (.Call (.Name x p) (e::es) [] pos) (AW sp [] E0 t):=Mm F (hr.mono hk) hg D6 ha gO he dO
def px(hr:uf X r)(ha:PE X a ta)(hb:PE X b tb)(hs:Ll b:=by show λ_ _=>rfl):PE X (.Subscript a b pos) (eO r ta tb):=VG hr ha hb hs
def tc(ho:cf X (compareOp op) r)(ha:PE X a ta)(hb:PE X b tb)(hm:behindInMarks op b=false:=by first | show KU _ | with_unfolding_all rfl):PT X (.Compare a [op] [b] pos) (tV (eO r ta tb)):=Vr ho ha hb hm
def ec(ho:cf X (compareOp op) r)(ha:PE X a ta)(hb:PE X b tb)(hm:behindInMarks op b=false:=by first | show KU _ | with_unfolding_all rfl):PE X (.Compare a [op] [b] pos) (eO r ta tb):=Vq ho ha hb hm
def gi{n:Int}{y}(hm:X.mg x=!.int n y)(hg:Gl X x:=by rfl)(hd:(x == ("__debug__" : Str))=false:=by decide):PE X (.Name x pos) (tC (.int n)):=Dy hg hm ⟨_,O⟩ hd
def gs{y}(hm:X.mg x=!.str n y)(hg:Gl X x:=by rfl)(hd:(x == ("__debug__" : Str))=false:=by decide):PE X (.Name x pos) (tC (.str n)):=Dy hg hm ⟨_,O⟩ hd
def gr(hm:X.mg x=!.ref n)(hg:Gl X x:=by rfl)(hd:(x == ("__debug__" : Str))=false:=by decide):PE X (.Name x pos) (tC (.ref n)):=Dy hg hm O hd
def cb{id:String}{r}(hc:dB X (.builtin id) r)(hm:X.mg x=none)(hv:bootBuiltins x=!.builtin id)(ha:PA X (e::es) t)(hg:Gl X x:=by rfl)(hn:x ≠ "__name__":=by decide)(gO:(x == ("__debug__" : Str))=false:=by decide)(he:starEach (e::es) X.env=(false,eval e X.env)::starEach es X.env:=by rfl)(dO:(backTo pos (starEach es X.env)).any (·.1)=false:=by rfl):PE X (.Call (.Name x p) (e::es) [] pos) (ue r t):=Lh hc hg hm hv ha hn gO he dO
def ln(hm:X.mg "len" = none)(he:PE X e te)(hg:Gl X "len":=by rfl)(hs:starEach [e] X.env=(false,eval e X.env)::starEach [] X.env:=by rfl)(dO:(backTo pos (starEach [] X.env)).any (·.1)=false:=by rfl):PE X (.Call (.Name "len" p) [e] [] pos) (ue (DY X.K) (dD te iG)):=cb VM hm Gen.b_len (a1 he hs) hg {} {} hs dO
def r1(hm:X.mg "range" = none)(ha:PE X a ta)(hg:Gl X "range":=by rfl)(hs:starEach [a] X.env=[(false,eval a X.env)]:=by rfl)(h2:starEach [a] X.env=(false,eval a X.env)::starEach [] X.env:=by rfl):PI X tg (.Call (.Name "range" p) [a] [] pos) (Ky (dD ta iG)):=Vg hg hm (a1 ha h2) hs
variable{scope:Scope}{wi:TI}{g:TG}{tt:TT}
def MD{ix:TM}(h1:scope.kind=.function)(h2:∀y∈scope.names,y.2≠.cell)(h3:∀y∈scope.names,y.2=.local->scope.names.lookup y.1=!.local)(h4:∀y∈scope.names,y.2=.free->y.1∈fr)(h5:ix.map (λj=>X.N[j]?)=fr.map some)(h6:∀x∈fr,scope.names.lookup x=!.free)(h7:fr.all (λx=>decide (X.env.scope.names.lookup x=!.cell))=true):CompScope X scope own fr ix :=
 .frees h1 h2 h3 h4 h5 h6 λx hx=>.inl (rH (uW.mp h7 x hx))
def cm(own fr:TV)(ix:TM)(hi:PI X tg iter wi)(hg:∀{cl C s2 H2 fp} [Nd (bY X (own++fr) scope cl C s2 H2 fp).N],PG (bY X (own++fr) scope cl C s2 H2 fp) tg g)(ht:∀{cl C s2 H2 fp},oh (bY X (own++fr) scope cl C s2 H2 fp) dt tt)(he:∀{cl C s2 H2 fp} [Nd (bY X (own++fr) scope cl C s2 H2 fp).N],PE (bY X (own++fr) scope cl C s2 H2 fp) dE te)(nd:(own++fr).Nodup:=by ac_rfl)(hc:X.calm=true:=by rfl)(S:CompScope X scope own fr ix:=by show MD (by rfl) (by ac_rfl) (by ac_rfl) (by ac_rfl) (by rfl) (by ac_rfl) (by rfl))(hs:∀x,foldedSetIterable iter X.env x=pure x:=by intro _;rfl):PE X (.ListComp dE [⟨tg,iter,dt,0⟩] scope pos) (Bb own⁻¹ ix wi g tt te) :=
 Wb hc S hi (λcl C s2 H2 fp=>@hg cl C s2 H2 fp ⟨nd⟩) (λcl C s2 H2 fp=>ht) (λcl C s2 H2 fp=>@he cl C s2 H2 fp ⟨nd⟩) hs
def sm(i:Nat)[n:Nd X.N](own fr:TV)(ix:TM)(hi:PI X tg iter wi)(hg:∀{cl C s2 H2 fp} [Nd (bY X (own++fr) scope cl C s2 H2 fp).N],PG (bY X (own++fr) scope cl C s2 H2 fp) tg g)(ht:∀{cl C s2 H2 fp},oh (bY X (own++fr) scope cl C s2 H2 fp) dt tt)(he:∀{cl C s2 H2 fp} [Nd (bY X (own++fr) scope cl C s2 H2 fp).N],PE (bY X (own++fr) scope cl C s2 H2 fp) dE te)(nd:(own++fr).Nodup:=by ac_rfl)(hc:X.calm=true:=by rfl)(Ec:X.N[i]?=!y:=by rfl)(hy:Loc X.env.scope y:=by first | show Or.inl (by rfl) | show Or.inr (by rfl))(S:CompScope X scope own fr ix:=by show MD (by rfl) (by ac_rfl) (by ac_rfl) (by ac_rfl) (by rfl) (by ac_rfl) (by rfl))(hf:X.fn y=true\/X.env.scope.names.lookup y=!.local:=by first | show .inl rfl | show .inr rfl | assumption)(Ed:swapsWith (.ListComp dE [⟨tg,iter,dt,0⟩] scope pos) (!.Name y py) Ee.line X.env=pure true:=by with_unfolding_all rfl)(hs:∀x,foldedSetIterable iter X.env x=pure x:=by intro _;rfl):PS X (.Assign [.Name y py] (.ListComp dE [⟨tg,iter,dt,0⟩] scope pos) Ee) (l6 (Bb own⁻¹ ix wi g tt te) (aZ i)) :=
 Wc hc n.nd Ec hy S hi (λcl C s2 H2 fp=>@hg cl C s2 H2 fp ⟨nd⟩) (λcl C s2 H2 fp=>ht) (λcl C s2 H2 fp=>@he cl C s2 H2 fp ⟨nd⟩) hf Ed hs
def ap(ho:PE X o to)(ha:PE X e te)(n8:attributeBase o "append" X.env (eval o X.env)=eval o X.env:=by rfl)(ur:((backTo dW (starEach [e] X.env)).all (λx=>(Bool.not (x.1))) && (backToKw dW (keywordEach [] X.env)).all (λx=>x.1.isSome)
   && decide ([e]⁻¹+([]:List Keyword)⁻¹+(if([]:List Keyword).isEmpty then 0 else 1)<30))=true:=by rfl)(oa:(kH.endLine == dW.line)=true:=by rfl)(hs:starEach [e] X.env=(false,eval e X.env)::starEach [] X.env:=by rfl)(uu:(backTo dW (starEach [] X.env)).any (·.1)=false:=by rfl) :
  PE X (.Call (.Attribute o "append" kH) [e] [] dW) (D0 X.K "list" A8 to (dD te iG)):=jK xX v0 v4 Lp ho (a1 ha hs) n8 ur oa hs uu
end
end L2
namespace Gw
open L2
open Bk hiding Names
open Gen
def gX(n:Nat):Str:=s!"n" ++ sg (97+n % 26)++sg (97+n / 26)
def NmOk(ds:List Nd)(x:Str):Prop:=x=cD\/(ds⁻¹<=200/\x=gX ds⁻¹)
def Names(ds:List Nd):=∀(i:Nat) (d:Nd),ds[i]?=!d->d.nm=cD\/d.nm=gX i
def ME{n:Nat}(h:n<26):bI small.cps.toList (n:Int)=!97+n:=by
 let all:∀m,m<26->bI small.cps.toList ((m:Nat):Int)=!97+m:=by ac_rfl
 show all n h
def XQ{n:Nat}(h:n<=200):Name (gX n):=by
 let l:(gX n)⁻¹=3:=by unfold gX;rw[EC,EC];rfl
 show⟨by rw[l];decide,by rw[l];decide,ED (ED (λx hx=>?_) ⟨(),()⟩) ⟨(),()⟩⟩;let e:(s!"n").cps.toList=[110]:=by ac_rfl
 rw[e]at hx;have:x=110:=‹hx›
 subst this;show⟨{},{}⟩
def XR{n m:Nat}(h:gX n=gX m):n=m:=by
 let e:(s!"n").cps.toList=[110]:=by ac_rfl
 let h2:(gX n).cps.toList=(gX m).cps.toList:=by rw[h]
 unfold gX at h2;rw[vp,vp,vp,vp,e]at h2;simp only[sg,List.cons_append,List.nil_append,List.cons.injEq,true_and,and_true]at h2;omega
def NmOk.or(h:NmOk ds x):x=cD\/Name x:=by
 rcases h with h | h
 .show .inl h
 .rw[h.2];show .inr (XQ h.1)
def vx(h:Names ds)(n:NmOk ds d.nm):Names (ds++[d]):=λi c hc=>by
 by_cases z:i<ds⁻¹
 .rw[rY z]at hc;show h i c hc
 .rw[rG ()]at hc;let i0:i-ds⁻¹=0:=by
   have:=(qF.mp hc).1;simp at this;omega
  rw[i0]at hc;have:d=c:=‹hc›
  subst this;let ei:i=ds⁻¹:=()
  rw[ei];rcases n with n | n
  .show .inl n
  .show .inr n.2
def names_nodup(h:Names ds):((ds.filter λd=>d.nm≠cD).map (·.nm)).Nodup:=by
 have all:∀(l:List Nd) (k:Nat),(∀(i:Nat) (d:Nd),l[i]?=!d->d.nm=cD\/d.nm=gX (k+i))->((l.filter λd=>d.nm≠cD).map (·.nm)).Nodup/\∀x∈(l.filter λd=>d.nm≠cD).map (·.nm),∃j,k<=j/\x=gX j:=by
  intro l
  induction l with
  | nil=>intro k _;show⟨vV,λx hx=>nomatch hx⟩
  | cons d l ih =>
    intro k hk
    let⟨n1,n2⟩:=ih (k+1) λi c hc=>by
      have:=hk (i+1) c (by rw[rT];show hc)
      rw[show k+1+i=k+(i+1) by omega]
      show this
    by_cases z:d.nm=cD
    · rw[List.filter_cons_of_neg (by simp[z])]
      show⟨n1,λx hx=>by let⟨j,h1,h2⟩:=n2 x hx;show⟨j,(),h2⟩⟩
    · rw[List.filter_cons_of_pos (by simp[z]),xY,u6]
      let ed:d.nm=gX k:=by
        rcases hk 0 d O with q | q
        · show qT q z
        · show q
      show⟨⟨λm=>?_,n1⟩,λx hx=>?_⟩
      · let⟨j,h1,h2⟩:=n2 _ m
        rw[ed]at h2
        have:=XR h2
        omega
      · rcases qN.mp hx with rfl | hx
        · show⟨k,qG _,ed⟩
        · let⟨j,h1,h2⟩:=n2 x hx
          show⟨j,(),h2⟩
 show(all ds 0 λi d hd=>by rw[Nat.zero_add];show h i d hd).1
inductive vy:List V->Hp->VK->XK->Prop
|m (H0:Hp) (p st s:Addr) (e:Int) (k:Kd) (ah:List Th) (ds:List Nd):vs=[.ref p,.int e,.str k.s,.ref s,.ref st]->Gs H0 st p H ds->StAt (gC H0 p) H s ah->ds⁻¹<=200->(∀(d:Nd) (H':Hp),d.e=e->d.k=k->d.st=ah->kO d.mks->NmOk ds d.nm->Gs H0 st p H' (ds++[d])->fW st p H H'->Q (.int ds⁻¹) H')->vy vs H Q E
structure More(e lv:Nat)(ds more:List Nd)(ks:List Kd):Prop where
 fo:Forest e ds⁻¹ lv more ks
 fm:∀d∈more,jL d
 nm:Names (ds++more)
inductive BA:List V->Hp->VK->XK->Prop
|m (H0:Hp) (p st:Addr) (e lv:Nat) (k:Kd) (ds:List Nd):vs=[.ref p,.int e,.str k.s,.ref st]->Gs H0 st p H ds->(k=.text\/k=.head)->ds⁻¹<=190->lv<=5->om ds->Names ds->(∀(more:List Nd) (H':Hp),More e lv ds more [k]->more⁻¹<=3->Gs H0 st p H' (ds++more)->fW st p H H'->Q .non H')->BA vs H Q E
inductive spItem(n:Nat):List V->Hp->VK->XK->Prop
|m (H0:Hp) (p st:Addr) (e lv lw R:Nat) (de:Nd) (ds:List Nd):vs=[.ref p,.int e,.int lv,.int R,.ref st]->Gs H0 st p H ds->ds[e]?=!de->mz de.k->1<=lv->lv<=4->lv<=lw->lw<=lv+1->5<=lv+n->R<=12->ds⁻¹<=100->om ds->Names ds->(∀(more:List Nd) (ks:List Kd) (H':Hp),More e lw ds more ks->ItemKs de.k ks->(R<=ds⁻¹->more⁻¹<=3)->(ds⁻¹<R->ds⁻¹+more⁻¹<=iK R lv)->Gs H0 st p H' (ds++more)->fW st p H H'->Q .non H')->spItem n vs H Q E
def MF(h:om ds)(n:NmOk ds d.nm):om (ds++[d]):=λc hc=>by
 rcases rE.mp hc with hc | hc
 .show h c hc
 .have:c=d:=‹hc›
  subst this;show n.or
def XS{e lv n:Nat}(hk:k=.text\/k=.head)(hl:lv<=5)(he:d.e=(e:Int))(BB:d.k=k)(p:vf n d.st)(m:kO d.mks)(nm:NmOk ds d.nm)(hn:cY⁻¹=n)(hc:∀c∈cY,c.e=(ds⁻¹:Int)/\c.k=.note/\vf 0 c.st/\kO c.mks/\(c.nm=cD\/Name c.nm))(na:Names (ds++(d::cY))):More e lv ds (d::cY) [k]:=by
 show⟨?_,λc eK=>?_,na⟩
 .let f:=Mu (e:=ds⁻¹) (lv:=lv+1) () cY (ds⁻¹+1) λc h=>⟨(hc c h).1,(hc c h).2.1,(hc c h).2.2.1.nn⟩
  have:=Forest.one (d:=d) he () (by rw[BB];rcases hk with rfl | rfl<;>decide) f (by rw[BB];show Xo hk (by rw[hn];show p.nn));rw[BB]at this;show this
 .rcases qN.mp eK with rfl | h
  .show Mw (by rw[BB];rcases hk with rfl | rfl<;>simp) p m nm.or
  .let⟨_,h2,h3,h4,h5⟩:=hc c h;show Mw (by rw[h2];simp) h3 h4 h5
structure Kids(oo lv:Nat)(k:Kd)(pre sub:List Nd)(ks:List Kd):Prop where
 fo:Forest oo (oo+1) (lv+1) sub ks
 fm:∀d∈sub,jL d
 nm:Names (pre++sub)
 ok:om (pre++sub)
 may:∀c∈ks,gU k c=true
 nx:Nexts ks
def Kids.more{oo lv:Nat}{k:Kd}{pre sub more:List Nd}{ks bZ:List Kd}(x:Kids oo lv k pre sub ks)(hl:(pre++sub)⁻¹=oo+1+sub⁻¹)(m:More oo (lv+1) (pre++sub) more bZ)(i:ItemKs k bZ):Kids oo lv k pre (sub++more) (ks++bZ):=by
 show⟨x.fo.append (by have:=m.fo;rw[hl]at this;show this),λd hd=>?_,by rw[<-xE];show m.nm,λd hd=>?_,λc hc=>?_,x.nx.append i.nexts⟩
 .rcases rE.mp hd with h | h
  .show x.fm d h
  .show m.fm d h
 .rw[<-xE]at hd;rcases rE.mp hd with h | h
  .show x.ok d h
  .show(m.fm d h).nm
 .rcases rE.mp hc with h | h
  .show x.may c h
  .show i.may c h
def More.nms{e lv:Nat}(m:More e lv ds more ks)(h:om ds):om (ds++more):=λd hd=>by
 rcases rE.mp hd with z | z
 .show h d z
 .show(m.fm d z).nm
def MG{e lv:Nat}(he:d.e=(e:Int))(hl:lv<=6)(hk:d.k=.case\/d.k=.shelf\/d.k=.grid\/d.k=.aside)(cC:d.st=[])(hm:kO d.mks)(nm:NmOk ds d.nm)(x:Kids ds⁻¹ lv d.k (ds++[d]) sub ks)(XT:d.k≠.case->ks≠[]):More e lv ds (d::sub) [d.k]:=by
 show⟨Forest.one he hl (by rcases hk with h | h | h | h<;>rw[h]<;>decide) x.fo ⟨x.may,λz=>?_,x.nx,λz=>?_⟩,λc hc=>?_,by have:=x.nm;simpa using this⟩
 .show XT λq=>?_
  rw[q]at z;cases z
 .rcases hk with h | h | h | h<;>rw[h]at z<;>cases z
 .rcases qN.mp hc with rfl | h
  .show⟨nm.or,hm,?_⟩;rcases hk with h | h | h | h<;>rw[h]<;>show cC
  .show x.fm c h
def XU{e lv:Nat}{a b:Int}(he:d.e=(e:Int))(hl:lv<=6)(hk:d.k=.picture)(cC:d.st=[.int a,.int b])(ha:1<=a/\a<=2000)(hb:1<=b/\b<=2000)(hm:kO d.mks)(nm:NmOk ds d.nm)(na:Names ds):More e lv ds [d] [.picture]:=by
 show⟨?_,λc hc=>?_,vx na nm⟩
 .have:=Forest.one (i:=ds⁻¹) (lv:=lv) (sub:=[]) (ks:=[]) he hl (by rw[hk];decide) .nil ⟨(λc hc=>nomatch hc),(by rw[hk];intro z;cases z),trivial,(by rw[hk];intro z;cases z)⟩;rw[hk]at this;show this
 .have:c=d:=‹hc›
  subst this;show⟨nm.or,hm,?_⟩;rw[hk,cC];show⟨a,b,O,ha.1,ha.2,hb.1,hb.2⟩
def More.cat{e lv:Nat}(x:More e lv ds a ks)(y:More e lv (ds++a) b bZ):More e lv ds (a++b) (ks++bZ):=by
 show⟨x.fo.append (by have:=y.fo;rw[qI]at this;show this),λd hd=>?_,by rw[<-xE];show y.nm⟩;rcases rE.mp hd with h | h
 .show x.fm d h
 .show y.fm d h
def XV:Kids 0 0 .body [bR] [] []:=⟨.nil,(λd hd=>nomatch hd),(λi d hd=>by
 have:d∈[bR]++[]:=qL hd;have:d=bR:=‹this›
 rw[this];show .inl O),λd hd=>by
 have:d=bR:=‹hd›
 rw[this];show .inl O,(λc hc=>nomatch hc),trivial⟩
def item_none:∀vs H Q E,¬spItem 0 vs H Q E:=by
 ext vs H Q E ⟨H0,p,st,e,lv,lw,R,de,ds,rfl,_,_,_,h1,h2,_,_,h3,_⟩;omega
inductive spBook:List V->Hp->VK->XK->Prop
|m (st:Addr) (m R:Nat):vs=[.ref st,.int m,.int R]->StOk H st->1<=m->m<=4->1<=R->R<=12->(∀(p:Addr) (sub:List Nd) (ks:List Kd) (H':Hp),Kids 0 0 .body [bR] sub ks->sub⁻¹<=R+26+3*m->ks≠[]->Gs H st p H' (bR::sub)->Q (.ref p) H')->spBook vs H Q E
inductive spWide:List V->Hp->VK->XK->Prop
|m (H0:Hp) (p st:Addr) (sub:List Nd) (ks:List Kd):vs=[.ref p,.ref st]->Gs H0 st p H (bR::sub)->Kids 0 0 .body [bR] sub ks->sub⁻¹<=50->(∀(more:List Nd) (bZ:List Kd) (H':Hp),Kids 0 0 .body [bR] (sub++more) (ks++bZ)->more⁻¹<=28->Gs H0 st p H' (bR::(sub++more))->Q .non H')->spWide vs H Q E
end Gw
local macro_rules|`(⋯)=>do
 let a:=Lean.mkIdent `P;let b:=Lean.mkIdent `w;let c:=Lean.mkIdent `K;let d:=Lean.mkIdent `mg;let e:=Lean.mkIdent `base;let f:=Lean.mkIdent `am
 `(L2.Fx $a $b $c $d $e $f)
local macro_rules|`(~~~0)=>do
 let a:=Lean.mkIdent `P;let b:=Lean.mkIdent `w;let c:=Lean.mkIdent `K;let d:=Lean.mkIdent `mg;let e:=Lean.mkIdent `base;let f:=Lean.mkIdent `am
 `(L2.aN $a $b $c $d $e $f)
local macro_rules|`(tactic|rcases F.go $l with $p)=>do
 let a:=Lean.mkIdent `aB;let b:=Lean.mkIdent `A;let c:=Lean.mkIdent `outer;let d:=Lean.mkIdent `s;let e:=Lean.mkIdent `H;let f:=Lean.mkIdent `vs;let g:=Lean.mkIdent `Q;let h:=Lean.mkIdent `E;let i:=Lean.mkIdent `hr;let z:=Lean.mkIdent `F.go
 `(tactic|(refine $z $l ?_;intro $a:ident $b:ident $c:ident $d:ident $e:ident $f:ident $g:ident $h:ident $i:ident y;rcases y with $p;intro _))
namespace K31
open L2
open Bk hiding Names
open Gen
open Gw
def top(i:Nat):Stmt:=Challenge.pw_leafpress_k31_sizes.main.body.getD i (.Pass ⟨0,0,0,0⟩)
abbrev MH:=top 109
abbrev MI:=top 110
abbrev MJ:=top 112
abbrev MK:=top 113
abbrev MM:=top 114
abbrev MN:=top 115
abbrev MO:=top 116
abbrev MP:=top 117
abbrev MQ:=top 118
def XW(F:Fu K "_law_stream" MH f fd)(T:Bn mg):(~~~0) 1 f fd ["_law_script", "_law_k"] (EA K):=by
 rcases F.go ["_law_script", "_law_k"] with⟨a,ns,k,rfl,hS,k0,k1,q⟩;show⟨_,(aw (a7 (tc mh '1' (ln T.len '0')) (aA (aH (a0 (a2 (px aE '0' '1') (aG bi (aG bi (aG mf (px aE '0' '1') ao) (aG fe '1' '1')) ao))))) bg)
  (aA (aH (a0 (a2 (aG bi (aG fe (aG fe '1' '1') ao) ao) (aG bi '1' ao)))))),?_⟩
 let kk:0<=k*k/\k*k<=10000:=by
  let h1:=Int.mul_nonneg k0 k0;let h2:k*k<=100*100:=Int.mul_le_mul k1 k1 k0 {};omega
 show¬⟨a,_,O,.inl hS,_,_,O,O,_,O,?_⟩;show cp (λc=>?_) (λc=>?_)
 .let c':k<(((⇑ns)⁻¹:Nat):Int):=rH c;rw[qA]at c';let⟨v,hv⟩:=int_at (ns:=ns) k0 c';show¬⟨a,_,_,_,O,O,hS,hv,_,O,_,O,a,_,_,_,O,O,hS,hv,_,_,O,O,(by show(0:Int)<2147483629;decide),_,O,_,O,_,_,O,O,.inl ⟨(),()⟩,_,_,O,O,_,_,O,O,aK,λl hl=>?_⟩;let m1:=uZ v (show(2147483629:Int)≠0 by decide);let m2:=uO v (show(0:Int)<2147483629 by decide);show q l _ hl ⟨v,_,aj,(),()⟩ (ar hl _)
 .show¬⟨_,_,O,O,.inl ⟨(),()⟩,_,_,O,O,.inl ⟨(),()⟩,_,_,O,O,_,O,_,_,O,O,aK,λl hl=>?_⟩;show q l _ hl ⟨_,_,aj,(),()⟩ (ar hl _)
def XX(F:Fu K "_law_take" MI f fd):(~~~0) 1 f fd ["_law_stream_here", "_law_most"] gV:=by
 rcases F.go ["_law_stream_here", "_law_most", "_law_digit"] with⟨st,m,rfl,⟨x,y,cC,y0,y1⟩,m0,m1,q0⟩;let q:∀r x' y':Int,0<=r->r<m->0<=y'->y'<4294967296->Q (.int r) (af H st (.lst [.int x',.int y'])):=λr x' y' r0 r1 z0 z1=>q0 r _ r0 r1 ⟨x',y',aj,z0,z1⟩ λb o n e=>by rw[aF n];show e
 show⟨_,(aw (a7 (PW.pt (jI (tc bv (px aE '0' ao) ao) (l5 (tc bv (px aE '0' ao) (dM dN ao))))) (aw (l7 (aG mf (aG bi (aG fe (px aE '0' ao) ao) ao) ao) (tM '0' ao pS))
  (aA (aH (aG mf (aG mf (aG fe (px aE '0' ao) (px aE '0' ao)) ao) '1')))) bg)
  (aw (sv 2 (aG mf (px aE '0' ao) '1'))
  (aw (l7 (aG pY (px aE '0' ao) '1') (tM '0' ao pS))
  (aA (aH '2'))))),?_⟩
 let mm:∀v:Int,0<=v % m/\v % m<m:=λv=>⟨uZ v (),uO v m0⟩
 let empty:∀Q':VK,Q'=Q->tI (l6 (eO (rI (λ_ j=>0<j) λi j=>.int (i % j)) (eO (ja λi j=>.int (i+j)) (eO (rI CMul λi j=>.int (i*j)) (eO (cI K) (jE 0) (tC (.int 1))) (tC (.int 48271))) (tC (.int 12345))) (tC (.int 2147483647))) (Ks (jE 0) (tC (.int 1)) DX))
   (Ko (eO (rI (λ_ j=>0<j) λi j=>.int (i % j)) (eO (rI (λ_ j=>0<j) λi j=>.int (i % j)) (eO (rI CMul λi j=>.int (i*j)) (eO (cI K) (jE 0) (tC (.int 1))) (eO (cI K) (jE 0) (tC (.int 1)))) (tC (.int 2147483629))) (jE 1)))
   {nx:=λ_ _=>False,rt:=Q'} [!.ref st,!.int m,none] H:=by
  ext Q' rfl;show-⟨st,_,_,_,O,O,ag cC,O,_,_,O,O,.inl ⟨(),()⟩,_,_,O,O,_,_,O,O,(by show(0:Int)<2147483647;decide),_,O,st,_,1,1,O,O,cC,O,?_⟩;let z0:=uZ (y*48271+12345) (show(2147483647:Int)≠0 by decide);let z1:=uO (y*48271+12345) (show(0:Int)<2147483647 by decide);let MR:af H st (.lst [.int x,.int ((y*48271+12345) % 2147483647)]) st=!.lst [.int x,.int ((y*48271+12345) % 2147483647)]:=aj;show-⟨st,_,_,_,O,O,ag MR,O,_,O,st,_,_,_,O,O,ag MR,O,_,_,O,O,.inl (show -(2 ^ 64)<(y*48271+12345) % 2147483647/\(y*48271+12345) % 2147483647<2 ^ 64 from⟨(),()⟩),_,_,O,O,(by show(0:Int)<2147483629;decide),_,O,_,_,O,O,m0,?_⟩;show q _ x _ (mm _).1 (mm _).2 z0 ()
 show-⟨st,_,_,_,O,O,ag cC,O,O,_,O,?_⟩
 by_cases x0:x=0
 .rw[qQ (show V.int x=V.int 0 by rw[x0])];show bL (bL ?_);show empty _ O
 .show iH (show¬V.int x=V.int 0 from λz=>x0 (V.int.inj z)) ⟨_,O,st,_,_,_,O,O,ag cC,O,_,O,O,_,O,?_⟩
  by_cases x1:x=-1
  .rw[qQ (show V.int x=V.int (-1) by rw[x1])];show bL ?_;show empty _ O
  .show iH (show¬V.int x=V.int (-1)from λz=>x1 (V.int.inj z)) ⟨_,O,st,_,_,_,O,O,ag cC,O,_,O,_,_,O,O,m0,?_⟩;show-⟨st,_,_,_,O,O,ag cC,O,_,O,_,_,O,O,⟨m0,()⟩,_,O,st,_,0,0,O,O,cC,O,_,O,?_⟩;show q _ (x / m) y (mm x).1 (mm x).2 y0 y1
def XY(F:Fu K "_law_word" MJ f fd)(T:Bn mg)(bF:⋯ 1 "_law_take" ["_law_stream_here", "_law_most"] gV):(~~~0) 2 f fd ["_law_stream_here", "_law_most"] Bq:=by
 rcases F.go ["_law_stream_here", "_law_most", "_law_signs", "_law_word_here", "_law_k"] with⟨st,m,rfl,S,m1,m2,q⟩;show⟨_,(aw (sv 2 aQ)
  (aw (sv 3 aQ)
  (aw (fv (r1 T.range (aG bi ao (cF bF hr (a2 '0' '1')))) (nv 4)
  (aA (sv 3 (aG DQ '3' (px DW '2' (cF bF hr (a2 '0' ao)))))))
  (aA (aH '3'))))),?_⟩
 show¬⟨st,m,O,S,(),(),λr H1 r0 r1 S1 K1=>⟨_,_,O,O,_,O,(),(),gp (λi σ H2=>∃(x:Str) (v:Option V),σ=[!.ref st,!.int m,!.str signs,!.str x,v]/\x⁻¹=i/\(∀c∈x.cps.toList,c∈pZ)/\StOk H2 st/\Keep1 st H H2)
  ⟨cD,none,O,O,(λc hc=>by rw[Xb]at hc;cases hc),S1,K1⟩ ?_ ?_⟩⟩
 .ext i σ H2 hi ⟨x,v,rfl,lx,cx,S2,K2⟩;show¬⟨_,O,st,72,O,S2,{},{},λr2 H3 EL EM S3 K3=>?_⟩;let⟨c,ec,ic⟩:=signs_at EL EM;show⟨_,_,_,O,O,Xa,ec,_,_,O,O,?_,?_⟩
  .show x⁻¹+1<=sizeLine;show rX (aR ())
  show⟨x++sg c,_,O,by rw[EC,lx];rfl,ED cx ic,S3,K2.trans K3⟩
 .ext σ H2 ⟨x,v,rfl,lx,cx,S2,K2⟩;show-⟨?_⟩;show q x H2 ⟨(),(),cx⟩ () S2 K2
def XZ(F:Fu K "_law_pieces" MK f fd)(T:Bn mg)(bF:⋯ 1 "_law_take" ["_law_stream_here", "_law_most"] gV)(EN:⋯ 2 "_law_word" ["_law_stream_here", "_law_most"] Bq):(~~~0) 3 f fd ["_law_stream_here", "_law_notes", "_law_names"] EB:=by
 rcases F.go ["_law_stream_here", "_law_notes", "_law_names", "_law_pieces_here", "_law_done", "_law_k"] with⟨st,p,n,nms,rfl,S,n2,pne,hp,X0,nle,oq,q⟩;let hu:=hr.units;show⟨_,(aw (sv 3 (a0 bE))
  (aw (sv 4 ao)
  (aw (fv (r1 T.range (aG bi ao (cF bF hr (a2 '0' ao)))) (nv 5)
  (aw (a7 (tc bv (cF bF hr (a2 '0' ao)) ao) (aA (cq (ap '3' (br (a3 aQ (px aE '2' (cF bF hr (a2 '0' (ln T.len '2')))) (cF bF hr (a2 '0' ao))))))) (aA (cq (ap '3' (br (a3 aQ (cF EN hr (a2 '0' ao)) (cF bF hr (a2 '0' ao))))))))
  (aA (a7 (PW.pt (iC (tc mh '4' '1') (jH (tc bv (cF bF hr (a2 '0' ao)) ao)))) (aw (cq (ap '3' (br (a3 aQ '4' ao))))
  (aA (sv 4 (aG bi '4' ao)))) bg))))
  (aA (aH (aG kM '3' (cm ["_law_k"] [] [] (DJ (by rfl) T.range (a2 '4' '1')) (nv 0) bj (br (a3 aQ '0' ao))))))))),?_⟩
 show⟨aK,λl hl=>?_⟩;let lst:l≠st:=bM S.some hl;let s0:=ar hl (.lst []);show-⟨st,7,O,S.same s0,{},{},λr H1 r0 r1 S1 K1=>⟨_,_,O,O,_,O,(),(),gp (λi σ H2=>∃(dn:Nat) (v:Option V) (vs:List V) (ah:List Th),σ=[!.ref st,!.int n,!.ref p,!.ref l,!.int dn,v]/\dn<=n/\H2 l=!.lst vs/\Paired (ItAt (λb=>H b=none/\b≠l) H2) vs ah/\(∀x∈ah,gw x) /\
  (i=0->ah=[])/\(0<i->∃x r,ah=x::r/\gQ x=false)/\du ah=nums dn/\ah⁻¹<=i+dn/\StOk H2 st/\Keep1 st H H2)
  ⟨0,none,[],[],O,rL _,K1 _ _ lst aj,.nil,(λx hx=>nomatch hx),(λ_=>rfl),(λz=>qT z (rP 0)),O,rL _,S1,s0.keep.trans K1⟩ ?_ ?_⟩⟩
 .rintro i σ H2 hi ⟨dn,v,vs,ah,rfl,qh,fH,pr,ok,h0,h1,nn,le,S2,K2⟩;let vc:vs⁻¹=ah⁻¹:=pr⁻¹;let gz:H2 p=!.lst (nms.map V.str):=K2 _ _ pne hp;show-⟨st,5,O,S2,{},{},λr3 H3 r30 r31 S3 K3=>⟨O,_,O,?_⟩⟩;let K23:Keep1 st H2 H3:=K3;let EH:=K23 _ _ lst fH;let BC:=K23 _ _ pne gz;show cp (λ_=>?_) (λ_=>?_)
  ·-- a name
   show-⟨.inl ⟨O,_,ag EH⟩,_,O,_,O,_,O,p,_,O,.inl (ag BC),?_⟩;let MS:0<nms⁻¹:=List.length_pos_iff.mpr X0;show⟨st,((nms.map V.str)⁻¹:Int),O,S3,by rw[qA];omega,by rw[qA];omega,λr4 H4 ot ou S4 K4=>?_⟩;let⟨y,ey,my⟩:=EE ot ou;let EO:=K4 _ _ pne BC;show⟨p,_,_,_,O,O,ag EO,ey,_,O,st,4,O,S4,{},{},λr5 H5 BD BE S5 K5=>⟨aK,λt ht=>?_⟩⟩;let s5:=ar ht (.tup [.str (s!"page"),.str y,.int r5]);let kT:Keep1 st H2 _:=((K23.trans K4).trans K5).trans s5.keep;let vz:=kT _ _ lst fH;show⟨l,_,_,O,O,vz,aR (),?_⟩;let ox:ItAt (λb=>H b=none/\b≠l) (af H5 t (.tup [.str (s!"page"),.str y,.int r5])) (.ref t) (.tri .page (.inl y) r5):=⟨t,O,⟨(K2.trans ((K23.trans K4).trans K5)).back (bM S5.some ht) ht,bM ⟨_,((K23.trans K4).trans K5) _ _ lst fH⟩ ht⟩,aj⟩;let S6:=S5.same s5;let pk:gw (.tri .page (.inl y) r5):=⟨oq y my,(),()⟩;let nt:gQ (.tri .page (.inl y) r5)=false:=rfl;let nu:ve (.tri .page (.inl y) r5)=none:=rfl;generalize (Th.tri .page (.inl y) r5)=x0 at ox pk nt nu;generalize af H5 t (.tup [.str (s!"page"),.str y,.int r5])=H6 at kT vz ox S6⊢;let k6:KeepN (λb=>H b=none/\b≠l) H2 (af H6 l (.lst (vs++[.ref t]))):=λb o nb e=>by
    rw[aF nb.2];show kT _ _ (λz=>by let⟨o',e'⟩:=S.some;rw[z,e']at nb;cases nb.1) e
   let wa:ItAt (λb=>H b=none/\b≠l) (af H6 l (.lst (vs++[.ref t]))) (.ref t) x0:=ox.keep (λb o nb e=>by rw[aF nb.2];show e) λ_ n _=>n
   let jQ:=(pr.mono λv x q=>q.keep k6 λ_ n _=>n).snoc wa;let S7:StOk (af H6 l (.lst (vs++[.ref t]))) st:=by
    let⟨x,y,e,z⟩:=S6;show⟨x,y,by rw[aF (rV lst)];show e,z⟩
   let K7:Keep1 st H (af H6 l (.lst (vs++[.ref t]))):=λb o nb e=>by
    rw[aF (cB e hl)];show kT _ _ nb (K2 _ _ nb e)
   let oy:af H6 l (.lst (vs++[.ref t])) l=!.lst (vs++[.ref t]):=aj;let oz:∀x∈ah++[x0],gw x:=λx hx=>by
    rcases rE.mp hx with hx | hx
    .show ok x hx
    .have:x=x0:=‹hx›
     rw[this];show pk
   let oB:du (ah++[x0])=nums dn:=by
    rw[vq,nn];simp[du,nu]
   have oC:∃x r,ah++[x0]=x::r/\gQ x=false:=by
    cases ah with
    | nil=>show⟨x0,[],O,nt⟩
    | cons a b =>
      let⟨x,r,ex,nx⟩:=h1 (by
        rcases Nat.eq_zero_or_pos i with z | z
        · show qT (h0 z) ∅
        · show z)
      cases ex
      show⟨a,b++[x0],O,nx⟩
   generalize af H6 l (.lst (vs++[.ref t]))=H7 at wa jQ S7 K7 oy k6⊢;show¬⟨_,_,O,O,_,O,?_⟩;show cp (λEQ=>?_) (λ_=>?_)
   case' _ =>
    let ER:dn<n:=by
     have:=rH EQ;omega
    show-⟨st,2,O,S7,{},{},λr8 H8 MT MU S8 K8=>⟨O,_,O,?_⟩⟩;let gY:=K8 _ _ lst oy;let oD:=jQ.mono λv x q=>q.keep (K8.mono (N':=λb=>H b=none/\b≠l) λb nb z=>by let⟨o',e'⟩:=S.some;rw[z,e']at nb;cases nb.1) λ_ n _=>n
    show cp (λ_=>?_) (λ_=>?_)
    case' _ =>
     show-⟨.inl ⟨O,_,ag gY⟩,_,O,aK,λt9 kU=>?_⟩;let s9:=ar kU (.tup [.str (s!"note"),.int (dn:Int),.int 0]);show⟨l,_,_,O,O,s9 _ _ gY,aR (by rw[qI,vc];simp;omega),_,O,_,_,O,O,?_⟩;let wc:t9≠l:=bM ⟨_,gY⟩ kU;let ES:ItAt (λb=>H b=none/\b≠l) (af (af H8 t9 (.tup [.str (s!"note"),.int (dn:Int),.int 0])) l (.lst (vs++[.ref t]++[.ref t9]))) (.ref t9) (.tri .note (.inr dn) 0):=⟨t9,O,⟨(K7.trans K8).back (bM S8.some kU) kU,wc⟩,by rw[aF wc];show aj⟩;show⟨dn+1,_,_,ah++[x0]++[.tri .note (.inr dn) 0],O,ER,aj,(oD.mono λv x q=>q.keep (λb o nb e=>by rw[aF nb.2];show s9 _ _ e) λ_ n _=>n).snoc ES,?_,(λz=>qT z (uX _)),?_,?_,?_,?_,?_⟩
     .intro x hx;rcases rE.mp hx with hx | hx
      .show oz x hx
      .have:x=.tri .note (.inr dn) 0:=‹hx›
       rw[this];show⟨(),(),O⟩
     .intro _;let⟨x,r,e,nx⟩:=oC;rw[e];show⟨x,_,O,nx⟩
     .rw[vq,oB,Ei];rfl
     .rw[qI,qI];simp;omega
     .let⟨x,y,e,z⟩:=S8.same s9;show⟨x,y,by rw[aF (rV lst)];show e,z⟩
     .intro b o nb e;rw[aF (cB e hl)];show s9 _ _ (K8 _ _ nb (K7 _ _ nb e))
    .show⟨dn,_,_,ah++[x0],O,qh,gY,oD,oz,(λz=>qT z (uX _)),(λ_=>oC),oB,by rw[qI];simp;omega,S8,K7.trans K8⟩
   .show⟨dn,_,_,ah++[x0],O,qh,oy,jQ,oz,(λz=>qT z (uX _)),(λ_=>oC),oB,by rw[qI];simp;omega,S7,K7⟩
  .refine-⟨.inl ⟨O,_,ag EH⟩,_,O,st,6,O,S3,{},{},λy H4 wy _ S4 K4=>?_⟩;show-⟨st,4,O,S4,{},{},λr5 H5 BD BE S5 K5=>⟨aK,λt ht=>?_⟩⟩;let s5:=ar ht (.tup [.str (s!"word"),.str y,.int r5]);let kT:Keep1 st H2 _:=((K23.trans K4).trans K5).trans s5.keep;let vz:=kT _ _ lst fH;show⟨l,_,_,O,O,vz,aR (),?_⟩;let ox:ItAt (λb=>H b=none/\b≠l) (af H5 t (.tup [.str (s!"word"),.str y,.int r5])) (.ref t) (.tri .word (.inl y) r5):=⟨t,O,⟨(K2.trans ((K23.trans K4).trans K5)).back (bM S5.some ht) ht,bM ⟨_,((K23.trans K4).trans K5) _ _ lst fH⟩ ht⟩,aj⟩;let S6:=S5.same s5;let pk:gw (.tri .word (.inl y) r5):=⟨wy,(),()⟩;let nt:gQ (.tri .word (.inl y) r5)=false:=rfl;let nu:ve (.tri .word (.inl y) r5)=none:=rfl;generalize (Th.tri .word (.inl y) r5)=x0 at ox pk nt nu;generalize af H5 t (.tup [.str (s!"word"),.str y,.int r5])=H6 at kT vz ox S6⊢;let k6:KeepN (λb=>H b=none/\b≠l) H2 (af H6 l (.lst (vs++[.ref t]))):=λb o nb e=>by
    rw[aF nb.2];show kT _ _ (λz=>by let⟨o',e'⟩:=S.some;rw[z,e']at nb;cases nb.1) e
   let wa:ItAt (λb=>H b=none/\b≠l) (af H6 l (.lst (vs++[.ref t]))) (.ref t) x0:=ox.keep (λb o nb e=>by rw[aF nb.2];show e) λ_ n _=>n
   let jQ:=(pr.mono λv x q=>q.keep k6 λ_ n _=>n).snoc wa;let S7:StOk (af H6 l (.lst (vs++[.ref t]))) st:=by
    let⟨x,y,e,z⟩:=S6;show⟨x,y,by rw[aF (rV lst)];show e,z⟩
   let K7:Keep1 st H (af H6 l (.lst (vs++[.ref t]))):=λb o nb e=>by
    rw[aF (cB e hl)];show kT _ _ nb (K2 _ _ nb e)
   let oy:af H6 l (.lst (vs++[.ref t])) l=!.lst (vs++[.ref t]):=aj;let oz:∀x∈ah++[x0],gw x:=λx hx=>by
    rcases rE.mp hx with hx | hx
    .show ok x hx
    .have:x=x0:=‹hx›
     rw[this];show pk
   let oB:du (ah++[x0])=nums dn:=by
    rw[vq,nn];simp[du,nu]
   have oC:∃x r,ah++[x0]=x::r/\gQ x=false:=by
    cases ah with
    | nil=>show⟨x0,[],O,nt⟩
    | cons a b =>
      let⟨x,r,ex,nx⟩:=h1 (by
        rcases Nat.eq_zero_or_pos i with z | z
        · show qT (h0 z) ∅
        · show z)
      cases ex
      show⟨a,b++[x0],O,nx⟩
   generalize af H6 l (.lst (vs++[.ref t]))=H7 at wa jQ S7 K7 oy k6⊢;show¬⟨_,_,O,O,_,O,?_⟩;show cp (λEQ=>?_) (λ_=>?_)
   case' _ =>
    let ER:dn<n:=by
     have:=rH EQ;omega
    show-⟨st,2,O,S7,{},{},λr8 H8 MT MU S8 K8=>⟨O,_,O,?_⟩⟩;let gY:=K8 _ _ lst oy;let oD:=jQ.mono λv x q=>q.keep (K8.mono (N':=λb=>H b=none/\b≠l) λb nb z=>by let⟨o',e'⟩:=S.some;rw[z,e']at nb;cases nb.1) λ_ n _=>n
    show cp (λ_=>?_) (λ_=>?_)
    case' _ =>
     show-⟨.inl ⟨O,_,ag gY⟩,_,O,aK,λt9 kU=>?_⟩;let s9:=ar kU (.tup [.str (s!"note"),.int (dn:Int),.int 0]);show⟨l,_,_,O,O,s9 _ _ gY,aR (by rw[qI,vc];simp;omega),_,O,_,_,O,O,?_⟩;let wc:t9≠l:=bM ⟨_,gY⟩ kU;let ES:ItAt (λb=>H b=none/\b≠l) (af (af H8 t9 (.tup [.str (s!"note"),.int (dn:Int),.int 0])) l (.lst (vs++[.ref t]++[.ref t9]))) (.ref t9) (.tri .note (.inr dn) 0):=⟨t9,O,⟨(K7.trans K8).back (bM S8.some kU) kU,wc⟩,by rw[aF wc];show aj⟩;show⟨dn+1,_,_,ah++[x0]++[.tri .note (.inr dn) 0],O,ER,aj,(oD.mono λv x q=>q.keep (λb o nb e=>by rw[aF nb.2];show s9 _ _ e) λ_ n _=>n).snoc ES,?_,(λz=>qT z (uX _)),?_,?_,?_,?_,?_⟩
     .intro x hx;rcases rE.mp hx with hx | hx
      .show oz x hx
      .have:x=.tri .note (.inr dn) 0:=‹hx›
       rw[this];show⟨(),(),O⟩
     .intro _;let⟨x,r,e,nx⟩:=oC;rw[e];show⟨x,_,O,nx⟩
     .rw[vq,oB,Ei];rfl
     .rw[qI,qI];simp;omega
     .let⟨x,y,e,z⟩:=S8.same s9;show⟨x,y,by rw[aF (rV lst)];show e,z⟩
     .intro b o nb e;rw[aF (cB e hl)];show s9 _ _ (K8 _ _ nb (K7 _ _ nb e))
    .show⟨dn,_,_,ah++[x0],O,qh,gY,oD,oz,(λz=>qT z (uX _)),(λ_=>oC),oB,by rw[qI];simp;omega,S8,K7.trans K8⟩
   .show⟨dn,_,_,ah++[x0],O,qh,oy,jQ,oz,(λz=>qT z (uX _)),(λ_=>oC),oB,by rw[qI];simp;omega,S7,K7⟩
 .rintro σ H2 ⟨dn,v,vs,ah,rfl,qh,fH,pr,ok,h0,h1,nn,le,S2,K2⟩;let vc:vs⁻¹=ah⁻¹:=pr⁻¹;let MS:0<(1+r).toNat:=()
  let⟨x1,rs,ei,ni⟩:=h1 MS;show¬⟨_,O,_,_,O,⟨(),(),(),()⟩,jO (λi ys ae H3=>(∃z,ae=[z])/\ys⁻¹=i/\Same H2 H3/\Paired (ItAt (λb=>H b=none/\b≠l) H3) ys ((nums (dn+i)).drop dn |>.map λk=>Th.tri .note (.inr k) 0)) (by have:=aR (n:=100) {};omega) ⟨⟨none,O⟩,O,Same.refl _,?_⟩ ?_ ?_⟩
  .rw[show(nums (dn+0)).drop dn=[]from by rw[List.drop_eq_nil_iff];simp[nums]];show .nil
  .ext i ys ae H3 hi ⟨⟨z,rfl⟩,e,s3,p3⟩;show-⟨aK,λt ht=>?_⟩;let s4:=ar ht (.tup [.str (s!"note"),.int ((dn:Int)+i),.int 0]);show⟨⟨_,O⟩,by rw[qI,e];rfl,s3.trans s4,?_⟩;rw[Xg];show(p3.mono λv x q=>q.keep s4.keep λ_ n _=>n).snoc ⟨t,O,⟨(K2.trans s3.keep).back (bM (S2.same s3).some ht) ht,bM ⟨_,s3 _ _ fH⟩ ht⟩,?_⟩;rw[aj];show some (HO.tup [.str (s!"note"),.int ((dn:Int)+i),.int 0])=!HO.tup [.str (s!"note"),.int ((dn+i:Nat):Int),.int 0];rw[Int.natCast_add]
  .ext ys ae H3 ⟨_,e,s3,p3⟩ D hD;let sD:=ar hD (.lst ys);let X1:=sD _ _ (s3 _ _ fH);show⟨l,D,_,_,O,O,X1,aj,?_,λs hs=>?_⟩
   .rw[vc,e];show rX (aR ())
   let sE:=ar hs (.lst (vs++ys));let ET:Same H2 _:=(s3.trans sD).trans sE;let en:dn+((n:Int)-dn).toNat=n:=()
   rw[en]at p3;show q s (ah++((nums n).drop dn).map λk=>Th.tri .note (.inr k) 0) _ ⟨?_,?_,?_,?_⟩ ⟨?_,vs++ys,aj,?_⟩ (S2.same ET) (K2.trans ET.keep)
   .intro x hx;rcases rE.mp hx with hx | hx
    .show ok x hx
    .let⟨k,hk,rfl⟩:=qO.mp hx;let jR:=uS hk;let⟨j,hj,rfl⟩:=qO.mp (show k∈(List.range n).map λ(i:Nat)=>(i:Int)from jR);have:=xC.mp hj;show⟨(),(),O⟩
   .rw[ei];show⟨x1,_,O,ni⟩
   .rw[vq,nn,Xe];have:nums dn=(nums n).take dn:=Xf qh;rw[this,vC]
   .rw[qI,qA,uL];have:(nums n)⁻¹=n:=by simp[nums]
    omega
   .show(K2.trans (s3.trans sD).keep).back (bM (S2.same (s3.trans sD)).some hs) hs
   .show vt (pr.mono λv x q=>q.keep ET.keep λb n _=>n.1) (p3.mono λv x q=>q.keep (sD.trans sE).keep λb n _=>n.1)
def X2(F:Fu K "_law_add" MM f fd)(T:Bn mg)(bF:⋯ 1 "_law_take" ["_law_stream_here", "_law_most"] gV):(~~~0) 4 f fd ["_law_nodes", "_law_elder", "_law_kind", "_law_stuff", "_law_stream_here"] vy:=by
 rcases F.go ["_law_nodes", "_law_elder", "_law_kind", "_law_stuff", "_law_stream_here", "_law_letters", "_law_name", "_law_marks"] with⟨H0,p,st,s,e,k,ah,ds,rfl,G,cC,bK,q⟩;let⟨as,hp,nd⟩:=G.bk;let kW:as⁻¹=ds⁻¹:=nd⁻¹;show⟨_,(aw (sv 5 aQ)
  (aw (sv 6 aQ)
  (aw (a7 (tc bv (cF bF hr (a2 '4' ao)) ao) (aA (sv 6 (aG DQ (aG DQ aQ (px DW '5' (aG mf (ln T.len '0') ao))) (px DW '5' (aG DO (ln T.len '0') ao))))) bg)
  (aw (sm 7 ["_law_k"] ["_law_stream_here"] [4] (r1 T.range (cF bF hr (a2 '4' ao))) (nv 0) bj (px (r:=cI K) aE (a0 (aJ aQ (a3 aQ aQ aQ))) (cF bF hr (a2 '1' ao))))
  (aw (cq (ap '0' (br (aJ '1' (aJ '2' (a3 '6' (cb (W1 (by rfl) (by rfl)) T.sorted Mq (a1 (dS (WZ (by rfl)) (by rfl) T.set W8 (a1 '7')))) '3'))))))
  (aA (aH (aG dC (ln T.len '0') ao)))))))),?_⟩
 show seq_post (λae H'=>ae=[!.ref p,!.int e,!.str k.s,!.ref s,!.ref st,!.str small,none,none]/\H=H') (λD' hD=>hD _ _ ⟨O,O⟩) ?_;ext _ _ ⟨rfl,rfl⟩;show seq_post (λae H'=>ae=[!.ref p,!.int e,!.str k.s,!.ref s,!.ref st,!.str small,!.str cD,none]/\H=H') (λD' hD=>hD _ _ ⟨O,O⟩) ?_;ext _ _ ⟨rfl,rfl⟩;show seq_post (λae H'=>∃nm:Str,ae=[!.ref p,!.int e,!.str k.s,!.ref s,!.ref st,!.str small,!.str nm,none]/\NmOk ds nm/\StOk H' st/\Keep1 st H H') (λD' hD=>?_) ?_
 .show-⟨st,3,O,G.so,{},{},λr2 H2 EL EM S2 K2=>⟨O,_,O,?_⟩⟩;show cp (λ_=>?_) (λ_=>?_)
  .let gz:=K2 _ _ G.pne hp;let ec:=ME (n:=ds⁻¹ % 26) ();let ed:=ME (n:=ds⁻¹ / 26) ();show¬⟨p,_,O,.inl (ag gz),?_⟩;rw[qA,kW];show⟨_,_,O,O,(by show(0:Int)<26;decide),_,_,_,O,O,Mr,ec,_,_,O,O,aK,_,O,_,O,p,_,O,.inl (ag gz),?_⟩;rw[qA,kW];show⟨_,_,O,O,⟨{},{}⟩,_,_,_,O,O,Mr,ed,_,_,O,O,aK,?_⟩;show hD _ _ ⟨_,O,.inr ⟨bK,O⟩,S2,K2⟩
  .show hD _ _ ⟨cD,O,.inl O,S2,K2⟩
 ext _ H1 ⟨nm,rfl,nk,S3,K13⟩;show-⟨st,3,O,S3,{},{},λr4 H4 ot ou S4 K4=>-⟨(),(),jO (λi ys ae H5=>∃ks:TV,ys=ks.map V.str/\ks⁻¹=i/\(∀x∈ks,x∈vw)/\(∃z,ae=[z,!.ref st])/\StOk H5 st/\Keep1 st H4 H5) (aR ()) ⟨[],O,O,(λx hx=>nomatch hx),⟨none,O⟩,S4,KeepN.refl⟩ ?_ ?_⟩⟩
 .ext i ys ae H5 hi ⟨ks,rfl,e5,mk,⟨z,rfl⟩,S5,K5⟩;show⟨aK,λt ht=>?_⟩;let s5:=ar ht (.lst (vw.map V.str));show-⟨st,4,O,S5.same s5,{},{},λr6 H6 MV MW S6 K6=>?_⟩;let⟨y,ey,my⟩:=EE (nms:=vw) MV MW;show⟨t,_,_,_,O,O,ag (K6 _ _ (bM S5.some ht) aj),ey,ks++[y],by rw[qD];rfl,by rw[qI,e5];rfl,λx hx=>?_,⟨_,O⟩,S6,(K5.trans s5.keep).trans K6⟩;rcases rE.mp hx with hx | hx
  .show mk x hx
  .have:x=y:=‹hx›
   rw[this];show my
 .ext ys ae H5 ⟨ks,rfl,e5,mk,_,S5,K5⟩ D hD;let sD:=ar hD (.lst (ks.map V.str));show-⟨.inl ⟨O,_,ag (sD _ _ (K5 _ _ G.pne (K4 _ _ G.pne (K13 _ _ G.pne hp))))⟩,_,O,_,O,_,O,_,O,D,ks,O,ag aj,by unfold scanBound;omega,λd6 X3=>?_⟩;let s6:=ar X3 (jf w d6 (dq ks));show⟨d6,dq ks,O,aj,?_,λm ms hm pm so=>?_⟩
  .have:=Xn ks;omega
  show-⟨aK,λa ha=>?_⟩;let s7:Same (af (af H5 D (.lst (ks.map V.str))) d6 (jf w d6 (dq ks))) (af (af (af H5 D (.lst (ks.map V.str))) d6 (jf w d6 (dq ks))) m (.lst (ms.map V.str))):=ar hm (.lst (ms.map V.str));let S7:StOk (af (af (af H5 D (.lst (ks.map V.str))) d6 (jf w d6 (dq ks))) m (.lst (ms.map V.str))) st:=S5.same ((sD.trans s6).trans s7);let KC:Keep1 st H _:=(K13.trans K4).trans (K5.trans (sD.trans s6).keep);let K17:Keep1 st H (af (af (af H5 D (.lst (ks.map V.str))) d6 (jf w d6 (dq ks))) m (.lst (ms.map V.str))):=(K13.trans K4).trans (K5.trans ((sD.trans s6).trans s7).keep);let X4:gC H0 p m:=G.fresh (KC.back (bM (S5.same (sD.trans s6)).some hm) hm);let em:af (af (af H5 D (.lst (ks.map V.str))) d6 (jf w d6 (dq ks))) m (.lst (ms.map V.str)) m=!.lst (ms.map V.str):=aj;replace ha:af (af (af H5 D (.lst (ks.map V.str))) d6 (jf w d6 (dq ks))) m (.lst (ms.map V.str)) a=none:=ha;let G1:=G.keep1 K17 S7;let BF:=K17 _ _ G.pne hp;let X5:=nd.keep (N':=gC H0 p) (K17.mono λb n=>G.nst n) λ_ n _=>n
  let s2:=ar ha (.tup [.int e,.str k.s,.str nm,.ref m,.ref s]);let G2:=G1.same s2;let gz:=s2 _ _ BF;let X6:=X5.keep (N':=gC H0 p) s2.keep λ_ n _=>n
  show⟨p,_,_,O,O,gz,aR (by rw[qA];omega),?_⟩;let na:NdAt (gC H0 p) (af (af (af (af H5 D (.lst (ks.map V.str))) d6 (jf w d6 (dq ks))) m (.lst (ms.map V.str))) a (.tup [.int e,.str k.s,.str nm,.ref m,.ref s])) a ⟨e,k,nm,ms,ah⟩:=⟨G1.fresh ha,m,s,aj,X4,s2 _ _ em,(cC.keep (N':=gC H0 p) (K17.mono λb n=>G.nst n) λ_ n _=>n).keep s2.keep λ_ n _=>n⟩;let G3:=G2.push gz X6 na;show-⟨p,_,O,.inl (ag aj),_,_,O,O,?_⟩;let el:((↑as++[V.ref a])⁻¹:Int)-1=ds⁻¹:=by
   rw[qI,qA,kW];simp
  show Q (.int (((↑as++[V.ref a])⁻¹:Int)-1)) _;rw[el];show q ⟨e,k,nm,ms,ah⟩ _ O O O (Xl mk () pm so) nk G3 λb o n eb=>?_
  rw[aF n.2];show s2 _ _ (K17 _ _ n.1 eb)
def X7(F:Fu K "_law_text" MN f fd)(T:Bn mg)(bF:⋯ 1 "_law_take" ["_law_stream_here", "_law_most"] gV)(MX:⋯ 3 "_law_pieces" ["_law_stream_here", "_law_notes", "_law_names"] EB)(oE:⋯ 4 "_law_add" ["_law_nodes", "_law_elder", "_law_kind", "_law_stuff", "_law_stream_here"] vy):(~~~0) 5 f fd ["_law_nodes", "_law_elder", "_law_kind", "_law_stream_here"] BA:=by
 rcases F.go ["_law_nodes", "_law_elder", "_law_kind", "_law_stream_here", "_law_names", "_law_notes", "_law_at", "_law_k"] with⟨H0,p,st,e,lv,k,ds,rfl,G,hk,bK,X8,oq,nms,q⟩;let⟨as,hp,nd⟩:=G.bk;let kW:as⁻¹=ds⁻¹:=nd⁻¹;let zl:(↑as)⁻¹<sizeLine:=by rw[qA];show aR ()
 show⟨_,(aw (sv 4 (aG kM (cm ["_law_row"] [] [] (a6 '0') (nv 0) (iJ (tc iE (px (r:=bU K) aI '0' ao) aQ)) (px (r:=bU K) aI '0' ao)) (a0 (a1 aQ))))
  (aw (sv 5 (px aE (a0 (aJ ao (aJ ao (a3 ao ao ao)))) (cF bF hr (a2 '3' ao))))
  (aw (sv 6 (cF oE hr (aJ '0' (aJ '1' (a3 '2' (cF MX hr (a3 '3' '5' '4')) '3')))))
  (aA (fv (r1 T.range '5') (nv 7)
  (aA (cq (cF oE hr (aJ '0' (aJ '6' (a3 aQ (cF MX hr (a3 '3' ao '4')) '3'))))))))))),?_⟩
 show-⟨p,O,⟨_,ag hp⟩,bx (λi ys ae H'=>H'=H/\ys=(((ds.take i).filter λd=>d.nm≠cD).map (·.nm)).map V.str/\∃z,ae=[z]) zl ⟨O,O,none,O⟩ ?_ ?_ ?_⟩
 .ext i ys ae H' hi ⟨rfl,rfl,_⟩;show ag hp
 .ext i x ys ae H' hx ⟨rfl,rfl,z,rfl⟩;let⟨a,ea,rfl⟩:=cE hx;let⟨d,ed,na,m,s',ha,_⟩:=nd.at ea;show-⟨a,_,_,_,O,O,aD ha,O,O,_,O,?_⟩;let et:ds.take (i+1)=ds.take i++[d]:=by rw[qP,ed];rfl
  by_cases hd:d.nm=cD
  .rw[qQ (show V.str d.nm=V.str (s!"")from xJ V.str hd)];show ba ?_;show⟨O,?_,_,O⟩;rw[et,xB];simp[hd]
  .rw[rB (show¬V.str d.nm=V.str (s!"")from λz=>hd (V.str.inj z))];show bL ?_;show-⟨a,_,_,_,O,O,aD ha,O,O,?_,_,O⟩;rw[et,xB];simp[hd]
 ext ys ae H' ⟨rfl,rfl,z,rfl⟩ N0 MY;rw[qA,kW,yN];let fn:∀x∈(ds.filter λd=>d.nm≠cD).map (·.nm),Name x:=λx hx=>by
  let⟨d,hd,rfl⟩:=qO.mp hx;let⟨h1,h2⟩:=xL.mp hd;rcases oq d h1 with z | z
  .show qT z ‹h2›
  .show z
 let fl:((ds.filter λd=>d.nm≠cD).map (·.nm))⁻¹<=ds⁻¹:=by rw[qA];show uB _ _
 generalize (ds.filter λd=>d.nm≠cD).map (·.nm)=nn at fn fl⊢;let s1:=ar MY (.lst (nn.map V.str));show⟨aK,λt ht=>?_⟩;let s2:=s1.trans (ar ht (.lst [V.str (s!"nowhere")]));let e1:af (af H' N0 (.lst (nn.map V.str))) t (.lst [V.str (s!"nowhere")]) N0=!.lst (nn.map V.str):=(ar ht _) _ _ aj;show⟨N0,t,_,_,O,O,e1,aj,?_,λN hN=>?_⟩
 .rw[qA];show rX (aR (by show nn⁻¹+1<=1000;omega))
 let eN:nn.map V.str++[V.str (s!"nowhere")]=(nn++[s!"nowhere"]).map V.str:=by rw[qD];rfl
 rw[eN];let s3:=s2.trans (ar hN (.lst ((nn++[s!"nowhere"]).map V.str)));let EU:af (af (af H' N0 (.lst (nn.map V.str))) t (.lst [V.str (s!"nowhere")])) N (.lst ((nn++[s!"nowhere"]).map V.str)) N=!.lst ((nn++[s!"nowhere"]).map V.str):=aj;let mn:∀x∈nn++[s!"nowhere"],Name x:=λx hx=>by
  rcases rE.mp hx with hx | hx
  .show fn x hx
  .have:x=s!"nowhere":=‹hx›
   rw[this];show Xp
 let ml:(nn++[s!"nowhere"])⁻¹<=1000:=by rw[qI];show nn⁻¹+1<=1000;omega
 let me:nn++[s!"nowhere"]≠[]:=∅
 generalize nn++[s!"nowhere"]=nx at EU mn ml me s3⊢;generalize af (af (af H' N0 (.lst (nn.map V.str))) t (.lst [V.str (s!"nowhere")])) N (.lst (nx.map V.str))=H1 at EU s3⊢;let G1:=G.same s3;let nst:N≠st:=bM (G.so.same s2).some hN;let np:N≠p:=bM ⟨_,s2 _ _ hp⟩ hN;clear e1 s1 s2 eN hN ht MY fn fl;show⟨aK,λt2 oF=>?_⟩;let s4:=ar oF (.lst [V.int 0,V.int 0,V.int 1,V.int 0,V.int 2]);show-⟨st,5,O,G1.so.same s4,{},{},λr5 H5 BD BE S5 K5=>?_⟩;let⟨n,n2,en⟩:=Xq BD BE;show⟨t2,_,_,_,O,O,ag (K5 _ _ (bM G1.so.some oF) aj),en,?_⟩;let K15:Keep1 st H1 H5:=s4.keep.trans K5;let G5:=G1.keep1 K15 S5;let MZ:=K15 _ _ nst EU;show¬⟨_,O,_,O,_,O,_,O,st,N,n,nx,O,S5,n2,nst,MZ,me,ml,mn,λs6 ah H6 pc sa S6 K6=>?_⟩;let G6:=G5.keep1 K6 S6;show-⟨H0,p,st,s6,e,k,ah,ds,O,G6,sa.keep (N':=gC H0 p) KeepN.refl λb nb _=>G5.fresh nb,(),λd H7 de dk oG dm dn G7 K7=>?_⟩;let X9:=K7 _ _ ⟨nst,np⟩ (K6 _ _ nst MZ);let K17:fW st p H' H7:=((s3.keep.trans K15.two).trans K6.two).trans K7;show¬⟨(),(),gp (λi σ H8=>∃(cY:List Nd) (v:Option V),σ=[!.ref p,!.int e,!.str k.s,!.ref st,!.ref N,!.int n,!.int ds⁻¹,v]/\cY⁻¹=i/\Gs H0 st p H8 (ds++(d::cY)) /\
  (∀c∈cY,c.e=(ds⁻¹:Int)/\c.k=.note/\vf 0 c.st/\kO c.mks/\(c.nm=cD\/Name c.nm))/\Names (ds++(d::cY))/\H8 N=!.lst (nx.map V.str)/\fW st p H' H8)
  ⟨[],none,O,O,G7,(λc hc=>nomatch hc),vx nms dn,X9,K17⟩ ?_ ?_⟩
 .ext i σ H8 hi ⟨cY,v,rfl,ln,G8,hc,na,EV,K8⟩;show¬⟨_,O,_,O,st,N,0,nx,O,G8.so,{},nst,EV,me,ml,mn,λs9 X' H9 Ya Yb S9 K9=>?_⟩;let G9:=G8.keep1 K9 S9;let l9:(ds++(d::cY))⁻¹<=200:=by rw[qI,rN];omega
  show-⟨H0,p,st,s9,(ds⁻¹:Int),.note,X',ds++(d::cY),O,G9,Yb.keep (N':=gC H0 p) KeepN.refl λb nb _=>G8.fresh nb,l9,λc HA ce ck Yc cm cn GA KA=>?_⟩;let ea:ds++(d::cY)++[c]=ds++(d::(cY++[c])):=∅
  rw[ea]at GA;show⟨cY++[c],_,O,by rw[qI,ln];rfl,GA,λc' eK=>?_,by rw[<-ea];show vx na cn,KA _ _ ⟨nst,np⟩ (K9 _ _ nst EV),(K8.trans K9.two).trans KA⟩;rcases rE.mp eK with h | h
  .show hc c' h
  .have:c'=c:=‹h›
   subst this;show⟨ce,ck,by rw[Yc];show Ya,cm,cn.or⟩
 .ext σ H8 ⟨cY,v,rfl,ln,G8,hc,na,EV,K8⟩;show q (d::cY) H8 (XS hk X8 de dk (by rw[oG];show pc) dm dn () hc na) ?_ G8 K8;rw[rN];omega
def Yd{n:Nat}(F:Fu K "_law_item" MO f fd)(T:Bn mg)(bF:⋯ 1 "_law_take" ["_law_stream_here", "_law_most"] gV)(oE:⋯ 4 "_law_add" ["_law_nodes", "_law_elder", "_law_kind", "_law_stuff", "_law_stream_here"] vy)(M1:⋯ 5 "_law_text" ["_law_nodes", "_law_elder", "_law_kind", "_law_stream_here"] BA)(we:⋯ (6+n) "_law_item" ["_law_nodes", "_law_elder", "_law_level", "_law_room", "_law_stream_here"] (spItem n)):(~~~0) (6+n+1) f fd ["_law_nodes", "_law_elder", "_law_level", "_law_room", "_law_stream_here"] (spItem (n+1)):=by
 rcases F.go ["_law_nodes", "_law_elder", "_law_level", "_law_room", "_law_stream_here", "_law_kinds", "_law_sides", "_law_kind", "_law_at", "_law_k"] with⟨H0,p,st,e,lv,lw,R,de,ds,rfl,G,M2,BG,l1,l4,lvw,lwv,hn,wf,bK,oq,nms,q⟩;show⟨_,(aw (sv 5 (a0 (aJ aQ (aJ aQ (aJ aQ (aJ aQ (aJ aQ (a3 aQ aQ aQ))))))))
  (aw (sv 6 (UX (ec bv (px aI (px aE '0' '1') ao) aQ) (Km (ec bv (px aI (px aE '0' '1') ao) aQ))))
  (aw (sv 7 (px aE '5' (cF bF hr (a2 '4' (px aE (a0 (a2 ao ao)) (dS tY (by rfl) T.int qf (a1 '6')))))))
  (aw (a7 (PW.pt (jI (PW.pt (iC (tc bv '7' aQ) (jH (tc bv (px aI (px aE '0' '1') ao) aQ)))) (l5 (PW.pt (iC (tc tQ '2' ao) (jH (tc AZ '7' (a0 (a3 aQ aQ aQ))))))))) (aA (sv 7 aQ)) bg)
  (aw (a7 (PW.pt (iC (tc KR (ln T.len '0') '3') (jH (tc AZ '7' (a0 (a3 aQ aQ aQ)))))) (aA (sv 7 aQ)) bg)
  (aw (a7 (PW.pt (jI (tc bv '7' aQ) (l5 (tc bv '7' aQ)))) (aA (cq (cF M1 hr (aJ '0' (a3 '1' '7' '4'))))) (aA (a7 (tc bv '7' aQ) (aA (cq (cF oE hr (aJ '0' (aJ '1' (a3 '7' (a0 (a2 (aG bi ao (cF bF hr (a2 '4' ao))) (aG bi ao (cF bF hr (a2 '4' ao))))) '4')))))) (aw (sv 8 (cF oE hr (aJ '0' (aJ '1' (a3 '7' (a0 bE) '4')))))
  (aA (fv (r1 T.range (aG bi (cF bF hr (a2 '4' ao)) (dS tY (by rfl) T.int qf (a1 (ec iE '7' aQ))))) (nv 9)
  (aA (cq (cF we hr (aJ '0' (aJ '8' (a3 (aG bi '2' ao) '3' '4'))))))))))))
  (aA (a7 (tc bv '7' aQ) (aA (cq (cF M1 hr (aJ '0' (a3 '1' aQ '4'))))) bg)))))))),?_⟩
 show⟨aK,λkl qi=>?_⟩;let s1:=ar qi (.lst (on.map λk=>V.str k.s));let G1:=G.same s1;let cQ:af H kl (.lst (on.map λk=>V.str k.s)) kl=!.lst (on.map λk=>V.str k.s):=aj;let wg:kl≠st:=bM G.so.some qi;let kp:kl≠p:=bM G.psome qi;let K1:fW st p H (af H kl (.lst (on.map λk=>V.str k.s))):=s1.keep;dsimp only[aZ];show tI _ _ _ [!.ref p,!.int e,!.int lv,!.int R,!.ref st,!.ref kl,none,none,none,none] (af H kl (.lst (on.map λk=>V.str k.s)));generalize af H kl (.lst (on.map λk=>V.str k.s))=H1 at s1 G1 cQ K1⊢;let⟨as,hp,nd⟩:=G1.bk;let⟨a,ea,na⟩:=nd.get M2;let⟨m,s',ha,_⟩:=na.ex;show seq_post (λae H'=>∃sd:Bool,ae=[!.ref p,!.int e,!.int lv,!.int R,!.ref st,!.ref kl,!.bl sd,none,none,none]/\H1=H'/\(sd=true↔de.k=.shelf\/de.k=.grid)) (λD' hD=>?_) ?_
 .show¬⟨p,_,_,_,O,O,ag hp,aU ea,a,_,_,_,O,O,aD ha,O,O,_,O,?_⟩;rw[show decide (V.str de.k.s=V.str (s!"shelf"))=decide (de.k=.shelf)from bB de.k .shelf];show cp (λc=>?_) (λc=>?_)
  .show hD _ _ ⟨true,O,O,⟨λ_=>.inl (rH c),λ_=>rfl⟩⟩
  .show¬⟨p,_,_,_,O,O,ag hp,aU ea,a,_,_,_,O,O,aD ha,O,O,?_⟩;rw[show decide (V.str de.k.s=V.str (s!"grid"))=decide (de.k=.grid)from bB de.k .grid];show hD _ _ ⟨decide (de.k=.grid),O,O,⟨λz=>.inr (rH z),λz=>?_⟩⟩;rcases z with z | z
   .show qT (qQ z) c
   .show qQ z
 ext _ _ ⟨sd,rfl,rfl,EG⟩;show seq_post (λae H'=>∃k:Kd,ae=[!.ref p,!.int e,!.int lv,!.int R,!.ref st,!.ref kl,!.bl sd,!.str k.s,none,none]/\Keep1 st H1 H'/\StOk H' st/\EF de.k k) (λD' hD=>?_) ?_
 .show¬⟨aK,λt ht=>?_⟩;let s2:=ar ht (.lst [V.int 8,V.int 6]);show-⟨.inr ⟨sd,O,t,_,_,_,O,O,ag aj,Xw sd,st,_,O,G1.so.same s2,by split<;>decide,by split<;>decide,λr H3 r0 r1 S3 K3=>?_⟩⟩;let r8:r<8:=by revert r1;split<;>omega
  let⟨k,ek,hk⟩:=Xs r0 r8;show⟨kl,_,_,_,O,O,ag (K3 _ _ wg (s2 _ _ cQ)),ek,?_⟩;show hD _ _ ⟨k,O,s2.keep.trans K3,S3,Xt BG EG r1 hk⟩
 ext _ H3 ⟨k0,rfl,K13,S3,wj⟩;let G3:=G1.keep1 K13 S3;let K03:fW st p H H3:=K1.trans K13.two;let⟨as3,BC,Ye⟩:=G3.bk;let⟨a3,Yf,Yg⟩:=Ye.get M2;let⟨m3,s3',EW,_⟩:=Yg.ex;show seq_post (λae H'=>∃k:Kd,ae=[!.ref p,!.int e,!.int lv,!.int R,!.ref st,!.ref kl,!.bl sd,!.str k.s,none,none]/\Same H3 H'/\gU de.k k=true/\(3<lv->kR k)/\(k=.text\/k=.picture\/k=.case\/k=.shelf\/k=.grid\/k=.head\/k=.aside)) (λD' hD=>?_) ?_
 .refine Mx (λb H'=>Same H3 H'/\(b=false->gU de.k k0=true/\(3<lv->kR k0))) (λQ' hQ=>?_) (λb H' hb=>?_)
  .refine-⟨O,_,O,?_⟩;rw[show decide (V.str k0.s=V.str (s!"aside"))=decide (k0=.aside)from bB k0 .aside];let M3:∀(b1:Bool),(b1=false->gU de.k k0=true)->if b1=true then Q' true H3 else Ki (tV (eO (ja λi j=>.bl (decide (j<i))) (jE 2) (tC (.int 3)))) (tV (eO (AX K true) (jE 7) (pQ (dD (tC (.str (s!"text"))) (dD (tC (.str (s!"head"))) (dD (tC (.str (s!"picture"))) iG))))))
     [!.ref p,!.int e,!.int lv,!.int R,!.ref st,!.ref kl,!.bl sd,!.str k0.s,none,none] H3 Q':=by
    intro b1 hm;cases b1 with
    | true=>show bL (hQ _ _ ⟨Same.refl _,(λz=>nomatch z)⟩)
    | false =>
      show ba ⟨_,O,_,_,O,O,_,O,?_⟩
      show cp (λc=>?_) (λc=>?_)
      · show-⟨aK,λt ht=>⟨t,Bt.map (λk=>V.str k.s),O,.inl (ag aj),O,O,_,O,?_⟩⟩
        show hQ _ _ ⟨ar ht _,λz=>⟨hm O,λ_=>?_⟩⟩
        rw[qZ O,My]at z
        simpa using z
      · show hQ _ _ ⟨Same.refl _,λ_=>⟨hm O,λz=>qT (qQ (show(3:Int)<(lv:Int) by omega)) c⟩⟩
   show cp (λc=>?_) (λc=>?_)
   .show¬⟨p,_,_,_,O,O,ag BC,aU Yf,a3,_,_,_,O,O,aD EW,O,O,_,O,?_⟩;rw[show decide (V.str de.k.s=V.str (s!"aside"))=decide (de.k=.aside)from bB de.k .aside];show M3 _ λz=>?_
    rcases wj.1 with y | y
    .show y
    .show qT y.2 (of_decide_eq_false z)
   .show M3 false λ_=>?_
    rcases wj.1 with y | y
    .show y
    .show qT (qQ y.1) c
  .let⟨sb,hb⟩:=hb;cases b with
   | true=>show bL (hD _ _ ⟨.text,O,sb,Mz BG,(λ_=>.inl O),.inl O⟩)
   | false=>show ba (hD _ _ ⟨k0,O,sb,(hb O).1,(hb O).2,wj.2⟩)
 ext _ H4 ⟨k1,rfl,fJ,Yh,Yi,cL⟩;let G4:=G3.same fJ;let K04:fW st p H H4:=K03.trans fJ.keep;let⟨Yj,EO,EX⟩:=G4.bk;let Yk:Yj.length=ds⁻¹:=EX.length;show seq_post (λae H'=>∃k:Kd,ae=[!.ref p,!.int e,!.int lv,!.int R,!.ref st,!.ref kl,!.bl sd,!.str k.s,none,none]/\Same H4 H'/\Xv de.k k lv R ds⁻¹) (λD' hD=>?_) ?_
 .show Mx (λb H'=>Same H4 H'/\(b=false->R<=ds⁻¹->kR k1)) (λQ' hQ=>?_) (λb H' hb=>?_)
  .show-⟨p,_,O,.inl (ag EO),_,O,_,_,O,O,_,O,?_⟩;show cp (λc=>?_) (λc=>?_)
   .show-⟨aK,λt ht=>⟨t,Bt.map (λk=>V.str k.s),O,.inl (ag aj),O,O,_,O,?_⟩⟩;show hQ _ _ ⟨ar ht _,λz _=>?_⟩;rw[qZ O,My]at z;simpa using z
   .show hQ _ _ ⟨Same.refl _,λ_ z=>qT (qQ ?_) c⟩;rw[qA,Yk];omega
  .let⟨sb,hb⟩:=hb;cases b with
   | true=>show bL (hD _ _ ⟨.picture,O,sb,Xu BG,(λ_=>.inr (.inr O)),(λ_=>.inr (.inr O)),.inr (.inl O)⟩)
   | false=>show ba (hD _ _ ⟨k1,O,sb,Yh,Yi,hb O,cL⟩)
 ext _ H5 ⟨k2,rfl,kX,gE⟩;let G5:=G4.same kX;let K05:fW st p H H5:=K04.trans kX.keep;let notA:∀(k:Kd),k≠.aside->decide (V.str k.s=V.str (s!"aside"))=false:=λk hk=>by
  rw[show decide (V.str k.s=V.str (s!"aside"))=decide (k=.aside)from bB k .aside];show rB hk
 show seq_post (λae H'=>∃(more:List Nd) (v8 v9:Option V),ae=[!.ref p,!.int e,!.int lv,!.int R,!.ref st,!.ref kl,!.bl sd,!.str k2.s,v8,v9]/\More e lw ds more [k2]/\(R<=ds⁻¹->more⁻¹<=3)/\(ds⁻¹<R->ds⁻¹+more⁻¹+(if k2=.aside then 3 else 0)<=iK R lv)/\ds⁻¹+more⁻¹<=103/\(k2=.aside->ds⁻¹<R)/\Gs H0 st p H' (ds++more)/\fW st p H5 H') (λD' hD=>?_) ?_
 .have oH:(k2=.text\/k2=.head)->BA ([.ref p,.int e,.str k2.s,.ref st]++[]) H5 (λ_ H'=>D'.nx [!.ref p,!.int e,!.int lv,!.int R,!.ref st,!.ref kl,!.bl sd,!.str k2.s,none,none] H') E0:=λhk=>by
   let na:k2≠.aside:=by rcases hk with rfl | rfl<;>decide
   show⟨H0,p,st,e,lw,k2,ds,O,G5,hk,(),(),oq,nms,λmore H6 mo m3 G6 K6=>?_⟩;show hD _ _ ⟨more,none,none,O,mo,(λ_=>m3),(λz=>?_),(),(λz=>qT z na),G6,K6⟩;rw[qX na];have:=MA (R:=R) (lv:=lv) z;omega
  show-⟨O,_,O,?_⟩;rw[show decide (V.str k2.s=V.str (s!"text"))=decide (k2=.text)from bB k2 .text];show cp (λc=>?_) (λc=>?_)
  .show bL ⟨_,O,_,O,_,O,_,O,oH (.inl (rH c))⟩
  show-⟨O,_,O,?_⟩;rw[show decide (V.str k2.s=V.str (s!"head"))=decide (k2=.head)from bB k2 .head];show cp (λc2=>?_) (λc2=>?_)
  .show¬⟨_,O,_,O,oH (.inr (rH c2))⟩
  show-⟨O,_,O,?_⟩;rw[show decide (V.str k2.s=V.str (s!"picture"))=decide (k2=.picture)from bB k2 .picture];show cp (λc3=>?_) (λc3=>?_)
  ·-- a picture
   let EY:k2=.picture:=rH c3;show¬⟨_,O,_,O,st,60,O,G5.so,{},{},λr6 H6 MV MW S6 K6=>⟨_,_,O,O,_,O,st,60,O,S6,{},{},λr7 H7 r70 r71 S7 K7=>⟨_,_,O,O,aK,λt ht=>?_⟩⟩⟩;let s8:=ar ht (.lst [.int (1+r6),.int (1+r7)]);let K58:Keep1 st H5 _:=(K6.trans K7).trans s8.keep;let G8:=G5.keep1 K58 (S7.same s8);show-⟨H0,p,st,t,e,k2,[.int (1+r6),.int (1+r7)],ds,O,G8,⟨(G5.keep1 (K6.trans K7) S7).fresh ht,_,aj,.cons O (.cons O .nil)⟩,(),λd H9 EZ dk oG dm dn G9 K9=>?_⟩;show hD _ _ ⟨[d],none,none,O,by rw[EY]at dk⊢;show XU EZ () dk oG ⟨(),()⟩ ⟨(),()⟩ dm dn nms,(λ_=>∅),(λz=>?_),by simp;omega,(λz=>by rw[EY]at z;cases z),G9,K58.two.trans K9⟩;rw[EY,qX {}];have:=MA (R:=R) (lv:=lv) z;simp;omega
  ·-- a box
   let hb:k2=.case\/k2=.shelf\/k2=.grid\/k2=.aside:=by
    let n1:k2≠.text:=λz=>c (qQ z)
    let n2:k2≠.head:=λz=>c2 (qQ z)
    let n3:k2≠.picture:=λz=>c3 (qQ z)
    rcases gE.one with h | h | h | h | h | h | h<;>simp_all
   let nl:¬kR k2:=by rcases hb with h | h | h | h<;>rw[h]<;>decide
   let Yl:lv<=3:=xW λz=>nl (gE.lvl z)
   let hR:ds⁻¹<R:=Nat.lt_of_not_le λz=>nl (gE.room z)
   let Ym:mz k2:=by rcases hb with h | h | h | h<;>rw[h]<;>simp[mz]
   show¬⟨_,O,aK,λt ht=>?_⟩;let s6:=ar ht (.lst []);show-⟨H0,p,st,t,e,k2,[],ds,O,G5.same s6,⟨G5.fresh ht,_,aj,.nil⟩,(),λd H7 EZ dk oG dm dn G7 K7=>?_⟩;let K57:fW st p H5 H7:=s6.keep.trans K7;show-⟨st,3,O,G7.so,{},{},λr8 H8 MT MU S8 K8=>-⟨O,.inr ⟨_,O,_,_,O,O,?_⟩⟩⟩;rw[show decide (V.str k2.s=V.str (s!"case"))=decide (k2=.case)from bB k2 .case];let G8:=G7.keep1 K8 S8;let cnt:∃c:Nat,r8+(if((Bool.not (decide (k2=Kd.case))))=true then 1 else 0)=(c:Int)/\c<=3/\(k2≠.case->1<=c):=by
    show⟨(r8+(if((Bool.not (decide (k2=Kd.case))))=true then 1 else 0)).toNat,?_,?_,λz=>?_⟩
    .split<;>omega
    .split<;>omega
    .rw[rB z];simp;omega
   let⟨c,ec,Yn,c1⟩:=cnt;show⟨(c:Int),xJ (λz=>[V.int z]) ec,(),(),gp (λj σ H9=>∃(sub:List Nd) (ks:List Kd) (v:Option V),σ=[!.ref p,!.int e,!.int lv,!.int R,!.ref st,!.ref kl,!.bl sd,!.str k2.s,!.int ds⁻¹,v]/\Kids ds⁻¹ lw k2 (ds++[d]) sub ks/\(0<j->ks≠[])/\jg R lv j (ds⁻¹+1+sub⁻¹)/\Gs H0 st p H9 (ds++[d]++sub)/\fW st p H5 H9)
    ⟨[],[],none,O,⟨.nil,(λd hd=>nomatch hd),by rw[rS];show vx nms dn,by rw[rS];show MF oq dn,(λc hc=>nomatch hc),trivial⟩,(λz=>qT z (rP 0)),.inl (by simp;omega),by rw[rS];show G8,K57.trans K8.two⟩ ?_ ?_⟩
   .ext j σ H9 hj ⟨sub,ks,v,rfl,kids,kY,cb,G9,K9⟩;let j3:j<3:=by simp at hj;omega
    let l9:(ds++[d]++sub)⁻¹=ds⁻¹+1+sub⁻¹:=by rw[qI,qI];rfl
    let M4:=MC cb () wf;show¬⟨_,O,_,_,O,O,_,O,_,O,H0,p,st,ds⁻¹,lv+1,lw+1,R,d,ds++[d]++sub,O,G9,?_,by rw[dk];show Ym,(),(),(),(),(),wf,(),kids.ok,kids.nm,λmore bZ HA mo ik m3 mc GA KA=>?_⟩
    .rw[xE,rG (qG _)];simp
    rw[dk]at ik;show⟨sub++more,ks++bZ,_,O,kids.more l9 mo ik,(λ_=>by have:=ik.ne;simp[this]),?_,by rw[<-xE];show GA,K9.trans KA⟩;show MB cb (λz=>?_) (λz=>?_)
    .have:=m3 ();rw[qI];omega
    .have:=mc ();rw[qI];omega
   .ext σ H9 ⟨sub,ks,v,rfl,kids,kY,cb,G9,K9⟩;let cc:((c:Int)).toNat<=3:=‹Yn›
    let cb':=Xx cb cc l1 Yl;let M4:=MC cb cc wf;let ee:ds++(d::sub)=ds++[d]++sub:=∅
    show hD _ _ ⟨d::sub,_,v,O,?_,(λz=>qT z ()),(λ_=>?_),by rw[rN];omega,(λ_=>hR),by rw[ee];show G9,K9⟩
    .have:=MG (lv:=lw) EZ () (by rw[dk];show hb) oG dm dn (by rw[dk];show kids) (by rw[dk];show λz=>kY (by have:=c1 z;simp;omega));rw[dk]at this;show this
    .rw[rN]
     split<;>omega
 ext _ H6 ⟨more,v8,v9,rfl,mo,m3,mc,ml,hA,G6,K6⟩;let K06:fW st p H H6:=K05.trans K6;show-⟨O,_,O,?_⟩;rw[show decide (V.str k2.s=V.str (s!"aside"))=decide (k2=.aside)from bB k2 .aside];show cp (λc=>?_) (λc=>?_)
 .let hk:k2=.aside:=rH c;show¬⟨_,O,H0,p,st,e,lw,.text,ds++more,O,G6,.inl O,by rw[qI];omega,(),mo.nms oq,mo.nm,λYo H7 Yp m3' G7 K7=>?_⟩;let hR:=hA hk;let Yq:=mc hR;rw[qZ hk]at Yq;show q (more++Yo) ([k2]++[.text]) H7 (mo.cat Yp) (.inr ⟨by rw[hk];rfl,by rw[<-hk];show gE.may,Mz BG⟩) (λz=>qT z ()) (λ_=>by rw[qI];omega) (by rw[<-xE];show G7) (K06.trans K7)
 .let hk:k2≠.aside:=λz=>c (qQ z)
  show q more [k2] H6 mo (.inl ⟨k2,O,hk,gE.may⟩) m3 (λz=>?_) G6 K06;have:=mc z;rw[qX hk]at this;omega
def Yr(F:Fu K "_law_book" MP f fd)(T:Bn mg)(we:⋯ 10 "_law_item" ["_law_nodes", "_law_elder", "_law_level", "_law_room", "_law_stream_here"] (spItem 4)):(~~~0) 11 f fd ["_law_stream_here", "_law_many", "_law_room"] spBook:=by
 rcases F.go ["_law_stream_here", "_law_many", "_law_room", "_law_nodes", "_law_k"] with⟨st,m,R,rfl,S,m1,m4,R1,wf,q⟩;let hu:=hr.units;show⟨_,(aw (sv 3 (a0 (a1 (br (aJ (dM dN ao) (aJ aQ (a3 aQ (a0 bE) (a0 bE))))))))
  (aw (fv (r1 T.range '1') (nv 4)
  (aA (cq (cF we hr (aJ '3' (aJ ao (a3 ao '2' '0')))))))
  (aA (aH '3')))),?_⟩
 show-⟨aK,λmk M5=>⟨aK,λsf wl=>⟨aK,λa ha=>⟨aK,λp hp=>?_⟩⟩⟩⟩;let s1:=ar M5 (.lst []);let s2:=ar wl (.lst []);let s3:=ar ha (.tup [.int (-1),.str (s!"body"),.str (s!""),.ref mk,.ref sf]);let s4:=ar hp (.lst [V.ref a]);let jS:Same H _:=((s1.trans s2).trans s3).trans s4;let fr:∀{H':Hp} {b:Addr},Same H H'->H' b=none->H b=none:=λss hb=>ss.free hb
 let BH:H p=none:=((s1.trans s2).trans s3).free hp;let G1:Gs H st p (af (af (af (af H mk (.lst [])) sf (.lst [])) a (.tup [.int (-1),.str (s!"body"),.str (s!""),.ref mk,.ref sf])) p (.lst [V.ref a])) [bR]:=by
  show⟨S.same jS,S.some,BH,jS.keep,[a],aj,.cons ⟨⟨(s1.trans s2).free ha,JR (s4 _ _ aj) aj (by intro z;cases z)⟩,mk,sf,s4 _ _ aj,⟨M5,bM ⟨_,(s2.trans s3) _ _ aj⟩ hp |>.symm⟩,(s2.trans (s3.trans s4)) _ _ aj,⟨s1.free wl,(bM ⟨_,s3 _ _ aj⟩ hp).symm⟩,[],(s3.trans s4) _ _ aj,.nil⟩ .nil⟩
 generalize af (af (af (af H mk (.lst [])) sf (.lst [])) a (.tup [.int (-1),.str (s!"body"),.str (s!""),.ref mk,.ref sf])) p (.lst [V.ref a])=H1 at G1 jS⊢;show¬⟨(),(),gp (λj σ H2=>∃(sub:List Nd) (ks:List Kd) (v:Option V),σ=[!.ref st,!.int m,!.int R,!.ref p,v]/\Kids 0 0 .body [bR] sub ks/\(0<j->ks≠[])/\jg R 0 j (1+sub⁻¹)/\Gs H st p H2 (bR::sub))
  ⟨[],[],none,O,XV,(λz=>qT z (rP 0)),.inl (by simp;omega),G1⟩ ?_ ?_⟩
 .ext j σ H2 hj ⟨sub,ks,v,rfl,kids,kY,cb,G2⟩;let j4:j<4:=by simp at hj;omega
  let M4:1+sub⁻¹<=60:=by
   unfold jg iK at cb;simp at cb;omega
  show¬⟨_,O,H,p,st,0,1,1,R,bR,bR::sub,O,G2,O,.inl O,{},{},{},{},{},wf,by rw[rN];omega,kids.ok,kids.nm,λmore bZ H3 mo ik m3 mc G3 K3=>?_⟩;show⟨sub++more,ks++bZ,_,O,kids.more (by show(bR::sub)⁻¹=0+1+sub⁻¹;rw[rN];omega) mo ik,(λ_=>?_),?_,G3⟩
  .intro z;show ik.ne (List.append_eq_nil_iff.mp z).2
  .show MB cb (λz=>?_) (λz=>?_)
   .have:=m3 (by rw[rN];omega);rw[qI];omega
   .have:=mc (by rw[rN];omega);rw[rN]at this;rw[qI];show 1+(sub⁻¹+more⁻¹)<=iK R 1;omega
 .ext σ H2 ⟨sub,ks,v,rfl,kids,kY,cb,G2⟩;let le:sub⁻¹<=R+26+3*m:=by
   unfold jg iK at cb;simp at cb;omega
  show-⟨?_⟩;show q p sub ks H2 kids le (kY (by simp;omega)) G2
def Ys(F:Fu K "_law_wide" MQ f fd)(T:Bn mg)(bF:⋯ 1 "_law_take" ["_law_stream_here", "_law_most"] gV)(oE:⋯ 4 "_law_add" ["_law_nodes", "_law_elder", "_law_kind", "_law_stuff", "_law_stream_here"] vy)(we:⋯ 10 "_law_item" ["_law_nodes", "_law_elder", "_law_level", "_law_room", "_law_stream_here"] (spItem 4)):(~~~0) 11 f fd ["_law_nodes", "_law_stream_here"] spWide:=by
 rcases F.go ["_law_nodes", "_law_stream_here", "_law_at", "_law_k"] with⟨H0,p,st,sub,ks,rfl,G,kids,bK,q⟩;let hu:=hr.units;show⟨_,(aw (sv 2 (cF oE hr (aJ '0' (aJ ao (a3 (px aE (a0 (a2 aQ aQ)) (cF bF hr (a2 '1' ao))) (a0 bE) '1')))))
  (aA (fv (r1 T.range (aG bi ao (cF bF hr (a2 '1' ao)))) (nv 3)
  (aA (cq (cF we hr (aJ '0' (aJ '2' (a3 ao ao '1'))))))))),?_⟩
 show-⟨aK,λt ht=>?_⟩;let s1:=ar ht (.lst (([s!"shelf",s!"grid"]:TV).map V.str));show-⟨st,2,O,G.so.same s1,{},{},λr H1 r0 r1 S1 K1=>?_⟩;let ek:∃k:Kd,bI (([s!"shelf",s!"grid"]:TV).map V.str) r=!.str k.s/\(k=.shelf\/k=.grid):=by
  rcases(by omega:r=0\/r=1)with rfl | rfl
  .show⟨.shelf,O,.inl O⟩
  .show⟨.grid,O,.inr O⟩
 let⟨k,ek,hk⟩:=ek;let M6:Keep1 st H H1:=s1.keep.trans K1;show⟨t,_,_,_,O,O,ag (K1 _ _ (bM G.so.some ht) aj),ek,aK,λsf wl=>?_⟩;let s2:=ar wl (.lst []);let G2:=(G.keep1 M6 S1).same s2;show-⟨H0,p,st,sf,0,k,[],bR::sub,O,G2,⟨(G.keep1 M6 S1).fresh wl,[],aj,.nil⟩,by rw[rN];omega,λd H3 de dk oG dm dn G3 K3=>?_⟩;let le1:(bR::sub)⁻¹=sub⁻¹+1:=rN;show-⟨st,6,O,G3.so,{},{},λr4 H4 ot ou S4 K4=>⟨_,_,O,O,?_⟩⟩;let G4:=G3.keep1 K4 S4;let ct:mz d.k:=by rw[dk];rcases hk with rfl | rfl<;>simp[mz]
 show-⟨(),(),gp (λj σ H9=>∃(jT:List Nd) (kz:List Kd) (v:Option V),σ=[!.ref p,!.ref st,!.int (bR::sub)⁻¹,v]/\Kids (bR::sub)⁻¹ 1 d.k (bR::sub++[d]) jT kz/\(0<j->kz≠[])/\jT⁻¹<=3*j/\Gs H0 st p H9 (bR::sub++[d]++jT))
  ⟨[],[],none,O,⟨.nil,(λd hd=>nomatch hd),by rw[rS];show vx kids.nm dn,?_,(λc hc=>nomatch hc),trivial⟩,(λz=>qT z (rP 0)),∅,by rw[List.append_nil];show G4⟩ ?_ ?_⟩
 .rw[rS];show MF kids.ok dn
 .ext j σ H9 hj ⟨jT,kz,v,rfl,ki,M7,Yt,G9⟩;let j9:j<9:=()
  show¬⟨_,O,H0,p,st,(bR::sub)⁻¹,1,2,0,d,bR::sub++[d]++jT,O,G9,?_,ct,{},{},{},{},{},{},?_,ki.ok,ki.nm,λmore bZ HA mo ik m3 mc GA KA=>?_⟩
  .rw[xE,rG (qG _),Nat.sub_self];rfl
  .rw[qI,qI,uQ];omega
  show⟨jT++more,kz++bZ,_,O,ki.more (by rw[qI,qI,uQ]) mo ik,(λ_ z=>ik.ne (List.append_eq_nil_iff.mp z).2),?_,?_⟩
  .have:=m3 (rL _);rw[qI];omega
  .rw[<-xE];show GA
 .ext σ H9 ⟨jT,kz,v,rfl,ki,M7,Yt,G9⟩;let mo:=MG (lv:=1) (e:=0) (ds:=bR::sub) (d:=d) (sub:=jT) (ks:=kz) de {} (by rw[dk];rcases hk with rfl | rfl<;>simp) oG dm dn ki (λ_=>M7 ());let il:jT⁻¹<=27:=()
  show q (d::jT) [d.k] H9 (kids.more (by show(bR::sub)⁻¹=0+1+sub⁻¹;rw[rN];omega) mo ?_) (by rw[rN];omega) ‹G9›;show .inl ⟨d.k,O,by rw[dk];rcases hk with rfl | rfl<;>decide,by rw[dk];rcases hk with rfl | rfl<;>rfl⟩
end K31
namespace Tim
open PyProof.Rows
def T(xs:Array Keyed)(i:Nat):Keyed:=xs[i]?.getD (.none,.none)
def wm{i j:Nat}(h:xs[i]?=ys[j]?):T xs i=T ys j:=by unfold T;rw[h]
def T_at{i:Nat}(h:i<xs.size):xs[i]?=!T xs i:=by
 unfold T;rw[yP h];rfl
def E1{je d:Nat}(hs:je<xs.size)(hd:d<=je)(k:Nat) :
  T (bubble xs je d) k=if k=je-d then T xs je else if je-d<k/\k<=je then T xs (k-1)else T xs k:=by
 let e:=getElem?_bubble hs d hd k
 by_cases h1:k=je-d
 .rw[qZ h1]at e⊢;show wm e
 .rw[qX h1]at e⊢
  by_cases h2:je-d<k/\k<=je
  .rw[qZ h2]at e⊢;show wm e
  .rw[qX h2]at e⊢;show wm e
def jU{i j:Nat}(hj:j<=xs.size)(k:Nat) :
  T (mirror xs i j ((j-i) / 2)) k=if i<=k/\k<j then T xs (i+j-1-k)else T xs k:=by
 let e:=getElem?_mirror_all (i:=i) hj k
 by_cases h1:i<=k/\k<j
 .rw[qZ h1]at e⊢;show wm e
 .rw[qX h1]at e⊢;show wm e
end Tim
namespace Shr
def Yu{x:Int}(h:1<=x/\x<=9):0<2520 / x/\2520 / x*x=2520:=by
 have:x=1\/x=2\/x=3\/x=4\/x=5\/x=6\/x=7\/x=8\/x=9:=()
 rcases this with rfl | rfl | rfl | rfl | rfl | rfl | rfl | rfl | rfl<;>decide
def M8{M w:Int}(hM:0<M)(hw:0<w){t:Nat}(h:∀s:Nat,s<t->M*((s:Int)+1) % w≠0):(t:Int)<w:=by
 show Classical.byContradiction λc=>?_
 obtain⟨v,hv⟩:∃v:Nat,(v:Int)+1=w:=⟨(w-1).toNat,()⟩;show h v () ?_;rw[hv];show Int.mul_emod_left M w
end Shr
namespace Gen
open L2 Bk
def mD(ds:List Nd)(n:Int)(i:Nat):TN:=((List.range i).filter λj=>decide (ds[j]?.map Nd.e=!n)).map λ(j:Nat)=>(j:Int)
def Yv{n:Int}{i:Nat}(h:ds[i]?=!d)(e:d.e=n):mD ds n (i+1)=mD ds n i++[(i:Int)]:=by
 unfold mD;rw[u8,xB,qD];simp[h,e]
def Yw{n:Int}{i:Nat}(h:ds[i]?=!d)(e:¬d.e=n):mD ds n (i+1)=mD ds n i:=by
 unfold mD;rw[u8,xB,qD];simp[h,e]
inductive E2:List V->Hp->VK->XK->Prop
|m (v:Int):vs=[.int v]->Q (.bl true) H->E2 vs H Q E
theorem E3:∀(xs:TN),DAll H ⇑xs (xs.map W.Dat.int)
 | []=>.nil
 | x::l=>.cons (.int x) (E3 l)
end Gen
namespace L2
open PyProof.Rows
end L2
namespace Bk
open L2 Gen
inductive Lev(ds:List Nd):Nat->Nat->Prop
 | top {i:Nat} {d:Nd}:ds[i]?=!d->d.e=-1->Lev ds i 0
 | up {i j l:Nat} {d:Nd}:ds[i]?=!d->d.e=(j:Int)->j<i->Lev ds j l->Lev ds i (l+1)
def Forest.elds{e i lv:Nat}(x:Forest e i lv l ks):e<i->∀(k:Nat) (d:Nd),l[k]?=!d->∃j:Nat,d.e=(j:Int)/\j<i+k:=by
 induction x with
 | nil=>intro _ k d h;cases h
 | @cons e i lv d sub rest ks bZ h1 h2 h3 f1 h4 f2 jM gx =>
   intro he k c hk
   cases k with
   | zero=>cases hk;show⟨e,h1,()⟩
   | succ k =>
     rw[rT]at hk
     by_cases hs:k<sub⁻¹
     · rw[rY hs]at hk
       let⟨j,ej,hj⟩:=jM () k c hk
       show⟨j,ej,()⟩
     · rw[rG ()]at hk
       let⟨j,ej,hj⟩:=gx () _ c hk
       show⟨j,ej,()⟩
def Book.lev(b:Book ds):∀(i:Nat),i<ds⁻¹->∃l,l<=i/\Lev ds i l:=by
 let⟨d,sub,ks,rfl,h1,h2,f,_⟩:=b.tree;intro i
 induction i using Nat.strongRecOn with
 | _ i ih =>
   intro hi
   cases i with
   | zero=>show⟨0,qG _,.top O h1⟩
   | succ k =>
     let hk:k<sub⁻¹:=‹hi›
     let e:sub[k]?=!sub[k]:=qB hk
     let⟨j,ej,hj⟩:=f.elds {} k _ e
     let⟨l,hl,hv⟩:=ih j () (by simp;omega)
     show⟨l+1,(),.up (by rw[rT];show e) ej () hv⟩
end Bk
namespace Gen
open L2 Bk
def wn(ds:List Nd)(L:Nat->Nat):=∀i,i<ds⁻¹->Lev ds i (L i)/\L i<=i
def Book.levs(b:Book ds):∃L,wn ds L:=by
 let h:∀i,∃l,i<ds⁻¹->Lev ds i l/\l<=i:=λi=>by
  by_cases hi:i<ds⁻¹
  .let⟨l,h1,h2⟩:=b.lev i hi;show⟨l,λ_=>⟨h2,h1⟩⟩
  .show⟨0,λz=>qT z hi⟩
 show⟨λi=>Classical.choose (h i),λi hi=>Classical.choose_spec (h i) hi⟩
def E4(k k':So):decide (V.str k.s=V.str k'.s)=decide (k=k'):=by
 by_cases h:k=k'
 .rw[qQ h,h];show qQ O
 .rw[rB h];show rB λz=>h ?_
  have:=V.str.inj z;rw[So.inj]at this;show this
end Gen
namespace Bk
open L2 Gen
open PySem.W (Dat kqdOk)
end Bk
namespace Bk
open L2
def iL(ds:List Nd):Nat->Int->List Int
 | 0,_=>[]
 | m+1,ab=>ab::iL ds m (match ds[ab.toNat]? with | some d=>d.e | none=>-1)
theorem BI(ds:List Nd):∀(m:Nat) (ab:Int),(iL ds m ab)⁻¹=m
 | 0,_=>rfl
 | m+1,ab=>by rw[iL,rN,BI ds m]
def Yx{j m:Nat}(h:ds[j]?=!d):iL ds (m+1) (j:Int)=(j:Int)::iL ds m d.e:=by
 rw[iL,yR,h]
def E5(ds:List Nd)(ab:Int)(m:Nat):=(ab=-1/\m=0)\/∃j k:Nat,ab=j/\Lev ds j k/\m=k+1
def Na{i l:Nat}(h:Lev ds i l)(e':ds[i]?=!d):E5 ds d.e l:=by
 cases h with
 | top e h=>rw[e']at e;cases e;show .inl ⟨h,O⟩
 | up e h1 h2 h3=>rw[e']at e;cases e;show .inr ⟨_,_,h1,h3,O⟩
def Lev.nd{i l:Nat}(h:Lev ds i l):∃d,ds[i]?=!d:=by
 cases h with
 | top e h=>show⟨_,e⟩
 | up e h1 h2 h3=>show⟨_,e⟩
def gZ(s:Same H H')(h:H L=none):Same H (af H' L o):=λb u e=>by rw[aF (cB e h)];show s b u e
end Bk
namespace Gen
open L2 Bk
inductive E6:List V->Hp->VK->XK->Prop
|m (p:Addr) (i l:Nat) (d:Nd) (ds:List Nd) (N:Addr->Prop):vs=[.ref p,.int i]->b8 N H p ds->ds[i]?=!d->Lev ds i l->l<=999->(∀(L:Addr) (H':Hp),H L=none->Same H H'->H' L=!.lst ⇑(iL ds l d.e)->Q (.ref L) H')->E6 vs H Q E
inductive E7:List V->Hp->VK->XK->Prop
|m (p:Addr) (i l:Nat) (ds:List Nd) (N:Addr->Prop):vs=[.ref p,.int i]->b8 N H p ds->Lev ds i l->l<=999->(∀H',Same H H'->Q (.int l) H')->E7 vs H Q E
end Gen
namespace L2
open PyProof.Rows
section
variable{X:Cx}{CX:dg}{k:Nat}{ps:TV}{sp:Sp}{E:XK}{x:Str}{p pos:Pos}
def E8{x1:Nat}(ha:PE X (.Tuple nQ x1 eL) te)(hr:PA X es t):PA X (.Tuple nQ x1 eL::es) (dD te t):=aJ ha hr (by rfl)
end
end L2
namespace Bk
open L2
def bN{α β:Type}{F:α->β->Prop}{l1:List α}{l2:List β}(h:Paired F l1 l2){i:Nat}{a:α}(e:l1[i]?=!a):∃b,l2[i]?=!b/\F a b:=by
 induction h generalizing i with
 | nil=>cases e
 | @cons a b l1 l2 q t ih =>
   cases i with
   | zero=>cases e;show⟨b,O,q⟩
   | succ i=>show ih ‹e›
def Yy(x:Str)(l:TV):mq (.str x) (l.map V.str)=decide (x∈l):=by
 by_cases h:x∈l
 .rw[qQ h];unfold mq;rw[vG];show⟨.str x,uU h,by show(x == x)=true;simp⟩
 .rw[rB h];unfold mq;rw[List.any_eq_false];intro v hv;let⟨y,hy,rfl⟩:=qO.mp hv;show¬(y == x)=true;intro z;show h ((beq_iff_eq.mp z) ▸ hy)
def Yz:List (Str×Int×Int×Int):=[("face",0,99,0),("align",0,3,0),("above",0,400,0),("inset",0,400,0),("weight",1,9,1),("least",0,4000,0),("most",0,4000,4000),("columns",1,6,2),("span",1,6,1),("deep",1,4,1),("side",0,1,0),("wide",1,4000,100),("fresh",0,1,0)].map λy=>(Str.ofString y.1,y.2.1,y.2.2.1,y.2.2.2)
end Bk
namespace Bk
open L2
open PySem.W (Dat kqdOk)
end Bk
namespace Gen
open L2 Bk
end Gen
namespace L2
open PyProof.Rows
section
variable{κ:Type}[DecidableEq κ]
def cw(ax:List (κ×V))(k:κ):Option V:=(ax.find? λkv=>decide (kv.1=k)).map (·.2)
def fg(ax:List (κ×V))(k:κ)(v:V):List (κ×V) :=
 if(ax.any λkv=>decide (kv.1=k))=true then ax.map (λkv=>if kv.1=k then(kv.1,v)else kv)else ax++[(k,v)]
def g8{p:κ×V}{r:List (κ×V)}{k:κ}(e:p.1=k):cw (p::r) k=!p.2:=by simp[cw,List.find?_cons,e]
def hG{p:κ×V}{r:List (κ×V)}{k:κ}(e:¬p.1=k):cw (p::r) k=cw r k:=by simp[cw,List.find?_cons,e]
theorem wo(k:κ):∀ax:List (κ×V),(ax.any λkv=>decide (kv.1=k))=(cw ax k).isSome
 | []=>rfl
 | p :: r => by
   rw[vJ]
   by_cases e:p.1=k
   · simp only[g8 e,decide_eq_true e,Bool.true_or,Option.isSome_some]
   · rw[hG e,rB e,Bool.false_or];show wo k r
theorem Nb(k j:κ)(y:V):∀ax:List (κ×V),cw (ax.map λkv=>if kv.1=k then(kv.1,y)else kv) j=(cw ax j).map λx=>if j=k then y else x
 | []=>rfl
 | p :: r => by
   let ih:=Nb k j y r
   rw[xY]
   by_cases h:p.1=k
   · rw[qZ h]
     by_cases e:p.1=j
     · rw[g8 (p:=(p.1,y)) e,g8 e,vR,qZ (e.symm.trans h)]
     · rw[hG (p:=(p.1,y)) e,hG e,ih]
   · rw[qX h]
     by_cases e:p.1=j
     · rw[g8 (p:=p) e,g8 e,vR,qX (λz=>h (e.trans z))]
     · rw[hG (p:=p) e,hG e,ih]
theorem Nc(k j:κ)(y:V):∀ax:List (κ×V),cw ax k=none->cw (ax++[(k,y)]) j=if j=k then !y else cw ax j
 | [], _ => by
   by_cases e:k=j
   · rw[qZ e.symm];show g8 (p:=(k,y)) e
   · rw[qX (λz=>e z.symm)];show hG (p:=(k,y)) e
 | p :: r, hn => by
   rw[v7]
   let hk:¬p.1=k:=λz=>by rw[g8 z]at hn;cases hn
   rw[hG hk]at hn
   let ih:=Nc k j y r hn
   by_cases e:p.1=j
   · rw[g8 e,g8 e,qX (λz=>hk (e.trans z))]
   · rw[hG e,hG e,ih]
def YA(ax:List (κ×V))(k j:κ)(y:V):cw (fg ax k y) j=if j=k then !y else cw ax j:=by
 unfold fg
 by_cases a:(ax.any λkv=>decide (kv.1=k))=true
 .rw[qZ a,Nb];rw[wo]at a
  by_cases e:j=k
  .let⟨x,hx⟩:=Option.isSome_iff_exists.mp a;rw[qZ e,e,hx,vR,qZ O]
  .rw[qX e];cases cw ax j with
   | none=>rfl
   | some x=>rw[vR,qX e]
 .rw[qX a];show Nc k j y ax ?_;rw[wo]at a;cases q:cw ax k with
  | none=>rfl
  | some x=>rw[q]at a;show(a O).elim
def E9(ax:List (κ×V))(k:κ)(v:V):(fg ax k v)⁻¹<=ax⁻¹+1:=by
 unfold fg
 split
 .rw[qA];omega
 .rw[qI,rN,List.length_nil];omega
def YB{ax:List (κ×V)}{k:κ}(v:V)(h:cw ax k=none):fg ax k v=ax++[(k,v)]:=by
 unfold fg;rw[wo,h];show qX {}
def RelO.isSome_eq(r:RelO o u):o.isSome=u.isSome:=by
 cases o with
 | none => cases u with
   | none=>rfl
   | some _=>show(show False from r).elim
 | some _ => cases u with
   | none=>show(show False from r).elim
   | some _=>rfl
def RelO.getD(r:RelO o u)(rd:RelV d d'):RelV (o.getD d) (u.getD d'):=by
 cases o with
 | none => cases u with
   | none=>show rd
   | some _=>show(show False from r).elim
 | some _ => cases u with
   | none=>show(show False from r).elim
   | some _=>show r
def KV.val{ax:List (κ×V)}{vs:List (κ×Value)}(r:KV ax vs)(k:κ):RelO (cw ax k) (valueAt vs k):=by
 unfold KV at r
 induction r with
 | nil=>show True.intro
 | @cons p q ps qs h t ih =>
   let⟨h1,h2⟩:=h
   by_cases e:p.1=k
   · let e':q.1=k:=h1.symm.trans e
     let b:valueAt (q::qs) k=!q.2:=by simp[valueAt,List.find?_cons,e']
     rw[g8 e,b];show h2
   · let e':¬q.1=k:=λz=>e (h1.trans z)
     let b:valueAt (q::qs) k=valueAt qs k:=by simp[valueAt,List.find?_cons,e']
     rw[hG e,b];show ih
def KV.any{ax:List (κ×V)}{vs:List (κ×Value)}(r:KV ax vs)(k:κ):(ax.any λkv=>decide (kv.1=k))=vs.any λkv=>decide (kv.1=k):=by
 unfold KV at r
 induction r with
 | nil=>rfl
 | cons h t ih=>rw[vJ,vJ,ih,h.1]
def KV.repl{ax:List (κ×V)}{vs:List (κ×Value)}(r:KV ax vs)(k:κ)(ry:RelV y u) :
  KV (ax.map λkv=>if kv.1=k then(kv.1,y)else kv) (vs.map λkv=>if kv.1=k then(kv.1,u)else kv):=by
 unfold KV at r⊢
 induction r with
 | nil=>show .nil
 | @cons p q ps qs h t ih =>
   rw[xY,xY]
   show .cons ?_ ih
   let⟨h1,h2⟩:=h
   by_cases e:p.1=k
   · rw[qZ e,qZ (h1.symm.trans e)];show⟨h1,ry⟩
   · rw[qX e,qX (λz=>e (h1.trans z))];show⟨h1,h2⟩
def KV.put{ax:List (κ×V)}{vs:List (κ×Value)}(r:KV ax vs)(k:κ)(ry:RelV y u):KV (fg ax k y) (stored vs k u):=by
 unfold fg stored;rw[r.any k]
 by_cases e:(vs.any λkv=>decide (kv.1=k))=true
 .rw[qZ e,qZ e];show r.repl k ry
 .rw[qX e,qX e];show Paired.snoc r ⟨O,ry⟩
def KV.length{ax:List (κ×V)}{vs:List (κ×Value)}(r:KV ax vs):ax⁻¹=vs⁻¹:=qS r
end
def wq(r:RelV (kV k) u):(fD P w).is k u=true:=by
 cases k with
 | inl i=>let⟨t,e⟩:=(show∃t,u=Value.int i t from r);subst e;show Uy P w i t
 | inr x=>let⟨t,e⟩:=(show∃t,u=Value.str x t from r);subst e;show JQ P w x t
theorem Nf:∀{ks:List aW} {us:TU},Vals (ks.map kV) us->ItemsAre (fD P w) ks us
 | [],_,r=>by rw[List.map_nil]at r;cases r;show .nil
 | k :: ks, _, r => by
   rw[xY]at r
   cases r with
   | cons h t=>show .cons (wq h) (Nf t)
abbrev KT(H:Hp):List (List aW×V)->List (List aW×Addr×Value)->Prop:=Paired λp q=>p.1=q.1/\H q.2.1=!.tup (p.1.map kV)/\RelV p.2 q.2.2
def KT.val{ax:List (List aW×V)}{xs:List (List aW×Addr×Value)}(r:KT H ax xs)(k:List aW):RelO (cw ax k) ((atKey xs k).map (·.2)):=by
 induction r with
 | nil=>show True.intro
 | @cons p q ps qs h t ih =>
   let⟨h1,_,h2⟩:=h
   by_cases e:p.1=k
   · let e':q.1=k:=h1.symm.trans e
     let b:atKey (q::qs) k=!q.2:=by simp[atKey,List.find?_cons,e']
     rw[g8 e,b];show h2
   · let e':¬q.1=k:=λz=>e (h1.trans z)
     let b:atKey (q::qs) k=atKey qs k:=by simp[atKey,List.find?_cons,e']
     rw[hG e,b];show ih
def KT.repl{ax:List (List aW×V)}{xs:List (List aW×Addr×Value)}(r:KT H ax xs)(k:List aW)(ry:RelV y u) :
  KT H (ax.map λkv=>if kv.1=k then(kv.1,y)else kv) (xs.map (putAt k u)):=by
 induction r with
 | nil=>show .nil
 | @cons p q ps qs h t ih =>
   rw[xY,xY]
   show .cons ?_ ih
   let⟨h1,h2,h3⟩:=h
   unfold putAt
   by_cases e:p.1=k
   · rw[qZ e,qZ (h1.symm.trans e)];show⟨h1,h2,ry⟩
   · rw[qX e,qX (λz=>e (h1.trans z))];show⟨h1,h2,h3⟩
def KT.put{ax:List (List aW×V)}{xs:List (List aW×Addr×Value)}(r:KT H ax xs)(k:List aW)(hb:H b=!.tup (k.map kV))(ry:RelV y u) :
  KT H (fg ax k y) (storedH xs k b u):=by
 let e:(ax.any λkv=>decide (kv.1=k))=(atKey xs k).isSome:=by
  rw[wo,(r.val k).isSome_eq,Option.isSome_map]
 unfold fg storedH;rw[e]
 by_cases q:(atKey xs k).isSome=true
 .rw[qZ q,qZ q];show r.repl k ry
 .rw[qX q,qX q];show Paired.snoc r ⟨O,hb,ry⟩
def KT.keeps{ax:List (List aW×V)}{xs:List (List aW×Addr×Value)}(r:KT H ax xs)(ht:∀b ys,H b=!.tup ys->H' b=!.tup ys):KT H' ax xs :=
 Paired.mapP r λ_ _ z=>⟨z.1,ht _ _ z.2.1,z.2.2⟩
section
variable{P:Program}{w:World}{H:Hp}{h:Heap}{a:Addr}
def Ng(ok:HOk P w H h)(e:Rd H a u):ObjOk P w H h a u:=e.ok ok
def Fa{ax:List (aW×V)}(ok:HOk P w H h)(e:Rd H a (.dK ax)):ax⁻¹<=sizeLine/\(a == sysModules)=false/\∃vs,KV ax vs/\h.DictOf (fD P w) a vs :=
 show ObjOk P w H h a (.dK ax)from Ng ok e
def YC{ax:List (aW×V)}(ok:HOk P w H h)(e:H a=!.dK ax):ax⁻¹<=sizeLine/\(a == sysModules)=false/\∃vs,KV ax vs/\h.DictOf (fD P w) a vs:=Fa ok (.inl e)
def Fb(ok:HOk P w H h)(e:H a=!.tup (ks.map kV)):(tupleKind (fD P w)).is h ks a:=by
 let⟨_,ah,r,o,h1,h2,n,h3⟩:=(show ObjOk P w H h a (.tup (ks.map kV))from ok a _ e);show⟨o,ah.toArray,n,h1,h2,h3,‹Nf r›⟩
def Nh{ax:List (List aW×V)}(ok:HOk P w H h)(e:Rd H a (.dT ax)):ax⁻¹<=sizeLine/\(a == sysModules)=false /\
  ∃xs,KT H ax xs/\h.DictOfH (tupleKind (fD P w)) a xs:=by
 obtain⟨z,y,xs,r,o,es,ep,h1,h2,h3,h4,h5⟩:=(show ObjOk P w H h a (.dT ax)from Ng ok e);show⟨z,y,xs,r,o,es,ep,h1,h2,h3,h4,λx hx=>?_,h5⟩;let all:∀{l:List (List aW×V)} {m:List (List aW×Addr×Value)},KT H l m->∀x∈m,(tupleKind (fD P w)).is h x.1 x.2.1:=by
  intro l m q
  induction q with
  | nil=>intro x hx;show nomatch hx
  | @cons p q ps qs hq t ih =>
    intro x hx
    rcases qN.mp hx with e | hx
    · subst e
      show Fb ok (by rw[<-hq.1];show hq.2.1)
    · show ih x hx
 show all r x hx
def YD{ax:List (List aW×V)}(ok:HOk P w H h)(e:H a=!.dT ax):ax⁻¹<=sizeLine/\(a == sysModules)=false /\
  ∃xs,KT H ax xs/\h.DictOfH (tupleKind (fD P w)) a xs:=Nh ok (.inl e)
end
def DGet(H:Hp)(a:Addr)(y:V)(r:Option V):Prop :=
 (∃ax k,Rd H a (.dK ax)/\y=kV k/\r=cw ax k)\/∃ax k b,Rd H a (.dT ax)/\y=.ref b/\H b=!.tup (k.map kV)/\r=cw ax k
def DPut(H:Hp)(a:Addr)(y v:V)(H':Hp):Prop :=
 (∃ax k,H a=!.dK ax/\y=kV k/\ax⁻¹<sizeLine/\H'=af H a (.dK (fg ax k v))) \/
 ∃ax k b,H a=!.dT ax/\y=.ref b/\H b=!.tup (k.map kV)/\ax⁻¹<sizeLine/\H'=af H a (.dT (fg ax k v))
def DGet.t{H:Hp}{ax:List (List aW×V)}{k:List aW}(e:H a=!.dT ax)(eb:H b=!.tup (k.map kV)):DGet H a (.ref b) (cw ax k):=.inr ⟨ax,k,b,.inl e,O,eb,O⟩
def DPut.t{H:Hp}{ax:List (List aW×V)}{k:List aW}{v:V}(e:H a=!.dT ax)(eb:H b=!.tup (k.map kV))(hl:ax⁻¹<sizeLine) :
  DPut H a (.ref b) v (af H a (.dT (fg ax k v))):=.inr ⟨ax,k,b,e,O,eb,hl,O⟩
section
variable{X:Cx}{aa:TF}{σ:St}{H:Hp}{s:Shared}{a:Addr}{y v:V}{u r:Value}{o:Option V}{A:Around}{E:TH}
def Inv.big(I:Inv X aa σ H s):sysModules< ~~~s:=by
 let h:mainGlobals< ~~~s:=(I.mod.glob.keeps I.bk).lt;show uK {} h
def YE{Q:TH}(hu:A.units+1<cLine)(I:Inv X aa σ H s)(g:DGet H a y o)(ry:RelV y u)(h:∀s',Inv X aa σ H s'->Q (.bool o.isSome) s') :
  wpAny (model X.prog X.w) A (compareOp .In u (.ref a)) Q E s:=by
 rcases g with⟨ax,k,e,ey,l⟩ | ⟨ax,k,b,e,ey,eb,l⟩
 .subst ey;let⟨z,hd,vs,fX,dd⟩:=Fa I.hok e;show wpAny_in_of (wq ry) hd dd.mapOf ?_;rw[<-(fX.val k).isSome_eq,<-l];show h _ (I.tok _)
 .subst ey;cases(show u=Value.ref b from ry);let⟨z,hd,xs,fX,dd⟩:=Nh I.hok e;show wpAny_in_heap (tupleKind_room_in1 hu) (Fb I.hok eb) hd dd ?_;let q:=(fX.val k).isSome_eq;rw[Option.isSome_map]at q;rw[<-q,<-l];show h _ (I.tok _)
def Ni{t':Nat}(I:Inv X aa σ H s)(mu:tq (H a))(hs:Heap.SameBut a s.heap h')(he:∃q,h'.get? a=!q)(new:ObjOk X.prog X.w (af H a ob) h' a ob) :
  Inv X aa σ (af H a ob) {s with heap:=h',toks:=t'} :=
 I.write (x:=a) (e:=a) mu (.inl O) (λb q hb z=>(hs.2 b hb).trans z) he new
def Nj{ax:List (aW×V)}{vs:List (aW×Value)}(z:ax⁻¹<=sizeLine)(hd:(a == sysModules)=false)(fX:KV ax vs)(dd:h'.DictOf (fD P w) a vs) :
  ObjOk P w H' h' a (.dK ax):=⟨z,hd,vs,fX,dd⟩
def YF{Q:Unit->Shared->Prop}(hu:A.units+1<cLine)(I:Inv X aa σ H s)(g:DPut H a y v H')(ry:RelV y u)(rv:RelV v r)(h:∀s',Inv X aa σ H' s'->Q Unit.unit s') :
  wpAny (model X.prog X.w) A (setItem (.ref a) u r) Q E s:=by
 rcases g with⟨ax,k,e,ey,l,eH⟩ | ⟨ax,k,b,e,ey,eb,l,eH⟩
 .subst ey eH;let⟨z,hd,vs,fX,dd⟩:=YC I.hok e;let hz:vs⁻¹<=sizeLine:=by rw[<-fX⁻¹];show z
  let hl:(fg ax k v)⁻¹<=sizeLine:=by have:=E9 ax k v;omega
  show wpAny_setItem_pairs (hsz:=hz) (wq ry) dd λh' BJ hs=>h _ ?_
  let he:∃q,h'.get? a=!q:=let⟨q,_,_,hq,_⟩:=BJ;⟨q,hq⟩;show Ni I (by rw[e];show True.intro) hs he (Nj hl hd (fX.put k rv) BJ)
 .subst ey eH;cases(show u=Value.ref b from ry);let⟨z,hd,xs,fX,dd⟩:=YD I.hok e;let hz:xs⁻¹<=sizeLine:=by rw[<-qS fX];show z
  let hl:(fg ax k v)⁻¹<=sizeLine:=by have:=E9 ax k v;omega
  show wpAny_setItem_heap (hsz:=hz) (tupleKind_room_in1 hu) (Fb I.hok eb) dd λh' BJ hs=>h _ ?_
  let⟨q,es,ep,hq,h2,h3,h4,_,h5⟩:=BJ;show Ni I (by rw[e];show True.intro) hs ⟨q,hq⟩ ⟨hl,hd,_,(fX.put k eb rv).keeps λc ys ec=>?_,q,es,ep,hq,h2,h3,h4,h5⟩;rw[aF (JR ec e (λz=>nomatch z))];show ec
end
def YG(ty td:TE):TE:=λσ H Q=>ty σ H λy H1=>td σ H1 λx H2=>∃a o,x=.ref a/\DGet H2 a y o/\Q (.bl o.isSome) H2
def YH(td ty tv:TE):TS:=λD σ H=>tv σ H λv H1=>td σ H1 λx H2=>ty σ H2 λy H3=>∃a H4,x=.ref a/\DPut H3 a y v H4/\D.nx σ H4
section
variable{X:Cx}{o i e value:Expr}{pos eL Va:Pos}{td ty tv:TE}
def YI(hu:X.A.units+1<cLine)(hi:PE X i ty)(ho:PE X o td):PC X .In i o (YG ty td):=by
 intro aa s σ H Q I h;show aT (hi aa s σ H _ I h) λiv s1 ⟨y,H1,I1,ry,q1⟩=>aT (ho aa s1 σ H1 _ I1 q1) λu s2 ⟨x,H2,I2,rx,a,ov,ex,g,q2⟩=>?_
 subst ex;obtain rfl:u=Value.ref a:=rx;show YE hu I2 g ry λs3 I3=>⟨.bl ov.isSome,H2,I3,O,q2⟩
def YJ(hu:X.A.units+1<cLine)(ho:PE X o td)(hi:PE X i ty)(hv:PE X value tv)(hs:swapsWith value (!.Subscript o i eL) pos.line X.env=pure false) :
  PS X (.Assign [.Subscript o i eL] value pos) (YH td ty tv):=by
 intro aa s σ H D I h;show wpAny_Assign_Subscript (aT (hv aa s σ H _ I h) λr s1 ⟨v,H1,I1,rv,q1⟩=>aT (ho aa s1 σ H1 _ I1 q1) λu s2 ⟨x,H2,I2,rx,q2⟩=>aT (hi aa s2 σ H2 _ I2 q2) λiv s3 ⟨y,H3,I3,ry,a,H4,ex,g,q3⟩=>?_) hs;subst ex;obtain rfl:u=Value.ref a:=rx;show YF hu I3 g ry rv λs4 I4=>⟨σ,H4,I4,q3⟩
end
def YK(h:Heap)(hb:sysModules<h.objs.size):ObjOk P w H (h.push {cls:=.type "dict",data:=.dict #[]}) h.objs.size (.dT []) :=
 ⟨rL _,beq_eq_false_iff_ne.mpr (rV (rC hb)),[],.nil,_,#[],0,qR _ O,⟨O,O,O⟩,O,O,vV⟩
def YL:TE:=λ_ H Q=>∀p,H p=none->Q (.ref p) (af H p (.dT []))
section
variable{X:Cx}{pos:Pos}
def YM:PE X (.Dict [] [] pos) YL:=λaa s σ H Q I h =>
 wpAny_Dict_empty ⟨.ref (~~~s),_,I.laid (a:= ~~~s) (o:=.dT []) (t':=s.toks) (λ_ _ q=>qE _ q) (qG _) (YK s.heap I.big),O,h _ (I.hok.fresh (qG _))⟩
end
end L2
namespace Gd
open L2 Gen
structure Pl where
 r:Nat
 c:Nat
 s:Nat
 d:Nat
def Pl.vs(p:Pl):List V:=[.int p.r,.int p.c,.int p.s,.int p.d]
def wu(p q:Pl):Bool:=decide (q.r<p.r+p.d/\p.r<q.r+q.d/\q.c<p.c+p.s/\p.c<q.c+q.s)
def free(ps:List Pl)(q:Pl):Bool:=ps.all λp=>(Bool.not (wu p q))
def iM(p:Pl)(x:Nat×Nat):Bool:=decide (p.r<=x.1/\x.1<p.r+p.d/\p.c<=x.2/\x.2<p.c+p.s)
def mE(p:Pl)(i:Nat):List (Nat×Nat):=(List.range p.s).map λj=>(p.r+i,p.c+j)
def jV(p:Pl)(n:Nat):List (Nat×Nat):=((List.range n).map (mE p)).flatten
def fY(p:Pl):List (Nat×Nat):=jV p p.d
def Nk(p:Pl)(n:Nat):jV p (n+1)=jV p n++mE p n:=by simp[jV,List.range_succ]
def Fd(p:Pl)(i:Nat):(mE p i)⁻¹=p.s:=by simp[mE]
theorem Nl(p:Pl):∀n,(jV p n)⁻¹=n*p.s
 | 0=>by simp[jV]
 | n+1=>by rw[Nk,qI,Nl p n,Fd,Nat.succ_mul]
def Fe{n:Nat}(hn:n<=4)(hs:p.s<=6):(jV p n)⁻¹<=24:=by
 rw[Nl];have:=Nat.mul_le_mul hn hs;omega
def Ff{x:Nat×Nat}:x∈fY p↔iM p x=true:=by
 constructor
 .intro h;unfold fY jV at h;let⟨l,hl,hx⟩:=List.mem_flatten.mp h;let⟨i,hi,rfl⟩:=qO.mp hl;let⟨j,hj,rfl⟩:=qO.mp hx;let h1:=xC.mp hi;let h2:=xC.mp hj;show qQ ⟨by show p.r<=p.r+i;omega,by show p.r+i<p.r+p.d;omega,by show p.c<=p.c+j;omega,by show p.c+j<p.c+p.s;omega⟩
 .intro h;let⟨h1,h2,h3,h4⟩:=rH h;show List.mem_flatten.mpr ⟨mE p (x.1-p.r),qO.mpr ⟨_,xC.mpr (),O⟩,qO.mpr ⟨x.2-p.c,xC.mpr (),?_⟩⟩;let⟨a,b⟩:=x;simp only at h1 h2 h3 h4⊢;rw[Prod.mk.injEq];omega
def YN:(∀p∈ps,1<=p.s/\1<=p.d)->1<=q.s->1<=q.d->((fY q).any λx=>ps.any λp=>iM p x)=(Bool.not (free ps q)):=by
 intro hp hs hd;rw[uA];constructor
 .intro h;let⟨x,hx,h⟩:=vG.mp h;let⟨p,fV,hc⟩:=vG.mp h;let⟨a1,a2,a3,a4⟩:=rH (Ff.mp hx);let⟨b1,b2,b3,b4⟩:=rH hc;let m:wu p q=true:=qQ ⟨(),(),(),()⟩;cases e:free ps q with
  | false=>rfl
  | true =>
    have:=uW.mp e p fV
    rw[m]at this
    cases this
 .intro h;let h':free ps q=false:=‹h›
  let nz:¬∀p∈ps,((Bool.not (wu p q)))=true:=λz=>by
   rw[show free ps q=true from uW.mpr z]at h';cases h'
  let⟨p,hz⟩:=Classical.not_forall.mp nz;let⟨fV,hm⟩:=Classical.not_imp.mp hz;let oI:wu p q=true:=‹hm›
  let⟨m1,m2,m3,m4⟩:=rH oI;let⟨s1,d1⟩:=hp p fV;show vG.mpr ⟨(max p.r q.r,max p.c q.c),Ff.mpr (qQ ?_),vG.mpr ⟨p,fV,qQ ?_⟩⟩
  .show q.r<=max p.r q.r/\max p.r q.r<q.r+q.d/\q.c<=max p.c q.c/\max p.c q.c<q.c+q.s;omega
  .show p.r<=max p.r q.r/\max p.r q.r<p.r+p.d/\p.c<=max p.c q.c/\max p.c q.c<p.c+p.s;omega
structure First(ps:List Pl)(cols s d:Nat)(q:Pl):Prop where
 es:q.s=s
 ed:q.d=d
 ec:q.c+s<=cols
 fr:free ps q=true
 lc:∀c,c<q.c->free ps ⟨q.r,c,s,d⟩=false
 lr:∀r,r<q.r->∀c,c+s<=cols->free ps ⟨r,c,s,d⟩=false
def First.eta{cols s d:Nat}(a:First ps cols s d q):q=⟨q.r,q.c,s,d⟩:=by
 let h1:=a.es;let h2:=a.ed;subst h1 h2;rfl
def First.uniq{cols s d:Nat}(a:First ps cols s d p)(b:First ps cols s d q):p=q:=by
 let fa:=a.fr;let fb:=b.fr;rw[a.eta]at fa;rw[b.eta]at fb;let hr:p.r=q.r:=by
  rcases Nat.lt_trichotomy p.r q.r with h | h | h
  .rw[b.lr p.r h p.c a.ec]at fa;cases fa
  .show h
  .rw[a.lr q.r h q.c b.ec]at fb;cases fb
 let hc:p.c=q.c:=by
  rcases Nat.lt_trichotomy p.c q.c with h | h | h
  .rw[hr,b.lc p.c h]at fa;cases fa
  .show h
  .rw[<-hr,a.lc q.c h]at fb;cases fb
 rw[a.eta,b.eta,hr,hc]
def PsOk(cols:Nat)(ps:List Pl):=∀p∈ps,1<=p.s/\1<=p.d/\p.d<=4/\p.s<=6/\p.r+p.d<=4*ps⁻¹/\p.c+p.s<=cols
def PsOk.one{cols:Nat}(ok:PsOk cols ps):∀p∈ps,1<=p.s/\1<=p.d:=λp hp=>⟨(ok p hp).1,(ok p hp).2.1⟩
def Nm{cols:Nat}(ok:PsOk cols ps){r c s d:Nat}(h:4*ps⁻¹<=r):free ps ⟨r,c,s,d⟩=true:=by
 show uW.mpr λp hp=>?_
 let h1:=ok p hp;have:wu p ⟨r,c,s,d⟩=false:=rB λz=>by
  let z1:r<p.r+p.d:=z.1;omega
 rw[this];rfl
def First.row{cols s d:Nat}(a:First ps cols s d q)(ok:PsOk cols ps)(hs:s<=cols):q.r<=4*ps⁻¹:=by
 show xW λz=>?_
 let h1:=a.lr _ z 0 ();rw[Nm ok (qG _)]at h1;cases h1
def PsOk.snoc{cols s d:Nat}(ok:PsOk cols ps)(a:First ps cols s d q)(s1:1<=s)(s2:s<=cols)(s3:cols<=6)(d1:1<=d)(d2:d<=4):PsOk cols (ps++[q]):=by
 intro p hp;rw[qI,uQ];rcases rE.mp hp with h | h
 .have:=ok p h;omega
 .let e:p=q:=‹h›
  let h1:=a.row ok s2;let h2:=a.es;let h3:=a.ed;let h4:=a.ec;subst e;omega
def wv(cs:List (Nat×Nat)):=∀c∈cs,1<=c.1/\c.1<=6/\1<=c.2/\c.2<=4
inductive Placed(cols:Nat):List (Nat×Nat)->List Pl->Prop
 | nil:Placed cols [] []
 | snoc {cs:List (Nat×Nat)} {ps:List Pl} {x:Nat×Nat} {q:Pl}:Placed cols cs ps->First ps cols (min x.1 cols) x.2 q->Placed cols (cs++[x]) (ps++[q])
def Placed.uniq{cols:Nat}{cs:List (Nat×Nat)}(a:Placed cols cs ps):∀{qs:List Pl},Placed cols cs qs->ps=qs:=by
 induction a with
 | nil =>
   intro qs b
   generalize e:([]:List (Nat×Nat))=z at b
   cases b with
   | nil=>rfl
   | snoc _ _=>simp at e
 | @snoc cs ps x q a1 a2 ih =>
   intro qs b
   generalize e:cs++[x]=z at b
   cases b with
   | nil=>simp at e
   | @snoc cs' mF x' q' b1 b2 =>
     let⟨e1,e2⟩:=List.append_inj' e O
     let e3:x=x':=‹e2›
     subst e1 e3
     have:=ih b1
     subst this
     rw[a2.uniq b2]
def Placed.len{cols:Nat}{cs:List (Nat×Nat)}(a:Placed cols cs ps):ps⁻¹=cs⁻¹:=by
 induction a with
 | nil=>rfl
 | snoc _ _ ih=>rw[qI,qI,ih];rfl
section
variable{X:Cx}
open PySem Spec PyProof.Rows in
def YO(hc:X.calm=true):dB X (.builtin "any") (λxs H Q=>∃(p:Addr) (bs:List Bool),xs=[.ref p]/\SqL X.K H p (bs.map V.bl)/\Q (.bl (bs.any id)) H):=by
 intro aa s σ H xs us Q I r h;let⟨p,bs,rfl,hp,q⟩:=h;let⟨u,rfl,rx⟩:=vals1 r;cases rx;let⟨ah,rv,pl,hz⟩:=I.list hp;let hh:=I.ok.hd hc;show call_any_walk (xS pl.isList ?_);let lp:p< ~~~s:=by
  let⟨o,e,_⟩:=pl.isList;show qK e
 have YQ:∀(i:Nat) (v:Value),ah.toArray[i]?=!v->v=.bool (bs.getD i false):=λi v e=>by
  let e':ah[i]?=!v:=‹e›
  cases z:bs[i]? with
  | none =>
    let h1:=rv⁻¹
    rw[qA]at h1
    let h2:=(qF.mp e').1
    let h3:=List.getElem?_eq_none_iff.mp z
    omega
  | some b =>
    let⟨u,e2,r2⟩:=rv.get (i:=i) (x:=.bl b) (by rw[qJ,z];rfl)
    rw[e']at e2
    cases e2
    cases r2
    rw[qV,z]
    rfl
 show⟨~~~s,_,_,_,_,_,λi=>bs.getD i false,O,Walks.list ‹hh› (~~~s) p (rC lp) ah.toArray,⟨⟨_,qR _ O,O,O⟩,pl.isList.push _⟩,λi v s' Q' E' e hq=>?_,λh' tk k=>?_⟩
 .rw[YQ i v e];show yI hq
 .let ev:(List.range ah.toArray.size).any (λi=>bs.getD i false)=bs.any id:=by
   let hl:ah.toArray.size=bs⁻¹:=by rw[qY,<-rv⁻¹,qA]
   rw[hl];rw[uA];simp only[List.any_eq_true,List.mem_range,id];constructor
   .ext⟨i,hi,z⟩;rw[qV,qB hi]at z;show⟨_,rJ hi,z⟩
   .ext⟨x,hx,z⟩;let⟨i,hi,e⟩:=x8.mp hx;show⟨i,hi,?_⟩;rw[qV,qB hi,e];show z
  rw[ev];show⟨.bl (bs.any id),H,I.kept λb o e=>k b o ‹rC (qK e)› (qE _ e),O,q⟩
end
def TupAt(H:Hp)(a:Addr)(x:Nat×Nat):=H a=!.tup [.int x.1,.int x.2]
def PlAt(H:Hp)(a:Addr)(p:Pl):=H a=!.tup p.vs
def LstAt{β:Type}(F:Hp->Addr->β->Prop)(H:Hp)(L:Addr)(xs:List β):=∃as:TQ,H L=!.lst ↑as/\Paired (F H) as xs
def Tups(H H':Hp):=∀b xs,H b=!.tup xs->H' b=!.tup xs
def Tups.of(s:Same H H'):Tups H H':=λb _ e=>s b _ e
def Tups.trans(a:Tups H H1)(b:Tups H1 H2):Tups H H2:=λc xs e=>b c xs (a c xs e)
def Tups.lst(h:H L=!.lst ys):Tups H (af H L o):=λb xs e=>by
 rw[aF (λz=>by rw[z,h]at e;cases e)];show e
def Tups.dct{ax:List (List aW×V)}(h:H L=!.dT ax):Tups H (af H L o):=λb xs e=>by
 rw[aF (λz=>by rw[z,h]at e;cases e)];show e
def PlAt.keep(t:Tups H H')(h:PlAt H a x):PlAt H' a x:=t _ _ h
def mG(t:Tups H H'){xs:List (Nat×Nat)}(h:Paired (TupAt H) as xs):Paired (TupAt H') as xs:=h.mono λ_ _ z=>t _ _ z
def Nn(t:Tups H H')(h:Paired (PlAt H) as xs):Paired (PlAt H') as xs:=h.mono λ_ _ z=>t _ _ z
def LstAt.tup(s:Same H H'){xs:List (Nat×Nat)}(h:LstAt TupAt H L xs):LstAt TupAt H' L xs:=by
 let⟨as,e,p⟩:=h;show⟨as,s _ _ e,mG (.of s) p⟩
def Tk(H:Hp)(a:Addr)(ps:List Pl)(n:Nat):=∃ax,H a=!.dT ax/\ax⁻¹<=n/\∀x:Nat×Nat,(cw ax [.inl x.1,.inl x.2]).isSome=ps.any λp=>iM p x
inductive BK:List V->Hp->VK->XK->Prop
|m (t:Addr) (p:Pl):vs=[.ref t]->PlAt H t p->p.d<=4->p.s<=6->p.r<=1000->p.c<=1000->(∀(L:Addr) (H':Hp),H L=none->Same H H'->LstAt TupAt H' L (fY p)->Q (.ref L) H')->BK vs H Q E
inductive Fg:List V->Hp->VK->XK->Prop
|m (tk:Addr) (cols s d n:Nat) (ps:List Pl):vs=[.int cols,.ref tk,.int s,.int d]->Tk H tk ps n->PsOk cols ps->ps⁻¹<=100->1<=s->s<=cols->cols<=6->1<=d->d<=4->(∀(t:Addr) (H':Hp) (q:Pl),First ps cols s d q->PlAt H' t q->Same H H'->Q (.ref t) H')->Fg vs H Q E
inductive ww:List V->Hp->VK->XK->Prop
|m (cl:Addr) (cols:Nat) (cs:List (Nat×Nat)):vs=[.int cols,.ref cl]->LstAt TupAt H cl cs->wv cs->cs⁻¹<=100->1<=cols->cols<=6->(∀(L:Addr) (H':Hp) (ps:List Pl),H L=none->Same H H'->LstAt PlAt H' L ps->Placed cols cs ps->PsOk cols ps->Q (.ref L) H')->ww vs H Q E
structure mH(mg:TJ):Prop where
 isinstance:mg "isinstance" = none
 len:mg "len" = none
 range:mg "range" = none
 int:mg "int" = none
 bool:mg "bool" = none
 list:mg "list" = none
 tuple:mg "tuple" = none
 any:mg "any" = none
 min:mg "min" = none
 max:mg "max" = none
 sum:mg "sum" = none
 zip:mg "zip" = none
structure BL(mg:TJ):Prop where
 row:∃t,mg "ROW" = !.int 0 t
 column:∃t,mg "COLUMN" = !.int 1 t
 span:∃t,mg "SPAN" = !.int 2 t
 deep:∃t,mg "DEEP" = !.int 3 t
def YR:bootBuiltins "any" = !.builtin "any":=by ac_rfl
def mI:bootBuiltins "min" = !.builtin "min":=by ac_rfl
def dP:bootBuiltins "max" = !.builtin "max":=by ac_rfl
def fZ:bootBuiltins "sum" = !.builtin "sum":=by ac_rfl
end Gd
namespace L2
open PyProof.Rows
def YS{P:Program}{w:World}{K:W.Frag}{tg:Expr}(x:Str)(t:Tok)(it:Addr):jJ P w K tg (El x) [it] it (λi h=>h.IsStrIter it "str_ascii_iterator" x t i) where
 mem:=∅
 obj:=λi h st b hb=>by
  let e:b=it:=‹hb›
  subst e;let⟨o,e,c,d⟩:=st;show⟨o,e,λv z=>by rw[d]at z;cases z⟩
 keep:=λi h h' st k=>by
  let⟨o,ho,r⟩:=st;show⟨o,k it ∅ o ho,r⟩
 item:=by
  intro X hP hw hK hc i aa s σ H E I hf st hg;subst hP hw hK;let Fh:i<x.cps.size:=hg;let⟨f0,f1,f2,f3,f4,f5⟩:=hf it ∅;let hx:x.cps[i]?=!x.cps[i]:=by simp[Fh]
  show wpAny_pyNext_ascii_item st hx λh' aO sb=>?_
  let I1:Inv X aa σ H {s with heap:=h',toks:=s.toks+1}:=I.turned (t':=s.toks+1) (λb o hb e=>(sb.2 b hb).trans e) f0 f1 f3 f4 f5;let⟨o,e,c,d⟩:=id aO;show-⟨AT (s:={s with heap:=h',toks:=s.toks+1}) e c d {} ⟨.str ⟨#[x.cps[i]]⟩,H,I1,⟨_,O⟩,⟨O,_,hx,O⟩,aO,λb hb=>(hf b hb).1⟩⟩
 done:=by
  intro X hP hw hK hc i aa s σ H E I hf st hg;subst hP hw hK;let Fh:x.cps.size<=i:=hg;let⟨f0,f1,f2,f3,f4,f5⟩:=hf it ∅;show wpAny_pyNext_ascii_end (I.ok.hd hc) st (by simp[Fh]) λh' eb=>⟨O,I.turned (t':=s.toks) (λb o hb e=>eb b o hb e) f0 f1 f3 f4 f5⟩
 self:=λ_ _ _ _ _ st h=>wpAny_pyIter_striter_ascii st h
inductive No(R:It->Hp->Prop):V->Hp->Prop
|m {x H1} z:x=.str z->z.cps.all (·< 128)=true->R (El z) H1->No R x H1
def YT(tl:TE):TI:=λσ H R=>tl σ H (No R)
section
variable{X:Cx}{tg:Expr}
def Np{l:Expr}{tl:TE}(hl:PE X l tl):PI X tg l (YT tl):=by
 intro aa s σ H R I h;show aT (hl aa s σ H _ I h) λv s1 ⟨x,H1,I1,r1,q1⟩=>?_
 let⟨z,rfl,ha,q⟩:=q1;let⟨t,rfl⟩:=r1;show wpAny_pyIter_ascii ha ?_;show⟨~~~s1,[~~~s1],_,_,H1,O,I1.kept (t':=s1.toks) λb o e=>qE _ e,YS z t _,⟨_,qR _ O,O,O⟩,λb hb=>?_,q⟩;let e:b= ~~~s1:=‹hb›
 subst e;show I1.fpOk (qG _) (I1.hok.fresh (qG _))
end
def Nq{own:Nat}{ix:TM}(Pv:Nat->List V->St->Hp->Prop)(hz:x.cps.size<sizeLine)(h0:Pv 0 [] (iI own ix σ) H)(hs:∀i c ys ae H',x.cps[i]?=!c->Pv i ys ae H'->g (.str ⟨#[c]⟩) ae H' λaY H3=>tt aY H3 λb H4=>if b=true then te aY H4 λv H5=>Pv (i+1) (ys++[v]) aY H5 else Pv (i+1) ys aY H4)(hd:∀ys ae H',Pv x.cps.size ys ae H'->∀D,H' D=none->Q (.ref D) (af H' D (.lst ys))):pW own ix g tt te (El x) σ H Q:=by
 show⟨λi m ys σ H=>m=x.cps.size-i/\i<=x.cps.size/\Pv i ys σ H,⟨x.cps.size,∅,rL _,h0⟩,?_⟩;ext i m ys σ H ⟨rfl,hi,p⟩ hy;show⟨(),?_⟩
 by_cases aX:i<x.cps.size
 .show .inr ⟨aX,Pv (i+1),λzs ae H' p'=>⟨x.cps.size-(i+1),(),O,aX,p'⟩,λv H' y=>?_⟩;let⟨e,c,hc,e2⟩:=y;subst e e2;show hs i c ys σ _ hc p
 .let e:i=x.cps.size:=()
  subst e;show .inl ⟨qG _,hd ys σ H p⟩
def Fi{K:W.Frag}{a:Addr}{xs:List V}{g:TG}{tb:TS}{D:gN}{σ:St}{H:Hp}(Pv:Nat->St->Hp->Prop)(h0:Pv 0 σ H)(hl:∀i σ H,i<=xs⁻¹->Pv i σ H->SqL K H a xs)(hs:∀i x σ H T,xs[i]?=!x->H T=none->Pv i σ H->g (.ref T) σ (af H T (.tup [.int (i:Nat),x])) λaY H2=>tb {D with nx:=Pv (i+1),ct:=Pv (i+1),bk:=D.nx} aY H2)(hd:∀σ H,Pv xs⁻¹ σ H->D.nx σ H) :
  ∃W:Nat->Nat->St->Hp->Prop,(∃m,W 0 m σ H)/\∀i m σ H,W i m σ H ->
   ((p8 K a).stop i H/\D.nx σ H)\/((p8 K a).go i H/\∃N:St->Hp->Prop,(∀ae H',N ae H'->∃m',m'<m/\W (i+1) m' ae H')/\∀x H',(p8 K a).yld i H x H'->g x σ H' λaY H2=>tb {D with nx:=N,ct:=N,bk:=D.nx} aY H2):=by
 show⟨λi m σ H=>m=xs⁻¹-i/\i<=xs⁻¹/\Pv i σ H,⟨xs⁻¹,∅,rL _,h0⟩,?_⟩;ext i m σ H ⟨rfl,hi,p⟩;let q:=hl i σ H hi p
 by_cases aX:i<xs⁻¹
 .show .inr ⟨⟨xs,xs[i],q,by simp[aX]⟩,Pv (i+1),λae H' p'=>⟨xs⁻¹-(i+1),(),O,aX,p'⟩,λx H' y=>?_⟩;let⟨T,z,hT,e1,e2,y⟩:=y;subst e1 e2;show hs i z σ _ T (y xs q) hT p
 .let e:i=xs⁻¹:=()
  subst e;show .inl ⟨⟨xs,q,qG _⟩,hd σ H p⟩
section
variable{X:Cx}
def YU:dB X (.type "range") (λxs H Q=>∃n:Nat,xs=[.int n]/\n<=1000000/\∀r,H r=none->Q (.ref r) (af H r (.rng 0 n))):=by
 intro aa s σ H xs us Q I r h;let⟨n,rfl,hn,q⟩:=h;let⟨u,rfl,t,rfl⟩:=vals1 r;show call_range_1 ⟨.ref (~~~s),af H (~~~s) (.rng 0 n),I.laid (λb o e=>qE _ e) (qG _) ?_,O,q _ (I.hok.fresh (qG _))⟩;show⟨_,_,_,qR _ O⟩
def qj(K:W.Frag)(a b:Addr):It :=
 ⟨λi H=>∃xs ys x y,SqL K H a xs/\SqL K H b ys/\xs[i]?=!x/\ys[i]?=!y,
  λi H v H'=>∃T x y,H T=none/\v=.ref T/\H'=af H T (.tup [x,y])/\∀xs ys,SqL K H a xs->SqL K H b ys->xs[i]?=!x/\ys[i]?=!y,
  λi H=>∃xs ys,SqL K H a xs/\SqL K H b ys/\(xs⁻¹<=i\/ys⁻¹<=i)⟩
structure YV(h:Heap)(z TI TO i1 i2 l1 l2:Addr)(i:Nat):Prop where
 hz:IsZip h z TI TO .none
 ti:IsPair h TI (.ref i1) (.ref i2)
 to:∃a b,IsPair h TO a b
 it1:h.IsListIter i1 l1 i
 it2:h.IsListIter i2 l2 i
def dF{h:Heap}{l b:Addr}{xs:Array Value}{o:Obj}(hl:h.IsList l xs)(hb:h.get? b=!o)(hc:o.cls≠.type "list"):l≠b:=by
 ext rfl;let⟨o',e,c,_⟩:=hl;rw[hb]at e;cases e;show hc c
def YW{P:Program}{w:World}{K:W.Frag}{jd:TW}{k1:Nat}{tp:Pos}(l1 l2 z TI TO i1 i2:Addr)(d1:TI≠z)(d2:TO≠z)(d3:i1≠z)(d4:i2≠z)(d5:TI≠TO)(d6:TI≠i1)(d7:TI≠i2)(d8:TO≠i1)(d9:TO≠i2)(Fj:i1≠i2) :
  jJ P w K (.Tuple jd k1 tp) (qj K l1 l2) [z,TI,TO,i1,i2] z (λi h=>YV h z TI TO i1 i2 l1 l2 i) where
 mem:=∅
 obj:=λi h st b hb=>by
  let c1:=st.hz;let c2:=st.ti;let⟨a,b',c3⟩:=st.to;let⟨o4,e4,_,g4⟩:=st.it1;let⟨o5,e5,_,g5⟩:=st.it2;rcases qN.mp hb with rfl | hb
  .show⟨_,c1,λv z=>by cases z⟩
  rcases qN.mp hb with rfl | hb
  .show⟨_,c2,λv z=>by cases z⟩
  rcases qN.mp hb with rfl | hb
  .show⟨_,c3,λv z=>by cases z⟩
  rcases qN.mp hb with rfl | hb
  .show⟨_,e4,λv z=>by rw[g4]at z;cases z⟩
  .have:b=i2:=‹hb›
   subst this;show⟨_,e5,λv z=>by rw[g5]at z;cases z⟩
 keep:=λi h h' st k=>by
  let⟨a,b',c3⟩:=st.to;show⟨k z ∅ _ st.hz,k TI ∅ _ st.ti,⟨a,b',k TO ∅ _ c3⟩,st.it1.at λo e=>k i1 ∅ o e,st.it2.at λo e=>k i2 ∅ o e⟩
 item:=by
  intro X hP hw hK hc i aa s σ H E I hf st hg;subst hP hw hK;let⟨xs,ys,x,y,qk,ql,hx,hy⟩:=hg;let⟨wz,kZ,p1,Nr⟩:=I.list qk;let⟨fG,jh,p2,mJ⟩:=I.list ql;let⟨u1,oJ,Fk⟩:=kZ.get hx;let⟨u2,Fm,Fn⟩:=jh.get hy;let⟨ta,tb,to⟩:=st.to;let⟨o4,e4,c4,g4⟩:=id st.it1;let⟨o5,e5,c5,g5⟩:=id st.it2;let nz:Value.type "zip" ≠ Value.type "list":={}
  let nt:Value.type "tuple" ≠ Value.type "list":={}
  let n4:o4.cls≠.type "list":=by rw[c4];decide
  let n5:o5.cls≠.type "list":=by rw[c5];decide
  let D:ZipApart z TI TO i1 i2 l1 l2:=⟨d1,d2,d3,d4,d5,d6,d7,d8,d9,Fj,dF p1.isList st.hz nz,dF p1.isList to nt,dF p1.isList e4 n4,dF p1.isList e5 n5,dF p2.isList st.hz nz,dF p2.isList to nt,dF p2.isList e4 n4,dF p2.isList e5 n5⟩;show wpAny_pyNext_zip_item D st.hz st.ti to st.it1 st.it2 p1.isList p2.isList (x:=u1) (y:=u2) ‹oJ› ‹Fm› λh' oK Fo Fp Fq hT hsz hk=>?_
  show-⟨wpAny_letOwnedTupleGo_zip oK λh2 mJ sb=>?_⟩;let oM:z< ~~~s:=qK st.hz;let YX:TO< ~~~s:=qK to;let Eb:i1< ~~~s:=qK e4;let blt:i2< ~~~s:=qK e5;let Ek:TI< ~~~s:=qK st.ti;let k2:∀b o,b∉[z,TI,TO,i1,i2]->s.heap.get? b=!o->h2.get? b=!o:=λb o hb e=>(sb.2 b (λq=>hb (by simp[q]))).trans (hk b o (λq=>hb (by simp[q])) (λq=>hb (by simp[q])) (λq=>hb (by simp[q])) (λq=>hb (by simp[q])) e)
  let gT:h2.get? (~~~s)=!{cls:=.type "tuple",data:=.seq #[u1,u2]}:=(sb.2 _ (yG oM)).trans hT;let I1:Inv X aa σ H {s with heap:=h2,toks:=s.toks}:=I.moved hf k2;let hn:H (~~~s)=none:=I.hok.fresh (qG _);show⟨.ref (~~~s),af H (~~~s) (.tup [x,y]),I1.track ?_ hn (yG I.lt) (λy c ec z=>?_) (λq hq z=>?_) ?_,O,⟨~~~s,x,y,hn,O,O,λYY YZ h1 h2=>by rw[I.list_inj h1 qk,I.list_inj h2 ql];show⟨hx,hy⟩⟩,?_,λb hb=>?_⟩
  .cases z:X.s₀.heap.get? (~~~s) with
   | none=>rfl
   | some u=>show qT (rA (qK z) I.sz) (rP _)
  .let⟨v,q⟩:=I.cell y c ec;show qT q.lt (by rw[z];show rP _)
  .show qT (qK (I.pin q hq).1) (by rw[z];show rP _)
  .show⟨by show 2<=sizeLine;decide,[u1,u2],.cons Fk (.cons Fn .nil),_,gT,O,_,O⟩
  .let Fs:h'.get? TI=!_:=hk TI _ d1 d5 d6 d7 st.ti;show⟨mJ,(sb.2 _ d1).trans Fs,⟨_,_,(sb.2 _ d2).trans Fo⟩,Fp.at λo e=>(sb.2 _ d3).trans e,Fq.at λo e=>(sb.2 _ d4).trans e⟩
  .have blt':b< ~~~s:=by
    rcases qN.mp hb with rfl | hb
    .show oM
    rcases qN.mp hb with rfl | hb
    .show Ek
    rcases qN.mp hb with rfl | hb
    .show YX
    rcases qN.mp hb with rfl | hb
    .show Eb
    .have:b=i2:=‹hb›
     rw[this];show blt
   rw[aF (rC blt')];show(hf b hb).1
 done:=by
  intro X hP hw hK hc i aa s σ H E I hf st hg;subst hP hw hK;let⟨xs,ys,qk,ql,hx⟩:=hg;let⟨wz,kZ,p1,Nr⟩:=I.list qk;let⟨fG,jh,p2,mJ⟩:=I.list ql;let qm:=kZ⁻¹;let fH:=jh⁻¹;let⟨ta,tb,to⟩:=st.to;let⟨o4,e4,c4,g4⟩:=id st.it1;let⟨o5,e5,c5,g5⟩:=id st.it2;let nz:Value.type "zip" ≠ Value.type "list":={}
  let nt:Value.type "tuple" ≠ Value.type "list":={}
  let n4:o4.cls≠.type "list":=by rw[c4];decide
  let n5:o5.cls≠.type "list":=by rw[c5];decide
  let D:ZipApart z TI TO i1 i2 l1 l2:=⟨d1,d2,d3,d4,d5,d6,d7,d8,d9,Fj,dF p1.isList st.hz nz,dF p1.isList to nt,dF p1.isList e4 n4,dF p1.isList e5 n5,dF p2.isList st.hz nz,dF p2.isList to nt,dF p2.isList e4 n4,dF p2.isList e5 n5⟩;show wpAny_pyNext_zip_end (I.ok.hd hc) D st.hz st.ti to st.it1 st.it2 p1.isList p2.isList ?_ λh' eb=>⟨O,I.moved (t':=s.toks) hf λb o hb e=>eb b o (λq=>hb (by simp[q])) (λq=>hb (by simp[q])) (λq=>hb (by simp[q])) (λq=>hb (by simp[q])) e⟩
  rcases hx with hx | hx
  .show .inl (by simp;omega)
  .show .inr (by simp;omega)
 self:=λ_ _ _ _ _ st h=>wpAny_pyIter_zip st.hz h
def Nt:bootBuiltins "zip" = !.type "zip":=by ac_rfl
inductive Nu(K:W.Frag)(R:It->Hp->Prop):List V->Hp->Prop
|m {vs H1} a b:vs=[.ref a,.ref b]->(∃xs,SqL K H1 a xs)->(∃ys,SqL K H1 b ys)->R (qj K a b) H1->Nu K R vs H1
def Y0(K:W.Frag)(ta:TA):TI:=λσ H R=>ta σ H (Nu K R)
def BM{jd:TW}{k1:Nat}(hg:Gl X "zip")(hm:X.mg "zip" = none)(ha:PA X [a,b] ta)(hs:starEach [a,b] X.env=[(false,eval a X.env),(false,eval b X.env)]:=by rfl)(fE:starEach [b] X.env=[(false,eval b X.env)]:=by rfl) :
  PI X (.Tuple jd k1 tp) (.Call (.Name "zip" p) [a,b] [] pos) (Y0 X.K ta):=by
 intro aa s σ H R I h;show Call_ (i5 I hg hm Nt (xT (aT (ha pos aa s σ H _ I h) λus s1 ⟨vs,H1,I1,r1,q1⟩=>?_) (by rw[hs,fE]) (by rw[fE];rfl)));let⟨l1,l2,e,⟨xs,qk⟩,⟨ys,ql⟩,q⟩:=q1;subst e;cases r1 with
 | cons r rr =>
   cases rr with
   | cons r' Ft =>
     cases Ft
     cases r
     cases r'
     let⟨wz,kZ,p1,Nr⟩:=I1.list qk
     let⟨fG,jh,p2,mJ⟩:=I1.list ql
     show call_zip_2 p1.isList p2.isList λh' hz BN BO it1 it2 hsz hk=>?_
     let I2:Inv X aa σ H1 {s1 with heap:=h'}:=I1.kept (t':=s1.toks) hk
     show wpAny_pyIter_zip hz ⟨~~~s1+4,[~~~s1+4,~~~s1+2,~~~s1+3,~~~s1,~~~s1+1],_,_,H1,O,I2,
       YW l1 l2 (~~~s1+4) (~~~s1+2) (~~~s1+3) (~~~s1) (~~~s1+1) (show(~~~s1+2:Nat)≠~~~s1+4 by omega) (show(~~~s1+3:Nat)≠~~~s1+4 by omega) (show(~~~s1  : Nat)≠~~~s1+4 by omega) (show(~~~s1+1:Nat)≠~~~s1+4 by omega) (show(~~~s1+2:Nat)≠~~~s1+3 by omega) (show(~~~s1+2:Nat)≠~~~s1  by omega) (show(~~~s1+2:Nat)≠~~~s1+1 by omega) (show(~~~s1+3:Nat)≠~~~s1  by omega) (show(~~~s1+3:Nat)≠~~~s1+1 by omega) (show(~~~s1  : Nat)≠~~~s1+1 by omega),⟨hz,BN,⟨_,_,BO⟩,it1,it2⟩,λb hb=>?_,q⟩
     have hb': ~~~s1<=b:=by
       rcases qN.mp hb with rfl | hb
       · show yX _ _
       rcases qN.mp hb with rfl | hb
       · show yX _ _
       rcases qN.mp hb with rfl | hb
       · show yX _ _
       rcases qN.mp hb with rfl | hb
       · show qG _
       · have:b= ~~~s1+1:=‹hb›
         rw[this];show yX _ _
     show I1.fpOk hb' (I1.hok.fresh hb')
def Y1{K:W.Frag}{a b:Addr}{xs ys:List V}{g:TG}{tb:TS}{D:gN}{σ:St}{H:Hp}(bK:xs⁻¹=ys⁻¹)(Pv:Nat->St->Hp->Prop)(h0:Pv 0 σ H)(hl:∀i σ H,i<=xs⁻¹->Pv i σ H->SqL K H a xs/\SqL K H b ys)(hs:∀i x y σ H T,xs[i]?=!x->ys[i]?=!y->H T=none->Pv i σ H->g (.ref T) σ (af H T (.tup [x,y])) λaY H2=>tb {D with nx:=Pv (i+1),ct:=Pv (i+1),bk:=D.nx} aY H2)(hd:∀σ H,Pv xs⁻¹ σ H->D.nx σ H) :
  ∃W:Nat->Nat->St->Hp->Prop,(∃m,W 0 m σ H)/\∀i m σ H,W i m σ H ->
   ((qj K a b).stop i H/\D.nx σ H)\/((qj K a b).go i H/\∃N:St->Hp->Prop,(∀ae H',N ae H'->∃m',m'<m/\W (i+1) m' ae H')/\∀x H',(qj K a b).yld i H x H'->g x σ H' λaY H2=>tb {D with nx:=N,ct:=N,bk:=D.nx} aY H2):=by
 show⟨λi m σ H=>m=xs⁻¹-i/\i<=xs⁻¹/\Pv i σ H,⟨xs⁻¹,∅,rL _,h0⟩,?_⟩;ext i m σ H ⟨rfl,hi,p⟩;let⟨q1,q2⟩:=hl i σ H hi p
 by_cases aX:i<xs⁻¹
 .show .inr ⟨⟨xs,ys,xs[i],ys[i],q1,q2,by simp[aX],by simp[<-bK,aX]⟩,Pv (i+1),λae H' p'=>⟨xs⁻¹-(i+1),(),O,aX,p'⟩,λx H' y=>?_⟩;let⟨T,z1,z2,hT,e1,e2,y⟩:=y;subst e1 e2;let⟨y1,y2⟩:=y xs ys q1 q2;show hs i z1 z2 σ _ T y1 y2 hT p
 .let e:i=xs⁻¹:=()
  subst e;show .inl ⟨⟨xs,ys,q1,q2,.inl (qG _)⟩,hd σ H p⟩
theorem BP(ns:TN):∀j,preSum (λi=>ns.getD i 0) j=(ns.take j).sum
 | 0=>by simp[preSum]
 | j + 1 => by
   rw[preSum,BP ns j,qP,List.sum_append,qV]
   cases ns[j]?<;>simp
theorem BQ{B:Int}(hB:0<=B):∀{ns:TN},(∀x∈ns,0<=x/\x<=B)->0<=ns.sum/\ns.sum<=ns⁻¹*B
 | [],_=>∅
 | x :: l, h => by
   let h1:=h x rF
   let h2:=BQ hB (λy hy=>h y (qW _ hy)) (ns:=l)
   rw[List.sum_cons,rN]
   let e:(((l⁻¹+1:Nat)):Int)*B=l⁻¹*B+B:=by rw[Int.natCast_add,Int.add_mul];simp
   rw[e]
   omega
def Y2(K:W.Frag):List V->Hp->VK->Prop:=λxs H Q=>∃(p:Addr) (ns:TN),xs=[.ref p]/\SqL K H p ⇑ns/\ns⁻¹<=1000/\(∀x∈ns,0<=x/\x<=1000000)/\Q (.int ns.sum) H
def Y3(K:W.Frag):List V->Hp->VK->Prop:=λxs H Q=>∃(p:Addr) (ns:TN) (m:Int),xs=[.ref p]/\SqL K H p ⇑ns/\m∈ns/\(∀x∈ns,x<=m)/\Q (.int m) H
def k9{ns:TN}(rv:Vals ⇑ns ah):∀(i:Nat) (v:Value),ah.toArray[i]?=!v->∃t,v=.int (ns.getD i 0) t:=λi v e=>by
 let e':ah[i]?=!v:=‹e›
 cases z:ns[i]? with
 | none =>
   let h1:=rv⁻¹
   rw[qA]at h1
   let h2:=(qF.mp e').1
   let h3:=List.getElem?_eq_none_iff.mp z
   omega
 | some n =>
   let⟨u,e2,r2⟩:=rv.get (i:=i) (x:=.int n) (by rw[qJ,z];rfl)
   rw[e']at e2
   cases e2
   let⟨t,r3⟩:=r2
   rw[qV,z]
   show⟨t,r3⟩
def Y4(hc:X.calm=true):dB X (.builtin "sum") (Y2 X.K):=by
 intro aa s σ H xs us Q I r h;let⟨p,ns,rfl,hp,hl,hb,q⟩:=h;let⟨u,rfl,rx⟩:=vals1 r;cases rx;let⟨ah,rv,pl,hz⟩:=I.list hp;let hh:=I.ok.hd hc;let lp:p< ~~~s:=by
  let⟨o,e,_⟩:=pl.isList;show qK e
 let hn:ah.toArray.size=ns⁻¹:=by rw[qY,<-rv⁻¹,qA]
 let sb:∀j,0<=(ns.take j).sum/\(ns.take j).sum<=1000000000:=λj=>by
  let h1:=BQ (B:=1000000) {} (ns:=ns.take j) λx hx=>hb x (yK hx)
  let h2:(ns.take j)⁻¹<=1000:=rK (by rw[xO];show Nat.min_le_right _ _) hl;let h3:((ns.take j)⁻¹:Int)*1000000<=1000*1000000:=Int.mul_le_mul_of_nonneg_right () {};omega
 let mem:∀j,0<=ns.getD j 0/\ns.getD j 0<=1000000:=λj=>by
  rw[qV];cases e:ns[j]? with
  | none=>show⟨∅,∅⟩
  | some x=>show hb x (qL e)
 show call_sum_walk (xS pl.isList ?_);show⟨~~~s,_,_,_,_,_,λi=>ns.getD i 0,O,Walks.list ‹hh› (~~~s) p (rC lp) ah.toArray,⟨⟨_,qR _ O,O,O⟩,pl.isList.push _⟩,λb hb'=>?_,k9 rv,λj _=>⟨?_,?_⟩,λh' tk t' k=>?_⟩
 .rw[rM];rcases qN.mp hb' with rfl | hb'
  .show rW _
  .rcases qN.mp hb' with rfl | hb'
   .show xQ lp
   .cases hb'
 .have:=mem j;show⟨by show -(2 ^ 63)<=ns.getD j 0;omega,by show ns.getD j 0<2 ^ 63;omega⟩
 .rw[BP];have:=sb (j+1);constructor<;>omega
 .rw[hn,BP,yN];show⟨.int ns.sum,H,I.kept λb o e=>k b o ‹rC (qK e)› (qE _ e),⟨t',O⟩,q⟩
def Fv(K:W.Frag)(hK:X.K=K):DU X (pT K):=by
 subst hK;show nZ
def Nv{ns:TN}{m:Int}{n:Nat}(hn:n=ns⁻¹)(hm:m∈ns)(le:∀x∈ns,x<=m):ns.getD (argBest (λi j=>decide (ns.getD i 0>ns.getD j 0)) (n-1)) 0=m:=by
 let⟨h1,h2⟩:=argBest_gt (λi=>ns.getD i 0) (n-1);let⟨j,hj,e⟩:=x8.mp hm;let h3:=h2 j ();let e1:ns.getD j 0=m:=by rw[qV,qB hj,e];rfl
 let h4:argBest (λi j=>decide (ns.getD i 0>ns.getD j 0)) (n-1)<ns⁻¹:=()
 let h5:=le _ (rJ h4);let e2:ns.getD (argBest (λi j=>decide (ns.getD i 0>ns.getD j 0)) (n-1)) 0=ns[argBest (λi j=>decide (ns.getD i 0>ns.getD j 0)) (n-1)]:=by
  rw[qV,qB h4];rfl
 rw[e2]at h3⊢;rw[e1]at h3;omega
def mK(hc:X.calm=true):dB X (.builtin "max") (Y3 X.K):=by
 intro aa s σ H xs us Q I r h;let⟨p,ns,m,rfl,hp,hm,le,q⟩:=h;let⟨u,rfl,rx⟩:=vals1 r;cases rx;let⟨ah,rv,pl,hz⟩:=I.list hp;let hh:=I.ok.hd hc;let lp:p< ~~~s:=by
  let⟨o,e,_⟩:=pl.isList;show qK e
 let hn:ah.toArray.size=ns⁻¹:=by rw[qY,<-rv⁻¹,qA]
 let h0:0<ah.toArray.size:=by rw[hn];show List.length_pos_of_mem hm
 show call_max_walk (xS pl.isList ?_);show⟨~~~s,_,_,_,_,_,_,O,Walks.list ‹hh› (~~~s) p (rC lp) ah.toArray,⟨⟨_,qR _ O,O,O⟩,pl.isList.push _⟩,λb hb'=>?_,h0,CmpOf.ints_gt (λi=>ns.getD i 0) (k9 rv),λv h' tk hP k=>?_⟩
 .rw[rM];rcases qN.mp hb' with rfl | hb'
  .show rW _
  .rcases qN.mp hb' with rfl | hb'
   .show xQ lp
   .cases hb'
 .let⟨t,rfl⟩:=k9 rv _ _ hP;rw[Nv hn hm le];show⟨.int m,H,I.kept λb o e=>k b o ‹rC (qK e)› (qE _ e),⟨t,O⟩,q⟩
end
abbrev Nw(prog:Program)(w:World)(A:Around)(Q:TH)(E:TH)(r:Result)(s:Shared):Prop :=
 match r with
 | .ok (.ret v)=>Q v s
 | .ok _=>False
 | .error e=>E e s
section
variable{prog:Program}{w:World}{A:Around}{E:TH}{s:Shared}
def Y5{id:String}{kw:List (Str×Value)}{Q:TH}(hk:builtinKind id=none)(hp:plainId id=true)(hb:entryFor table id=!b)(ha:argsOk id ⟨args,kw⟩)(hc:wpAny (model prog w) A.in1 (b ⟨args,kw⟩) (λfin s'=>match fin with
   | .done f=>Nw prog w A Q E (.ok f) s'
   | .again c=>c.quiet=true/\codeAny (model prog w) A c (Nw prog w A Q E) s') E s):wpAny (model prog w) A (call (.builtin id) args kw) Q E s:=by
 show wpAny_call (codeAny_call_builtin hp hb ?_);simp only[checkBuiltinCall,hk];cases sg:Manifest.signature? id with
 | none=>show qM hc
 | some Y6 =>
   let z:Bind.checkArgs id Y6 ⟨args,kw⟩=pure Unit.unit:=by simpa only[argsOk,sg]using ha
   simp only[z]
   show qM hc
variable{I:Addr}{fp wr:TQ}{n:Nat}{P:Nat->Value->Prop}{St:Nat->Heap->Prop}{R:Result->Shared->Prop}{kw:List (Str×Value)}
end
def Fy{K:W.Frag}{a b:Addr}{xs ys:List V}{own:Nat}{ix:TM}{g:TG}{tt:TT}{te:TE}{σ:St}{H:Hp}{Q:VK}(bK:xs⁻¹=ys⁻¹)(Pv:Nat->List V->St->Hp->Prop)(hz:xs⁻¹<sizeLine)(h0:Pv 0 [] (iI own ix σ) H)(hl:∀i zs ae H',i<=xs⁻¹->Pv i zs ae H'->SqL K H' a xs/\SqL K H' b ys)(hs:∀i x y zs ae H' T,xs[i]?=!x->ys[i]?=!y->H' T=none->Pv i zs ae H'->g (.ref T) ae (af H' T (.tup [x,y])) λaY H3=>tt aY H3 λb H4=>if b=true then te aY H4 λv H5=>Pv (i+1) (zs++[v]) aY H5 else Pv (i+1) zs aY H4)(hd:∀zs ae H',Pv xs⁻¹ zs ae H'->∀D,H' D=none->Q (.ref D) (af H' D (.lst zs))):pW own ix g tt te (qj K a b) σ H Q:=by
 show⟨λi m zs σ H=>m=xs⁻¹-i/\i<=xs⁻¹/\Pv i zs σ H,⟨xs⁻¹,∅,rL _,h0⟩,?_⟩;ext i m zs σ H ⟨rfl,hi,p⟩ hy;let⟨q1,q2⟩:=hl i zs σ H hi p;show⟨(),?_⟩
 by_cases aX:i<xs⁻¹
 .show .inr ⟨⟨xs,ys,xs[i],ys[i],q1,q2,by simp[aX],by simp[<-bK,aX]⟩,Pv (i+1),λws ae H' p'=>⟨xs⁻¹-(i+1),(),O,aX,p'⟩,λx H' y=>?_⟩;let⟨T,x1,y1,hT,e1,e2,y⟩:=y;subst e1 e2;let⟨z1,z2⟩:=y xs ys q1 q2;show hs i x1 y1 zs σ _ T z1 z2 hT p
 .let e:i=xs⁻¹:=()
  subst e;show .inl ⟨⟨xs,ys,q1,q2,.inl (qG _)⟩,hd zs σ H p⟩
end L2
namespace Gen
open L2 Bk
structure bO(mg:TJ):Prop extends Bn mg where
 any:mg "any" = none
 min:mg "min" = none
 max:mg "max" = none
 sum:mg "sum" = none
 zip:mg "zip" = none
end Gen
namespace L2
open PyProof.Rows
section
variable{prog:Program}{w:World}{A:Around}{E:TH}{s:Shared}
def Y7{a:Addr}{o:Obj}{ah:Array Value}{n:Nat}{ks:TV}{x:Str}{t:Tok}{j:Nat}{Q:TH}(ho:s.heap.get? a=!o)(hc:o.cls=.type "tuple")(hd:o.data=.seq ah n)(hl:ah.size=ks⁻¹)(hk:∀(i:Nat) (y:Str),ks[i]?=!y->∃u,ah[i]?=!Value.str y u)(hj:ks[j]?=!x)(aX:∀i:Nat,i<j->ks[i]?≠!x)(h:∀t',Q (.int j t') {s with toks:=s.toks+1}):wpAny (model prog w) A (call (.builtin "tuple.index") [.ref a,.str x t]) Q E s:=by
 show uN PySem.F.slot_tuple_index ⟨o,ho,hc⟩ PySem.F.entry_tuple_index ?_ (PySem.F.args_tuple_index_2 _ _);unfold Builtin.«tuple.index»;show qC (wpAny_of_eq (show selfAndSome "tuple.index" "index" 1 3 ⟨[.ref a,.str x t],[]⟩=pure (.ref a,[.str x t])from rfl) ?_);show qC (wpAny_tupleItemsOf ho hd ?_);show qC (qM (qC (qM ?_)));dsimp only;rw[Nat.min_self,Std.Legacy.Range.forIn_eq_forIn_range'];show qC (wpAny_forIn_list _ (λrest b s'=>b.1=none/\s'=s/\∃i,i<=j/\rest=List.range' i (ah.size-i)) _ ?_ ?_ _ _ ⟨O,O,0,rL _,?_⟩)
 .rintro i rest b s' ⟨hb,rfl,i',hi,er⟩;let jl:j<ah.size:=by rw[hl];show(qF.mp hj).1
  obtain⟨k,ek⟩:∃k,ah.size-i'=k+1:=⟨ah.size-i'-1,()⟩;rw[ek,List.range'_succ]at er;let⟨rfl,er⟩:=vX er;let il:i<ks⁻¹:=()
  let⟨u,eu⟩:=hk i ks[i] (qB il);rw[eu];show qC (wpAny_eqBool_str ?_)
  by_cases e:ks[i]=x
  .let ij:i=j:=by
    show vL hi (xW λz=>aX i z ?_);rw[qB il,e]
   subst ij;rw[qQ e];show qC (qC (wpAny_mkInt (qM (qM ?_))));show qM ⟨_,O,h _⟩
  .rw[rB e];let ne:i≠j:=λz=>e (by subst z;rw[qB il]at hj;show rD hj)
   show qM ⟨O,O,i+1,(),?_⟩;rw[er,show ah.size-(i+1)=k by omega]
 .ext b s' ⟨hb,rfl,i',hi,er⟩;let jl:j<ah.size:=by rw[hl];show(qF.mp hj).1
  have:=xJ List.length er;rw[List.length_range']at this;simp at this;omega
 .simp[Std.Legacy.Range.size]
end
inductive Nx(K:W.Frag):V->List V->Hp->VK->Prop
|m (a:Addr) (ks:TV) (y:Str) (j:Nat):x=.ref a->vs=[.str y]->SqT K H a (ks.map V.str)->ks[j]?=!y->(∀i:Nat,i<j->ks[i]?≠!y)->Q (.int j) H->Nx K x vs H Q
section
variable{X:Cx}
def Y8:pR X "tuple.index" (Nx X.K):=by
 intro aa s σ H x xs v us Q I rx rv h;let⟨a,ks,y,j,rfl,rfl,hq,hj,aX,q⟩:=h;cases rx;let⟨u,rfl,ru⟩:=Vals.one rv;let⟨t,rfl⟩:=ru;let⟨ah,Ny,pl,hz⟩:=I.tuple hq;let hl:ah.toArray.size=ks⁻¹:=by rw[qY,<-Ny.length,qA]
 let⟨o,ho,hc,n,hd⟩:=pl;show Y7 (ks:=ks) ho hc hd hl (λi z e=>?_) hj aX λt'=>⟨.int j,H,I.tok _,⟨t',O⟩,q⟩
 let⟨u,e2,r2⟩:=Ny.get (i:=i) (x:=.str z) (by rw[qJ,e];rfl);let⟨t2,rfl⟩:=r2;show⟨t2,‹e2›⟩
end
def qo(hi:Int)(n:Nat):It:=⟨λi _=>i<n,λi H x H'=>H'=H/\x=.int (hi-i),λi _=>n<=i⟩
def Y9{P:Program}{w:World}{K:W.Frag}{tg:Expr}(it:Addr)(hi:Int)(n:Nat):jJ P w K tg (qo hi n) [it] it (λi h=>IsRangeIter h it (hi+(i:Nat)*(-1)) ((n:Int)-(i:Nat)) (-1)) where
 mem:=∅
 obj:=λi h st b hb=>by
  obtain rfl:b=it:=‹hb›
  show⟨_,st,λv z=>?_⟩;let z':Data.fields _=Data.cell v:=z;cases z'
 keep:=λi h h' st k=>k it ∅ _ st
 item:=by
  intro X hP hw hK hc i aa s σ H E I hf st hg;subst hP hw hK;let⟨f0,f1,f2,f3,f4,f5⟩:=hf it ∅;show(Walks.range (prog:=X.prog) (w:=X.w) (I.ok.hd hc) it hi (-1) n).item i s _ _ hg st λv h' tk hv aO kk=>?_
  let⟨t,rfl⟩:=hv;let I1:Inv X aa σ H {s with heap:=h',toks:=tk}:=I.turned (λb o hb e=>kk b o ‹hb› e) f0 f1 f3 f4 f5;show-⟨AT (s:={s with heap:=h',toks:=tk}) (n := "range_iterator") aO O O {} ⟨.int (hi-i),H,I1,⟨t,?_⟩,⟨O,O⟩,aO,λb hb=>(hf b hb).1⟩⟩;rw[show hi+(i:Int)*(-1)=hi-i by omega]
 done:=by
  intro X hP hw hK hc i aa s σ H E I hf st hg;subst hP hw hK;let⟨f0,f1,f2,f3,f4,f5⟩:=hf it ∅;show wpAny_pyNext_range_end (I.ok.hd hc) st (by let z:n<=i:=hg;omega) λh' eb=>⟨O,I.turned (t':=s.toks) (λb o hb e=>eb b o hb e) f0 f1 f3 f4 f5⟩
 self:=λ_ _ _ _ _ st h=>wpAny_pyIter_rangeiter st h
def Nz(a b:Int):Builtin.Range.rangeSize a b (-1)=if a>b then a-b else 0:=by
 unfold Builtin.Range.rangeSize;rw[qX {}]
 split
 .rw[show -(-1:Int)=1 by decide,Int.ediv_one];omega
 .rfl
def small_down{a b:Int}(ha:-(2 ^ 62)<=a)(hV:a<2 ^ 62)(hb:-(2 ^ 62)<=b)(hb':b<2 ^ 62):Builtin.Range.small a b (-1)=true:=by
 unfold Builtin.Range.small;rw[Nz];rw[qX (show¬((-1:Int)>0) by decide)];simp only[Builtin.Range.rangeFitsLong,Bool.and_eq_true,Bool.or_eq_true,decide_eq_true_eq,beq_iff_eq]
 split<;>omega
inductive NA(R:It->Hp->Prop):List V->Hp->Prop
|m {vs H1} (i j:Int):vs=[.int i,.int j,.int (-1)]->(-(2 ^ 62)<=i/\i<2 ^ 62/\-(2 ^ 62)<=j/\j<2 ^ 62)->R (qo i (i-j).toNat) H1->NA R vs H1
def Y'(ta:TA):TI:=λσ H R=>ta σ H (NA R)
section
variable{X:Cx}{tg:Expr}
def Za{aa:TF}{R:It->Hp->Prop}{E:TH}{lo hi:Int}{tk:Nat}(I:Inv X aa σ H s)(h1:-(2 ^ 62)<=lo)(h2:lo<2 ^ 62)(h3:-(2 ^ 62)<=hi)(h4:hi<2 ^ 62)(q:R (qo lo (lo-hi).toNat) H) :
  wpAny (model X.prog X.w) X.A (pyIter (.ref (~~~s))) (DI X aa σ tg R) E {s with heap:=s.heap.push {cls:=.type "range",data:=.fields #[.int lo t,.int hi u,.int (-1) v]},toks:=tk}:=by
 show wpAny_pyIter_range (IsRange.new ..) (small_down h1 h2 h3 h4) ?_;let I1:Inv X aa σ H {s with heap:=s.heap.push {cls:=.type "range",data:=.fields #[.int lo t,.int hi u,.int (-1) v]},toks:=tk}:=I.kept λb o e=>qE _ e
 show⟨(s.heap.push {cls:=.type "range",data:=.fields #[.int lo t,.int hi u,.int (-1) v]}).objs.size,[(s.heap.push {cls:=.type "range",data:=.fields #[.int lo t,.int hi u,.int (-1) v]}).objs.size],_,_,H,O,I1.kept (t':=tk) λb o e=>qE _ e,Y9 _ lo (lo-hi).toNat,?_,λb hb=>?_,q⟩
 .let e1:lo+((0:Nat):Int)*(-1)=lo:=∅
  let e2:(((lo-hi).toNat:Nat):Int)-((0:Nat):Int)=Builtin.Range.rangeSize lo hi (-1):=by rw[Nz];split<;>omega
  show IsRangeIter _ _ (lo+((0:Nat):Int)*(-1)) ((((lo-hi).toNat:Nat):Int)-((0:Nat):Int)) (-1);rw[e1,e2];show qR _ O
 .obtain rfl:b=(s.heap.push {cls:=.type "range",data:=.fields #[.int lo t,.int hi u,.int (-1) v]}).objs.size:=‹hb›
  show I1.fpOk (qG _) (I1.hok.fresh (qG _))
def Fz(hg:Gl X "range")(hm:X.mg "range" = none)(ha:PA X [a,b,c] ta)(hs:starEach [a,b,c] X.env=[(false,eval a X.env),(false,eval b X.env),(false,eval c X.env)]:=by rfl)(fE:starEach [b,c] X.env=[(false,eval b X.env),(false,eval c X.env)]:=by rfl) :
  PI X tg (.Call (.Name "range" p) [a,b,c] [] pos) (Y' ta):=by
 intro aa s σ H R I h;show Call_ (i5 I hg hm boot_range (xT (aT (ha pos aa s σ H _ I h) λus s1 ⟨vs,H1,I1,r1,q1⟩=>?_) (by rw[hs,fE]) (by rw[fE];rfl)));let⟨i,j,e,⟨q1,q2,q3,q4⟩,q⟩:=q1;subst e;cases r1 with
 | cons r rr => cases rr with
   | cons r' rr => cases rr with
     | cons FB rr =>
       cases rr
       let⟨t,rfl⟩:=r
       let⟨t',rfl⟩:=r'
       let⟨t'',rfl⟩:=FB
       show call_range_3 {} (Za I1 q1 q2 q3 q4 q) (.inl (PyProof.noPylong_small {}))
end
def FC{hi:Int}{n:Nat}{g:TG}{tb:TS}{D:gN}{σ:St}{H:Hp}(Pv:Nat->St->Hp->Prop)(h0:Pv 0 σ H)(hs:∀i σ H,i<n->Pv i σ H->g (.int (hi-i)) σ H λaY H2=>tb {D with nx:=Pv (i+1),ct:=Pv (i+1),bk:=D.nx} aY H2)(hd:∀σ H,Pv n σ H->D.nx σ H) :
  ∃W:Nat->Nat->St->Hp->Prop,(∃m,W 0 m σ H)/\∀i m σ H,W i m σ H ->
   ((qo hi n).stop i H/\D.nx σ H)\/((qo hi n).go i H/\∃N:St->Hp->Prop,(∀ae H',N ae H'->∃m',m'<m/\W (i+1) m' ae H')/\∀x H',(qo hi n).yld i H x H'->g x σ H' λaY H2=>tb {D with nx:=N,ct:=N,bk:=D.nx} aY H2):=by
 show⟨λi m σ H=>m=n-i/\i<=n/\Pv i σ H,⟨n,∅,rL _,h0⟩,λi m σ H ⟨em,bW,p⟩=>?_⟩;subst em
 by_cases aX:i<n
 .show .inr ⟨aX,Pv (i+1),λae H' p'=>⟨n-(i+1),(),O,aX,p'⟩,λx H' ⟨e,y⟩=>?_⟩;subst e y;show hs i σ _ aX p
 .obtain rfl:i=n:=()
  show .inl ⟨qG _,hd σ H p⟩
def xa(K:W.Frag):List V->Hp->VK->Prop:=λxs H Q=>∃(p:Addr) (ns:TN),xs=[.ref p]/\SqL K H p ⇑ns/\Q (.int ns.sum) H
section
variable{X:Cx}
def iN(hc:X.calm=true):dB X (.builtin "sum") (xa X.K):=by
 intro aa s σ H xs us Q I r h;let⟨p,ns,rfl,hp,q⟩:=h;let⟨u,rfl,rx⟩:=vals1 r;cases rx;let⟨ah,rv,pl,hz⟩:=I.list hp;let hh:=I.ok.hd hc;let lp:p< ~~~s:=by
  let⟨o,e,_⟩:=pl.isList;show qK e
 let hn:ah.toArray.size=ns⁻¹:=by rw[qY,<-rv⁻¹,qA]
 show call_sum_walkAnyS (xS pl.isList ?_);show⟨~~~s,_,_,_,_,_,_,λi=>ns.getD i 0,O,(Walks.list ‹hh› (~~~s) p (rC lp) ah.toArray).toS,⟨⟨_,qR _ O,O,O⟩,pl.isList.push _⟩,λb hb'=>?_,k9 rv,λs' t' mv=>?_⟩
 .rw[rM];rcases qN.mp hb' with rfl | hb'
  .show rW _
  .rcases qN.mp hb' with rfl | hb'
   .show xQ lp
   .cases hb'
 .rw[hn,BP,yN];let⟨h',g',dd,kQ,kG⟩:=s';obtain rfl:g'=s.gens:=mv.gens;obtain rfl:dd=s.drawn:=mv.drawn;obtain rfl:kG=s.os:=mv.os;show⟨.int ns.sum,H,I.kept λb o e=>mv.heap b o ‹rC (qK e)› (qE _ e),⟨t',O⟩,q⟩
end
end L2
namespace Bk
open L2 Gen
end Bk
namespace Gen
open L2 Bk
end Gen
namespace Bk
open L2 Gen
def xb(n:Int)(d:Nd):Bool:=decide (d.e=n)
def kk(l:List Nd)(n:Int):List Kd:=(l.filter (xb n)).map (·.k)
def NB(a b:List Nd)(n:Int):kk (a++b) n=kk a n++kk b n:=by unfold kk;rw[xB,qD]
def BR{n:Int}(h:∀d∈l,d.e≠n):kk l n=[]:=by
 unfold kk;rw[List.filter_eq_nil_iff.mpr λd hd=>by simp[xb,h d hd]];rfl
def FD(d:Nd)(l:List Nd)(n:Int):kk (d::l) n=(if d.e=n then[d.k]else[])++kk l n:=by
 unfold kk;rw[List.filter_cons]
 by_cases h:d.e=n
 .simp[xb,h]
 .simp[xb,h]
structure Zb(e i:Nat)(l:List Nd)(ks:List Kd):Prop where
 el:∀d∈l,d.e=(e:Int)\/((i:Int)<=d.e/\d.e<i+l⁻¹)
 top:kk l e=ks
 each:∀k d,l[k]?=!d->Holds d.k (kk l ((i+k:Nat):Int)) d.st/\d.k≠.body
def Forest.all{e i lv:Nat}(x:Forest e i lv l ks):e<i->Zb e i l ks:=by
 induction x with
 | nil=>intro _;show⟨(λd hd=>nomatch hd),O,(λk d h=>nomatch h)⟩
 | @cons e i lv d sub rest ks bZ h1 h2 h3 f1 h4 f2 jM gx =>
   intro he
   let A:=jM ()
   let B:=gx ()
   let NC:∀c∈rest,c.e=(e:Int)\/((i+1+sub⁻¹:Nat):Int)<=c.e:=λc hc=>(B.el c hc).imp id And.left
   show⟨λc hc=>?_,?_,λk c hk=>?_⟩
   · rw[List.length_cons,qI]
     rcases qN.mp hc with rfl | hc
     · show .inl h1
     · rcases rE.mp hc with hc | hc
       · rcases A.el c hc with z | z<;>right<;>omega
       · rcases B.el c hc with z | z
         · show .inl z
         · right;omega
   · rw[FD,qZ h1,NB,BR (l:=sub) λc hc=>by rcases A.el c hc with z | z<;>omega,B.top]
     rfl
   · rw[FD,NB,qX ()]
     cases k with
     | zero =>
       cases hk
       rw[show((i+0:Nat):Int)=(i:Int) by simp,A.top,BR (l:=rest) λc hc=>by rcases NC c hc with z | z<;>omega,rS]
       show⟨h4,h3⟩
     | succ k =>
       rw[rT]at hk
       by_cases hs:k<sub⁻¹
       · rw[rY hs]at hk
         let⟨q1,q2⟩:=A.each k c hk
         rw[BR (l:=rest) λc hc=>by rcases NC c hc with z | z<;>omega,rS,show i+(k+1)=i+1+k by omega]
         show⟨q1,q2⟩
       · rw[rG ()]at hk
         let⟨q1,q2⟩:=B.each _ c hk
         rw[BR (l:=sub) λc hc=>by rcases A.el c hc with z | z<;>omega,show i+(k+1)=i+1+sub⁻¹+(k-sub⁻¹) by omega]
         show⟨q1,q2⟩
def Forest.lev{e i lv:Nat}(x:Forest e i lv l ks):e<i->(∀k d,l[k]?=!d->ds[i+k]?=!d)->(∃u,lv=u+1/\Lev ds e u)->∀k,k<l⁻¹->∃u,u<=6/\Lev ds (i+k) u:=by
 induction x with
 | nil=>intro _ _ _ k hk;show qT hk (xP _)
 | @cons e i lv d sub rest ks bZ h1 h2 h3 f1 h4 f2 jM gx =>
   ext he hp ⟨u,rfl,le⟩ k hk
   let ld:Lev ds i (u+1):=.up (hp 0 d O) h1 he le
   let oN:∀k c,sub[k]?=!c->ds[i+1+k]?=!c:=λk c hc=>by
     let jR:k<sub⁻¹:=(qF.mp hc).1
     have:=hp (k+1) c (by rw[rT,rY jR];show hc)
     rw[show i+1+k=i+(k+1) by omega];show this
   let fE:∀k c,rest[k]?=!c->ds[i+1+sub⁻¹+k]?=!c:=λk c hc=>by
     have:=hp (sub⁻¹+k+1) c (by rw[rT,rG ()];rw[show sub⁻¹+k-sub⁻¹=k by omega];show hc)
     rw[show i+1+sub⁻¹+k=i+(sub⁻¹+k+1) by omega];show this
   cases k with
   | zero=>show⟨u+1,h2,ld⟩
   | succ k =>
     rw[rN,qI]at hk
     by_cases hs:k<sub⁻¹
     · let⟨v,v1,v2⟩:=jM () oN ⟨u+1,O,ld⟩ k hs
       show⟨v,v1,by rw[show i+(k+1)=i+1+k by omega];show v2⟩
     · let⟨v,v1,v2⟩:=gx () fE ⟨u,O,le⟩ (k-sub⁻¹) ()
       show⟨v,v1,by rw[show i+(k+1)=i+1+sub⁻¹+(k-sub⁻¹) by omega];show v2⟩
inductive Up(ds:List Nd):Nat->Nat->Nat->Prop
 | here {a:Nat}:Up ds a a 0
 | step {a b j m:Nat} {d:Nd}:ds[a]?=!d->d.e=(j:Int)->Up ds j b m->Up ds a b (m+1)
def Up.trans{a b m:Nat}(x:Up ds a b m):∀{c n:Nat},Up ds b c n->∃k,Up ds a c k:=by
 induction x with
 | here=>intro c n y;show⟨n,y⟩
 | step h1 h2 _ ih =>
   intro c n y
   let⟨k,z⟩:=ih y
   show⟨k+1,.step h1 h2 z⟩
def Forest.up{e i lv:Nat}(x:Forest e i lv l ks):e<i->(∀k d,l[k]?=!d->ds[i+k]?=!d)->(∃m,Up ds (i-1) e m) ->
  (∀k d,l[k]?=!d->∃j m:Nat,d.e=(j:Int)/\Up ds (i+k-1) j m)/\∃m,Up ds (i+l⁻¹-1) e m:=by
 induction x with
 | nil=>ext _ _ hu;show⟨(λk d h=>nomatch h),hu⟩
 | @cons e i lv d sub rest ks bZ h1 h2 h3 f1 h4 f2 jM gx =>
   ext he hp hu
   let oN:∀k c,sub[k]?=!c->ds[i+1+k]?=!c:=λk c hc=>by
     let jR:k<sub⁻¹:=(qF.mp hc).1
     have:=hp (k+1) c (by rw[rT,rY jR];show hc)
     rw[show i+1+k=i+(k+1) by omega];show this
   let fE:∀k c,rest[k]?=!c->ds[i+1+sub⁻¹+k]?=!c:=λk c hc=>by
     have:=hp (sub⁻¹+k+1) c (by rw[rT,rG ()];rw[show sub⁻¹+k-sub⁻¹=k by omega];show hc)
     rw[show i+1+sub⁻¹+k=i+(sub⁻¹+k+1) by omega];show this
   let⟨a1,m1,a2⟩:=jM () oN ⟨0,by rw[show i+1-1=i by omega];show .here⟩
   let ie:Up ds i e 1:=.step (hp 0 d O) h1 .here
   let⟨m2,u2⟩:=a2.trans ie
   let⟨b1,m3,b2⟩:=gx () fE ⟨m2,u2⟩
   show⟨λk c hk=>?_,m3,?_⟩
   · cases k with
     | zero =>
       cases hk
       let⟨m,u⟩:=hu
       show⟨e,m,h1,u⟩
     | succ k =>
       rw[rT]at hk
       by_cases hs:k<sub⁻¹
       · rw[rY hs]at hk
         let⟨j,m,q1,q2⟩:=a1 k c hk
         show⟨j,m,q1,by rw[show i+(k+1)-1=i+1+k-1 by omega];show q2⟩
       · rw[rG ()]at hk
         let⟨j,m,q1,q2⟩:=b1 _ c hk
         show⟨j,m,q1,by rw[show i+(k+1)-1=i+1+sub⁻¹+(k-sub⁻¹)-1 by omega];show q2⟩
   · rw[rN,qI,show i+(sub⁻¹+rest⁻¹+1)-1=i+1+sub⁻¹+rest⁻¹-1 by omega]
     show b2
structure Zc(ds:List Nd)(n:Nat)(d:Nd):Prop where
 kids:Holds d.k (kk ds n) d.st
 body:d.k=.body↔n=0
 lev:∃u,u<=6/\Lev ds n u
 up:(n=0/\d.e=-1)\/(0<n/\∃j m:Nat,d.e=(j:Int)/\j<n/\Up ds (n-1) j m)
def Book.each(b:Book ds){n:Nat}(h:ds[n]?=!d):Zc ds n d:=by
 let⟨d0,sub,ks,rfl,e0,k0,f,hh⟩:=b.tree;let A:=f.all {};let hp:∀k c,sub[k]?=!c->(d0::sub)[1+k]?=!c:=λk c hc=>by rw[Nat.add_comm,rT];show hc
 let l0:Lev (d0::sub) 0 0:=.top O e0;let kc:∀n:Nat,kk (d0::sub) n=kk sub n:=λn=>by rw[FD,qX ()];rfl
 cases n with
 | zero =>
   cases h
   show⟨?_,by simp[k0],⟨0,{},l0⟩,.inl ⟨O,e0⟩⟩
   rw[k0,kc,show((0:Nat):Int)=((0:Nat):Int)from rfl,A.top]
   show hh
 | succ k =>
   rw[rT]at h
   let⟨q1,q2⟩:=A.each k d h
   let hk:k<sub⁻¹:=(qF.mp h).1
   let⟨u,u1,u2⟩:=f.lev {} hp ⟨0,O,l0⟩ k hk
   let⟨c1,_⟩:=f.up (ds:=d0::sub) {} hp ⟨0,.here⟩
   let⟨j,m,ej,uj⟩:=c1 k d h
   let⟨j',ej',lt⟩:=f.elds {} k d h
   have:j=j':=()
   subst this
   show⟨?_,⟨λz=>qT z q2,λz=>qT z ()⟩,⟨u,u1,by rw[Nat.add_comm];show u2⟩,.inr ⟨(),j,m,ej,(),?_⟩⟩
   · rw[kc,show((k+1:Nat):Int)=((1+k:Nat):Int) by omega]
     show q1
   · rw[show k+1-1=1+k-1 by omega]
     show uj
end Bk
namespace Gen
open L2 Bk
end Gen
namespace Bk
open L2
def xc:TV:=Yz.map (·.1)
end Bk
namespace L2
open PyProof.Rows
section
variable{X:Cx}
def Zd{T name id:String}{r:V->List V->Hp->VK->Prop}(K:W.Frag)(hK:X.K=K)(pa:PlainAttrs T)(slot:Slot T name id)(uq:typeOf (.builtin id)=pure (.type "method_descriptor"))(hm:pR X id r)(ho:PE X o to)(ha:PA X (e::es) t)(n8:attributeBase o name X.env (eval o X.env)=eval o X.env:=by rfl)(ur:((backTo dW (starEach (e::es) X.env)).all (λx=>(Bool.not (x.1))) && (backToKw dW (keywordEach [] X.env)).all (λx=>x.1.isSome)
   && decide ((e::es)⁻¹+([]:List Keyword)⁻¹+(if([]:List Keyword).isEmpty then 0 else 1)<30))=true:=by rfl)(oa:(kH.endLine == dW.line)=true:=by rfl)(hs:starEach (e::es) X.env=(false,eval e X.env)::starEach es X.env:=by rfl)(uu:(backTo dW (starEach es X.env)).any (·.1)=false:=by rfl) :
  PE X (.Call (.Attribute o name kH) (e::es) [] dW) (D0 K T r to t):=by
 subst hK;show jK pa slot uq hm ho ha n8 ur oa hs uu
end
end L2
namespace Gen
open L2 Bk
end Gen
namespace Bd
open L2 Bk Gen Gd
structure Un where
 w:Int
 b:Int
 h:Int
 k:Int
def aC(ls:TB)(n i:Nat):Int:=((ls[n]?).getD []).getD i 0
def aV(bs:TC)(n:Nat):Int×Int:=(bs[n]?).getD (0,0)
def bu(us:List (List Un))(n:Nat):List Un:=(us[n]?).getD []
def a9:TN->Int
 | []=>0
 | x::l=>l.foldl max x
def ay(ds:List Nd)(n:Nat):TM:=(List.range ds⁻¹).filter λj=>decide (ds[j]?.map Nd.e=!(n:Int))
def cG(ls:TB)(bs:TC)(m:Nat):Int:=max (aV bs m).1 (aC ls m 5)
def gb(ls:TB)(bs:TC)(m:Nat):Int:=max (aC ls m 6) (cG ls bs m)
def mL(ls:TB)(bs:TC)(m:Nat):Int:=min (max (aV bs m).2 (cG ls bs m)) (gb ls bs m)
def eS(l s:Int):Int:=-(-l / s)
def lq(ls:TB)(cols:Int)(zs:List (Nat×Int)):Int:=cols*a9 (zs.map λx=>eS x.2 (min (aC ls x.1 8) cols))
def lA(d:Nd):Int:=match d.st with
 | .int a::_=>a
 | _=>0
def cR(ds:List Nd)(ls:TB)(bs:TC)(m:Nat):Int×Int:=if ds[m]?.map Nd.k=!Kd.aside then(aC ls m 11,aC ls m 11)else aV bs m
def lB(us:List Un):Int:=a9 (us.map Un.w)
def jW(us:List Un):Int:=(us.map Un.w).sum+(us.dropLast.map Un.b).sum
def ji(ds:List Nd)(ls:TB)(us:List (List Un))(bs:TC)(n:Nat)(d:Nd):Int×Int :=
 match d.k with
 | .text | .head | .note=>(lB (bu us n),jW (bu us n))
 | .shelf=>(((ay ds n).map (cG ls bs)).sum,((ay ds n).map (mL ls bs)).sum)
 | .grid=>(lq ls (aC ls n 7) ((ay ds n).map λm=>(m,(aV bs m).1)),lq ls (aC ls n 7) ((ay ds n).map λm=>(m,(aV bs m).2)))
 | _=>(a9 ((ay ds n).map λm=>(cR ds ls bs m).1),a9 ((ay ds n).map λm=>(cR ds ls bs m).2))
def fh(ds:List Nd)(ls:TB)(us:List (List Un))(bs:TC)(n:Nat):Int×Int :=
 match ds[n]? with
 | none=>(0,0)
 | some d=>if d.k=.picture then(lA d,lA d)else((ji ds ls us bs n d).1+2*aC ls n 3,(ji ds ls us bs n d).2+2*aC ls n 3)
def dY(ds:List Nd)(ls:TB)(us:List (List Un)):Nat->List (Int×Int)
 | 0=>List.replicate ds⁻¹ (0,0)
 | k+1=>(dY ds ls us k).set (ds⁻¹-1-k) (fh ds ls us (dY ds ls us k) (ds⁻¹-1-k))
def xg(ds:List Nd)(ls:TB)(us:List (List Un)):TC:=dY ds ls us ds⁻¹
section
variable{ds:List Nd}{ls:TB}{us:List (List Un)}
theorem qp:∀k,(dY ds ls us k)⁻¹=ds⁻¹
 | 0=>by simp[dY]
 | k+1=>by rw[dY,uG,qp k]
def ND{bs:TC}{i m:Nat}{v:Int×Int}(h:i≠m):aV (bs.set i v) m=aV bs m:=by
 unfold aV;rw[yY h]
def NE{bs:TC}{i:Nat}{v:Int×Int}(h:i<bs⁻¹):aV (bs.set i v) i=v:=by
 unfold aV;rw[y9 h];rfl
def cZ{n m:Nat}(h:m∈ay ds n):m<ds⁻¹:=xC.mp (xL.mp h).1
def BS{n m:Nat}(h:m∈ay ds n):∃d,ds[m]?=!d/\d.e=(n:Int):=by
 let h2:=rH (xL.mp h).2;let⟨d,e1,e2⟩:=xH.mp h2;show⟨d,e1,e2⟩
def Behind(ds:List Nd):=∀(m:Nat) (d:Nd),ds[m]?=!d->d.e<(m:Int)
end
theorem FE:∀(l:TN) (a:Int),a<=l.foldl max a/\∀x∈l,x<=l.foldl max a
 | [],a=>⟨xD _,λx hx=>nomatch hx⟩
 | y :: l, a => by
   let⟨h1,h2⟩:=FE l (max a y)
   rw[xK]
   show⟨(),λx hx=>?_⟩
   rcases qN.mp hx with rfl | hx
   · omega
   · show h2 x hx
theorem NF:∀(l:TN) (a:Int),l.foldl max a∈a::l
 | [],a=>∅
 | y :: l, a => by
   rw[xK]
   rcases qN.mp (NF l (max a y))with e | h
   · rw[e]
     by_cases z:a<=y
     · rw[Int.max_eq_right z];simp
     · rw[Int.max_eq_left ()];simp
   · show qW _ (qW _ h)
def gF{l:TN}(h:l≠[]):a9 l∈l:=by
 cases l with
 | nil=>show qT O h
 | cons x l=>show NF l x
def iO{l:TN}:∀x∈l,x<=a9 l:=by
 cases l with
 | nil=>intro x hx;cases hx
 | cons y l =>
   intro x hx
   rcases qN.mp hx with rfl | hx
   · show(FE l x).1
   · show(FE l y).2 x hx
def lD{l:TN}(h:∀x∈l,0<=x):0<=a9 l:=by
 cases l with
 | nil=>show xD _
 | cons x l=>show h _ (gF ∅)
def Ze(ds:List Nd)(n:Nat):mD ds n ds⁻¹=(ay ds n).map λ(j:Nat)=>(j:Int):=rfl
def lE(ds:List Nd)(n:Nat):(ay ds n)⁻¹<=ds⁻¹:=rK (uB _ _) ∅
def eV{α β:Type}{F:α->β->Prop}{l1:List α}{l2:List β}(h:Paired F l1 l2){i:Nat}{b:β}(e:l2[i]?=!b):∃a,l1[i]?=!a/\F a b:=by
 induction h generalizing i with
 | nil=>cases e
 | @cons a b l1 l2 q t ih =>
   cases i with
   | zero=>cases e;show⟨a,O,q⟩
   | succ i=>show ih ‹e›
def _root_.PySem.Paired.set{α β:Type}{F:α->β->Prop}{l1:List α}{l2:List β}(h:Paired F l1 l2){a:α}{b:β}(q:F a b):∀i,Paired F (l1.set i a) (l2.set i b):=by
 induction h with
 | nil=>intro i;show .nil
 | cons q' t ih =>
   intro i
   cases i with
   | zero=>show .cons q t
   | succ i=>show .cons q' (ih i)
def PrAt(H:Hp)(a:Addr)(x:Int×Int):=H a=!.tup [.int x.1,.int x.2]
def LkAt(H:Hp)(a:Addr)(l:TN):=H a=!.lst ⇑l
def PrAt.same(s:Same H H'){x:Int×Int}(h:PrAt H a x):PrAt H' a x:=s _ _ h
def LkAt.same(s:Same H H'){x:TN}(h:LkAt H a x):LkAt H' a x:=s _ _ h
def gd{β:Type}{F:Hp->Addr->β->Prop}(hF:∀a x,F H a x->F H' a x)(s:Same H H'){xs:List β}(h:LstAt F H L xs):LstAt F H' L xs:=by
 let⟨as,e,p⟩:=h;show⟨as,s _ _ e,p.mono hF⟩
def cS(s:Same H H'){ls:TB}(h:LstAt LkAt H p ls):LstAt LkAt H' p ls:=gd (λ_ _=>LkAt.same s) s h
def ge(s:Same H H'){bs:TC}(h:LstAt PrAt H p bs):LstAt PrAt H' p bs:=gd (λ_ _=>PrAt.same s) s h
structure LkOk(l:TN):Prop where
 len:l⁻¹=13
 ins:0<=l.getD 3 0
 least:0<=l.getD 5 0
 most:0<=l.getD 6 0
 cols:1<=l.getD 7 0/\l.getD 7 0<=6
 span:1<=l.getD 8 0/\l.getD 8 0<=6
 wide:0<=l.getD 11 0
structure Ctx(ds:List Nd)(ls:TB)(us:List (List Un)):Prop where
 le:ds⁻¹<=100
 ll:ls⁻¹=ds⁻¹
 ul:us⁻¹=ds⁻¹
 lk:∀l∈ls,LkOk l
 pos:∀r∈us,r⁻¹<=100/\∀u∈r,0<=u.w/\0<=u.b
 un:∀(n:Nat) (d:Nd),ds[n]?=!d->(d.k=.text\/d.k=.head\/d.k=.note)->bu us n≠[]
 pic:∀(n:Nat) (d:Nd),ds[n]?=!d->d.k=.picture->∃a b:Int,d.st=[.int a,.int b]/\0<=a
 gr:∀(n:Nat) (d:Nd),ds[n]?=!d->d.k=.grid->ay ds n≠[]
 bh:Behind ds
def Ctx.look{ls:TB}(c:Ctx ds ls us){n:Nat}(h:n<ds⁻¹):∃l,ls[n]?=!l/\LkOk l/\∀i,aC ls n i=l.getD i 0:=by
 let hl:n<ls⁻¹:=by rw[c.ll];show h
 show⟨ls[n],qB hl,c.lk _ (rJ hl),λi=>?_⟩;unfold aC;rw[qB hl];rfl
def iP(y:Str)(j:Nat):Prop:=xc[j]?=!y/\∀i:Nat,i<j->xc[i]?≠!y
structure NG(K:W.Frag)(a:Addr):Prop where
 tup:∀H:Hp,SqT K H a (xc.map V.str)
 ob:∃o,K.lookup a=!o/\o.cls=.type "tuple" /\ o.dict=none
inductive fK:List V->Hp->VK->XK->Prop
|m (p:Addr) (n j:Nat) (y:Str) (ls:TB):vs=[.ref p,.int n,.str y]->LstAt LkAt H p ls->n<ls⁻¹->(∀l∈ls,l⁻¹=13)->j<13->iP y j->Q (.int (aC ls n j)) H->fK vs H Q E
inductive FF:List V->Hp->VK->XK->Prop
|m (p:Addr) (n:Nat) (a b:Int) (ls:TB):vs=[.ref p,.int n,.int a,.int b]->LstAt LkAt H p ls->n<ls⁻¹->(∀l∈ls,l⁻¹=13)->(∀(t:Addr) (H':Hp),Same H H'->PrAt H' t (a+2*aC ls n 3,b+2*aC ls n 3)->Q (.ref t) H')->FF vs H Q E
inductive jj(f:TB->List (Int×Int)->Nat->Int):List V->Hp->VK->XK->Prop
|m (p L:Addr) (m:Nat) (ls:TB) (bs:TC):vs=[.ref p,.ref L,.int m]->LstAt LkAt H p ls->LstAt PrAt H L bs->m<ls⁻¹->m<bs⁻¹->(∀l∈ls,l⁻¹=13)->Q (.int (f ls bs m)) H->jj f vs H Q E
inductive FG:List V->Hp->VK->XK->Prop
|m (l s:Int):vs=[.int l,.int s]->1<=s->s<=6->Q (.int (eS l s)) H->FG vs H Q E
inductive FH:List V->Hp->VK->XK->Prop
|m (p a b:Addr) (c:Int) (ls:TB) (zs:List (Nat×Int)):vs=[.ref p,.int c,.ref a,.ref b]->LstAt LkAt H p ls->H a=!.lst (zs.map λx=>.int (x.1:Nat))->H b=!.lst (zs.map λx=>.int x.2)->zs≠[]->zs⁻¹<=100->1<=c->c<=6->(∀l∈ls,LkOk l)->(∀x∈zs,x.1<ls⁻¹)->(∀H',Same H H'->Q (.int (lq ls c zs)) H')->FH vs H Q E
inductive FI:List V->Hp->VK->XK->Prop
|m (B p L:Addr) (m:Nat) (ds:List Nd) (ls:TB) (bs:TC):vs=[.ref B,.ref p,.ref L,.int m]->b8 (λ_=>True) H B ds->LstAt LkAt H p ls->LstAt PrAt H L bs->m<ds⁻¹->m<ls⁻¹->m<bs⁻¹->(∀l∈ls,l⁻¹=13)->(∀(t:Addr) (H':Hp),Same H H'->PrAt H' t (cR ds ls bs m)->Q (.ref t) H')->FI vs H Q E
structure NumsB(mg:TJ):Prop where
 kind:∃t,mg "KIND" = !.int 1 t
 stuff:∃t,mg "STUFF" = !.int 4 t
 uw:∃t,mg "UNIT_WIDE" = !.int 0 t
 ub:∃t,mg "UNIT_BLANK" = !.int 1 t
 low:∃t,mg "LOW" = !.int 0 t
 great:∃t,mg "GREAT" = !.int 1 t
end Bd
namespace L2
def Zf:typeLookup (.type "list") "keys" = pure none:=am_miss_of_fast (by kernel_rfl)
def NH:entryFor table "dict.update.loop" = some Builtin.«dict.update.loop»:=entryFor_of_tree (by kernel_rfl)
def BU:plainId "dict.update.loop" = true:=by ac_rfl
section
variable{prog:Program}{w:World}{A:Around}{E:TH}{s:Shared}
def Zg{k:Nat}{Q:Option Value->Shared->Prop}(hA:A.handled=none)(hx:s.heap.get? a=!{cls:=.type "list",dict:=none,data:=.seq xs k,slots:=sl})(q:∀h' tk,(∀b o,s.heap.get? b=!o->h'.get? b=!o)->Q none {s with heap:=h',toks:=tk}):wpAny (model prog w) A (getAttr? (.ref a) "keys") Q E s:=by
 let⟨hp,g,d,tk,os⟩:=s;let hT:∀kQ,(⟨hp,g,d,kQ,os⟩:Shared).TypeIs (.ref a) "list":=λ_=>⟨_,hx,O⟩
 let f1:=sub_AttributeError;let f3:=F.slot_list_getattribute.lookup;let f4:=F.slot_list_getattribute.bind (.ref a);let f5:=am_list_getattr_none;let f6:=Zf;unfold getAttr? getAttrBy?
 repeat (any_goals (first | assumption | show hT _ | ((with_reducible show wpAny _ _ (call (Value.builtin "list.__getattribute__") _ _) _ _ _);show vW F.slot_list_getattribute (hT _) am_entry_list_getattribute (F.args_list_getattribute_2 _ _) (meets_getattribute_miss_list a xs k sl "keys" _ f6 (by ac_rfl) (by ac_rfl)) ⟨hx,hA,λh' kQ e Bc=>?_⟩) | wp_step))
 let⟨t',u',he⟩:=Bc.there;show wpAny _ _ (getattributeRaised _ _ _ _ _ _ _) _ _ _;unfold getattributeRaised
 repeat (any_goals (first | assumption | wp_step))
 show q _ _ Bc.keeps
end
section
variable{κ:Type}[DecidableEq κ]
def oO(key:Nat->κ)(vv:Nat->Value):Nat->List (κ×Value)
 | 0=>[]
 | i+1=>stored (oO key vv i) (key i) (vv i)
def Zh(l:List (κ×Value))(k:κ)(v:Value):(stored l k v)⁻¹<=l⁻¹+1:=by
 unfold stored
 split
 .rw[qA];show yS _
 .rw[qI];show qG _
theorem FJ(key:Nat->κ)(vv:Nat->Value):∀n,(oO key vv n)⁻¹<=n
 | 0=>qG _
 | n+1=>rK (Zh _ _ _) (yO (FJ key vv n))
end
def BV(h:Heap)(b:Addr)(k v:Value):=∃(o:Obj) (m:Nat),h.get? b=!o/\o.cls=.type "tuple" /\ o.data=.seq #[k,v] m
section
variable{prog:Program}{w:World}{A:Around}{R:Result->Shared->Prop}{J:Addr}{fp wr:TQ}{G:Array GenState->Array GenState->Prop}{n:Nat}{P:Nat->Value->Prop}{St:Nat->Shared->Prop}{κ:Type}[DecidableEq κ]{knd:KeyKind prog w κ}
def Zi(W:WalksS prog w A.in1 J fp wr G n P St)(d:Addr)(nd:d∉fp)(tup:Nat->Addr)(key:Nat->κ)(kv vv:Nat->Value)(hP:∀i v,P i v->v=.ref (tup i))(hk:∀i,i<n->knd.is (key i) (kv i)=true)(nt:∀i,i<n->tup i∉d::wr)(hn:n<=sizeLine) :
  ∀(k i:Nat) (j:Int) (s:Shared),n-i=k->i<=n->St i s->s.heap.DictOf knd d (oO key vv i)->(∀i,i<n->BV s.heap (tup i) (kv i) (vv i)) ->
   (∀s',Moved (d::wr) G s s'->s'.heap.DictOf knd d (oO key vv n)->R (.ok (.ret .none)) s') ->
   codeAny (model prog w) A (.builtin "dict.update.loop" ⟨[.ref d,.ref J,rawInt j,.none],[]⟩) R s:=by
 let NI:d∉wr:=λq=>nd (W.sub _ q)
 let sub:∀b∈wr,b∈d::wr:=λb q=>qW _ q
 intro k
 induction k with
 | zero =>
   intro i j s jR hi st x tw fin
   obtain rfl:i=n:=()
   show xV NH ?_
   rw[xI BU _]
   show wpAny (model prog w) A.in1 (pyNext (.ref J)>>=_) _ _ s
   show qC (W.done s _ _ st λs1 mv=>?_)
   show wpAny (model prog w) A.in1 (Builtin.Dict.addKeywords d []>>=_) _ _ s1
   show qC (qM (qM (fin s1 (mv.mono sub) (x.at λo e=>mv.heap d _ NI e))))
 | succ k ih =>
   intro i j s jR hi st x tw fin
   let lt:i<n:=()
   show xV NH ?_
   rw[xI BU _]
   show wpAny (model prog w) A.in1 (pyNext (.ref J)>>=_) _ _ s
   show qC (W.item i s _ _ lt st λv s1 hv cO mv=>?_)
   obtain rfl:=hP i v hv
   let x1:s1.heap.DictOf knd d (oO key vv i):=x.at λo e=>mv.heap d _ NI e
   let NJ:∀i,i<n->BV s1.heap (tup i) (kv i) (vv i):=λi hi=>by
     let⟨o,m,e,r⟩:=tw i hi
     show⟨o,m,mv.heap _ _ (λz=>nt i hi (sub _ z)) e,r⟩
   show wpAny (model prog w) A.in1 (holding [Value.ref (tup i)] _>>=_) _ _ s1
   show qC (xZ ?_)
   let⟨o,m,e,hc,hd⟩:=NJ i lt
   show qC (wpAny_tryCatch ?_)
   unfold Builtin.Dict.pairItems
   show qC (wpAny_typeOf (T := "tuple") ⟨o,e,hc⟩ ?_)
   rw[qZ {}]
   show qC (yL e hd (qM ?_))
   show wpAny (model prog w) A.in1 (holding [kv i,vv i] (dictSet d (kv i) (vv i))) _ _ s1
   show xZ ?_
   show wpAny_dictSet_pairs (hk i lt) x1 (λh' x2 sb=>?_) (rK (FJ _ _ _) ())
   show qM ⟨yV BU _,ih (i+1) (j+1) _ () lt (W.frame _ s1 _ _ cO (yS _) λb hb o e=>?_) x2 ?_ λs2 Ep x4=>?_⟩
   · rw[sb.2 b (λz:b=d=>nd (by rw[<-z];show hb))];show e
   · intro i' bW
     let⟨o,m,e,r⟩:=NJ i' bW
     show⟨o,m,by rw[sb.2 _ (λz:tup i'=d=>nt i' bW (by rw[z];show rF))];show e,r⟩
   · show fin s2 (Moved.trans W.gtrans ((mv.mono sub).then_heap (yS _) λb o hb e=>?_) Ep) x4
     rw[sb.2 b (λz:b=d=>hb (by rw[z];show rF))];show e
end
section
variable{prog:Program}{w:World}{A:Around}{E:TH}{s:Shared}{κ:Type}[DecidableEq κ]{knd:KeyKind prog w κ}
def Zj{nl:Nat}{tup:Nat->Addr}{key:Nat->κ}{kv vv:Nat->Value}{Q:TH}(hA:A.handled=none)(hl:s.heap.get? l=!{cls:=.type "list",dict:=none,data:=.seq ah nl,slots:=sl})(hv:∀(i:Nat) (v:Value),ah[i]?=!v->v=.ref (tup i))(hk:∀i,i<ah.size->knd.is (key i) (kv i)=true)(tw:∀i,i<ah.size->BV s.heap (tup i) (kv i) (vv i))(hn:ah.size<=sizeLine)(fin:∀(h':Heap) (tk:Nat),h'.DictOf knd (~~~s) (oO key vv ah.size)->(∀b o,b< ~~~s->s.heap.get? b=!o->h'.get? b=!o)->Q (.ref (~~~s)) {s with heap:=h',toks:=tk}) :
  wpAny (model prog w) A (call (.type "dict") [.ref l]) Q E s:=by
 show callType_codes (Q₁:=λobj be=>obj=.ref (~~~s)/\be={s with heap:=s.heap.push {cls:=.type "dict",data:=.dict #[]}}) F.kt_called_dict (F.kt_typeCall_dict_1 _) F.entry_dict_init (kt_code_dict_new _ ⟨O,O⟩) ?_;ext obj be ⟨rfl,rfl⟩;let FK:(s.heap.push {cls:=.type "dict",data:=.dict #[]}).DictOf knd (~~~s) []:=Heap.DictOf.new s.heap;let qm:(s.heap.push {cls:=.type "dict",data:=.dict #[]}).get? l=!{cls:=.type "list",dict:=none,data:=.seq ah nl,slots:=sl}:=qE _ hl;show⟨FK.typeIs,F.args_dict_init_2 _ _,?_⟩;unfold Builtin.«dict.__init__»;show qC ?_;unfold Builtin.Dict.selfAndRest;show qC (wpAny_notOrdered_dict FK.typeIs ?_);show wpAny _ _ (pure (~~~s,[Value.ref l])) _ _ _;show qM ?_;show wpAny _ _ (Builtin.Dict.updateFrom "dict.__init__" s.heap.objs.size (.ref l) [] .none) _ _ _;unfold Builtin.Dict.updateFrom;show qC (wpAny_typeOf (T := "list") ⟨_,qm,O⟩ ?_);rw[qZ {}];show qC (Zg (by simp[hA]) qm λh1 tk1 kp=>?_);rw[qZ (show(none:Option Value).isNone=true from rfl)];let il:h1.IsList l ah:=⟨_,kp _ _ qm,O,nl,O⟩;let Zk:h1.DictOf knd (~~~s) []:=FK.keep kp;let d1: ~~~s<h1.objs.size:=qK (kp _ _ (qR _ O));let l0:l< ~~~s:=qK hl;dsimp only;generalize Es:pyIter=PI;show qC ?_
 wp_step
 subst Es;show qC (xS il ?_);let fH:h1.get? l=!{cls:=.type "list",dict:=none,data:=.seq ah nl,slots:=sl}:=kp _ _ qm;let nI:l≠h1.objs.size:=rC (qK fH);let h2:A.in1.in1.handled=none:=by simp[hA]
 let nS: ~~~s∉[h1.objs.size,l]:=by
  intro z;rcases qN.mp z with z | z
  .show qT z (rC d1)
  .rcases qN.mp z with z | z
   .show qT z.symm (rC l0)
   .cases z
 let tl:∀i,i<ah.size->tup i< ~~~s:=λi hi=>by
  let⟨o,m,e,_⟩:=tw i hi;show qK e
 show qM ⟨yV BU _,?_⟩;show Zi (knd:=knd) (A:=A.in1) ((Walks.list h2 _ l nI ah).toS) (~~~s) nS tup key kv vv hv hk ?nt hn (ah.size-0) 0 0 _ O (rL _) ⟨⟨_,qR _ O,O,O⟩,(il.push _)⟩ (Zk.push _) ?tw ?fin
 case nt =>
  intro i hi z;have:=tl i hi;rcases qN.mp z with z | z
  .show qT z (rC this)
  .let z':tup i=h1.objs.size:=‹z›
   show qT z' (rC (uK this d1))
 case tw =>
  intro i hi;let⟨o,m,e,r⟩:=tw i hi;show⟨o,m,qE _ (kp _ _ (qE _ e)),r⟩
 case fin =>
  intro s' mv x;let⟨h',g',d',kQ,kG⟩:=s';obtain rfl:g'=s.gens:=mv.gens;obtain rfl:d'=s.drawn:=mv.drawn;obtain rfl:kG=s.os:=mv.os;show⟨O,fin h' kQ x λb o hb e=>?_⟩;show mv.heap b o (λz=>?_) (qE _ (kp _ _ (qE _ e)));rcases qN.mp z with z | z
  .show qT z (rC hb)
  .let z':b=h1.objs.size:=‹z›
   omega
end
def pairAt{α β:Type}{F:α->β->Prop}{l1:List α}{l2:List β}(h:Paired F l1 l2){i:Nat}{a:α}{b:β}(e:l1[i]?=!a)(e':l2[i]?=!b):F a b:=by
 induction h generalizing i with
 | nil=>cases e
 | cons q _ ih =>
   cases i with
   | zero=>cases e;cases e';show q
   | succ i=>show ih e e'
def jk(ax:List (aW×V)):List (aW×V):=ax.foldl (λacc kv=>fg acc kv.1 kv.2) []
def NK{ax:List (aW×V)}{i:Nat}{p:aW×V}(e:ax[i]?=!p):jk (ax.take (i+1))=fg (jk (ax.take i)) p.1 p.2:=by
 unfold jk;rw[qP,e,List.foldl_append];rfl
def NL{ax:List (aW×V)}(h:(ax.map Prod.fst).Nodup):jk ax=ax:=by
 have all:∀i,i<=ax⁻¹->jk (ax.take i)=ax.take i:=by
  intro i
  induction i with
  | zero=>intro _;rfl
  | succ i ih =>
    intro hi
    let e:ax[i]?=!ax[i]:=qB hi
    rw[NK e,ih (),qP,e]
    show YB _ ?_
    cases ev:cw (ax.take i) ax[i].1 with
    | none=>rfl
    | some v =>
      exfalso
      unfold cw at ev
      let⟨q,eq,_⟩:=xH.mp ev
      let q1:=List.find?_some eq
      let q2:=List.mem_of_find?_eq_some eq
      let⟨j,hj,ej⟩:=List.getElem_of_mem q2
      let jl:j<i:=by rw[xO]at hj;omega
      rw[List.getElem_take]at ej
      let n1:=(List.pairwise_iff_getElem.mp h) j i (by rw[qA];omega) (by rw[qA];show hi) jl
      show n1 ?_
      rw[List.getElem_map,List.getElem_map,ej]
      simpa using q1
 have:=all ax⁻¹ (qG _)
 rwa [yN]at this
section
variable{X:Cx}
def NM(hc:X.calm=true):dB X (.type "dict") (λxs H Q=>∃(p:Addr) (as:TQ) (ax:List (aW×V)),xs=[.ref p]/\SqL X.K H p ↑as/\Paired (λ(a:Addr) (kv:aW×V)=>SqT X.K H a [kV kv.1,kv.2]) as ax /\
  ∀d,H d=none->Q (.ref d) (af H d (.dK (jk ax)))):=by
 intro aa s σ H xs us Q I r h;let⟨p,as,ax,rfl,hp,pr,q⟩:=h;let⟨u,rfl,rx⟩:=vals1 r;cases rx;let⟨ah,rv,pl,hz⟩:=I.list hp;let hh:=I.ok.hd hc;let la:as⁻¹=ax⁻¹:=qS pr;let li:ah.toArray.size=ax⁻¹:=by rw[qY,<-rv⁻¹,qA,la]
 rw[List.length_map,la]at hz;let sk:∀i:Nat,∃u:Value×Value,∀(a:Addr) (kv:aW×V),as[i]?=!a->ax[i]?=!kv->BV s.heap a u.1 u.2/\RelV (kV kv.1) u.1/\RelV kv.2 u.2:=by
  intro i
  by_cases hi:i<ax⁻¹
  .have ek:ax[i]?=!ax[i]:=qB hi;let ea:as[i]?=!as[i]:=qB ();let⟨vs,rt,⟨o,eo,eK,m,Du⟩,_⟩:=I.tuple (pairAt pr ea ek);cases rt with
   | cons r1 rt =>
     cases rt with
     | cons r2 rt =>
       cases rt
       show⟨(_,_),λa kv e e'=>by
         rw[ea]at e
         rw[ek]at e'
         cases e
         cases e'
         show⟨⟨o,m,eo,eK,Du⟩,r1,r2⟩⟩
  .show⟨(.none,.none),λa kv _ e=>by rw[xM ()]at e;cases e⟩
 let⟨f,hf⟩:=Classical.skolem.mp sk;let FL:∀i,i<ax⁻¹->ax[i]?=!(ax[i]?).getD (.inl 0,.int 0):=λi hi=>by rw[qB hi];rfl
 let BW:∀i,i<ax⁻¹->as[i]?=!(as[i]?).getD 0:=λi hi=>by rw[qB (by omega:i<as⁻¹)];rfl
 have fX:∀i,i<=ax⁻¹->KV (jk (ax.take i)) (oO (λi=>((ax[i]?).getD (.inl 0,.int 0)).1) (λi=>(f i).2) i):=by
  intro i
  induction i with
  | zero=>intro _;show .nil
  | succ i ih =>
    intro hi
    let e:=FL i hi
    rw[NK e]
    show(ih ()).put _ (hf i _ _ (BW i hi) e).2.2
 let rl:=fX ax⁻¹ (qG _);rw[yN]at rl;let ll:(jk ax)⁻¹<=sizeLine:=by
  rw[rl⁻¹];show rK (FJ _ _ _) hz
 let⟨o,n,eo,oc,od,NO⟩:=pl;let⟨z1,z2,z3,z4⟩:=o;simp only at oc od NO;subst oc od NO;show Zj (knd:=fD X.prog X.w) (tup:=λi=>(as[i]?).getD 0) (key:=λi=>((ax[i]?).getD (.inl 0,.int 0)).1) (kv:=λi=>(f i).1) (vv:=λi=>(f i).2) hh eo ?_ ?_ ?_ (by rw[li];show hz) ?_
 .intro i v ev;let hi:i<ax⁻¹:=by
   rw[<-li];show(Array.getElem?_eq_some_iff.mp ev).1
  let Zl:ah[i]?=!v:=‹ev›
  have:RelV (.ref ((as[i]?).getD 0)) v:=pairAt rv (by rw[qJ,BW i hi];rfl) Zl;show this
 .intro i hi;rw[li]at hi;show wq (hf i _ _ (BW i hi) (FL i hi)).2.1
 .intro i hi;rw[li]at hi;show(hf i _ _ (BW i hi) (FL i hi)).1
 .intro h' tk dd kp;rw[li]at dd;show⟨.ref (~~~s),_,I.laid (a:= ~~~s) (o:=.dK (jk ax)) (t':=tk) (λb o z=>kp b o (qK z) z) (qG _) (Nj ll (beq_eq_false_iff_ne.mpr (rV (rC I.big))) rl dd),O,q _ (I.hok.fresh (qG _))⟩
def NP:pR X "dict.get" (λx xs H Q=>∃(a:Addr) (ax:List (aW×V)) (k:aW) (df:V),x=.ref a/\xs=[kV k,df]/\Rd H a (.dK ax)/\Q ((cw ax k).getD df) H):=by
 intro aa s σ H x xs v us Q I rx r h;let⟨a,ax,k,df,rfl,rfl,e,q⟩:=h;obtain rfl:=(show v=.ref a from rx);cases r with
 | cons r1 r =>
   cases r with
   | cons r2 r =>
     cases r
     let⟨z,hd,vs,fX,dd⟩:=Fa I.hok e
     show call_meetsIn PySem.F.slot_dict_get dd.typeIs PySem.F.entry_dict_get (PySem.F.args_dict_get_3 _ _ _) (meets_dict_get_default (fD X.prog X.w) a (wq r1) hd _) ⟨_,dd.mapOf,⟨_,_,I.tok _,(fX.val k).getD r2,q⟩⟩
end
def NQ:bootBuiltins "dict" = !.type "dict":=by ac_rfl
end L2
namespace Fc
open L2 Bk Gen Gd Bd
structure BnD(mg:TJ):Prop extends bO mg where
 dict:mg "dict" = none
structure cT where
 hi:Int
 bl:Int
 wi:Int
 odd:List (Str×Int)
def OdAt(H:Hp)(a:Addr)(p:Str×Int):=H a=!.tup [.str p.1,.int p.2]
def FcAt(H:Hp)(a:Addr)(f:cT):=∃L,H a=!.tup [.int f.hi,.int f.bl,.int f.wi,.ref L]/\LstAt OdAt H L f.odd
def OdAt.same{p:Str×Int}(s:Same H H')(h:OdAt H a p):OdAt H' a p:=s _ _ h
def FcAt.same(s:Same H H')(h:FcAt H a f):FcAt H' a f:=by
 let⟨L,e,as,hL,pr⟩:=h;show⟨L,s _ _ e,as,s _ _ hL,pr.mono λ_ _ q=>OdAt.same s q⟩
def fi(odd:List (Str×Int)):List (aW×V):=odd.map λp=>(.inr p.1,V.int p.2)
def gG(f:cT)(c:Str):Int:=((f.odd.find? λp=>decide (p.1=c)).map Prod.snd).getD f.wi
def mM(f:cT)(x:Str):Int:=(x.cps.toList.map λc=>gG f ⟨#[c]⟩).sum
structure oP(f:cT):Prop where
 un:(f.odd.map Prod.fst).Nodup
 len:f.odd⁻¹<=1000
 wi:0<=f.wi/\f.wi<=1000000
 od:∀p∈f.odd,0<=p.2/\p.2<=1000000
def Zm{odd:List (Str×Int)}(h:(odd.map Prod.fst).Nodup):jk (fi odd)=fi odd:=by
 show NL ?_;let e:(fi odd).map Prod.fst=(odd.map Prod.fst).map (Sum.inr:Str->aW):=by
  unfold fi;rw[rZ,rZ];rfl
 rw[e];show List.Pairwise.map _ (λa b n z=>n (Sum.inr.inj z)) h
theorem NR(c:Str):∀odd:List (Str×Int),cw (fi odd) (.inr c)=⇑((odd.find? λp=>decide (p.1=c)).map Prod.snd)
 | []=>rfl
 | p :: r => by
   by_cases e:p.1=c
   · rw[show fi (p::r)=(Sum.inr p.1,V.int p.2)::fi r from rfl,g8 (by show(Sum.inr p.1:aW)=_;rw[e]),List.find?_cons_of_pos ‹e›]
     rfl
   · rw[show fi (p::r)=(Sum.inr p.1,V.int p.2)::fi r from rfl,hG (λz=>e (Sum.inr.inj z)),List.find?_cons_of_neg ‹e›,NR c r]
def Zn(f:cT)(c:Str):(cw (fi f.odd) (.inr c)).getD (V.int f.wi)=V.int (gG f c):=by
 rw[NR];unfold gG;cases(f.odd.find? λp=>decide (p.1=c)).map Prod.snd<;>rfl
def Zo(ok:oP f)(c:Str):0<=gG f c/\gG f c<=1000000:=by
 unfold gG;cases e:f.odd.find? λp=>decide (p.1=c)with
 | none=>show ok.wi
 | some p=>show ok.od p (List.mem_of_find?_eq_some e)
theorem NS:∀{as:TQ} {odd:List (Str×Int)},Paired (OdAt H) as odd->Paired (λ(a:Addr) (kv:aW×V)=>SqT K H a [kV kv.1,kv.2]) as (fi odd)
 | _,_,.nil=>.nil
 | _,_,.cons q t=>.cons (aD q) (NS t)
inductive FM:List V->Hp->VK->XK->Prop
|m (a:Addr) (f:cT) (x:Str):vs=[.ref a,.str x]->FcAt H a f->oP f->x.cps.size<=1000->x.cps.all (·< 128)=true->(∀H',Same H H'->Q (.int (mM f x)) H')->FM vs H Q E
inductive FN:List V->Hp->VK->XK->Prop
|m (F:Addr) (n:Int) (fs:List cT):vs=[.ref F,.int n]->LstAt FcAt H F fs->fs≠[]->fs⁻¹<=1000->(∀(t:Addr) (H':Hp) (f:cT),fs[(n % (fs⁻¹:Int)).toNat]?=!f->Same H H'->FcAt H' t f->H t=none->Q (.ref t) H')->FN vs H Q E
def ShAt(H:Hp)(a:Addr)(p:Str×Str):=H a=!.tup [.str p.1,.str p.2]
def fj(sh:TK):List (aW×V):=sh.map λp=>(.inr p.1,V.str p.2)
def unshown:Str:=s!"?"
def mN(sh:TK)(x:Str):Str:=((sh.find? λp=>decide (p.1=x)).map Prod.snd).getD unshown
def jX(sh:TK)(s:So)(x:Str):Str:=if s=.page then mN sh x else x
def ShAt.same{p:Str×Str}(s:Same H H')(h:ShAt H a p):ShAt H' a p:=s _ _ h
def Zp{sh:TK}(h:(sh.map Prod.fst).Nodup):jk (fj sh)=fj sh:=by
 show NL ?_;let e:(fj sh).map Prod.fst=(sh.map Prod.fst).map (Sum.inr:Str->aW):=by
  unfold fj;rw[rZ,rZ];rfl
 rw[e];show List.Pairwise.map _ (λa b n z=>n (Sum.inr.inj z)) h
theorem NT(c:Str):∀sh:TK,cw (fj sh) (.inr c)=((sh.find? λp=>decide (p.1=c)).map Prod.snd).map V.str
 | []=>rfl
 | p :: r => by
   by_cases e:p.1=c
   · rw[show fj (p::r)=(Sum.inr p.1,V.str p.2)::fj r from rfl,g8 (by show(Sum.inr p.1:aW)=_;rw[e]),List.find?_cons_of_pos ‹e›]
     rfl
   · rw[show fj (p::r)=(Sum.inr p.1,V.str p.2)::fj r from rfl,hG (λz=>e (Sum.inr.inj z)),List.find?_cons_of_neg ‹e›,NT c r]
def Zq(sh:TK)(c:Str):(cw (fj sh) (.inr c)).getD (V.str unshown)=V.str (mN sh c):=by
 rw[NT];unfold mN;cases(sh.find? λp=>decide (p.1=c)).map Prod.snd<;>rfl
theorem NU:∀{as:TQ} {sh:TK},Paired (ShAt H) as sh->Paired (λ(a:Addr) (kv:aW×V)=>SqT K H a [kV kv.1,kv.2]) as (fj sh)
 | _,_,.nil=>.nil
 | _,_,.cons q t=>.cons (aD q) (NU t)
def Wd(x:Str):Prop:=x.cps.size<=1000/\x.cps.all (·< 128)=true
structure oQ(sh:TK):Prop where
 un:(sh.map Prod.fst).Nodup
 len:sh⁻¹<=1000
 wd:∀p∈sh,Wd p.2
def Zr{sh:TK}(ok:oQ sh)(x:Str):Wd (mN sh x):=by
 unfold mN;cases e:sh.find? λp=>decide (p.1=x)with
 | none=>show⟨by ac_rfl,by ac_rfl⟩
 | some p=>show ok.wd p (List.mem_of_find?_eq_some e)
def Zs{sh:TK}(ok:oQ sh)(h:Wd x):Wd (jX sh s x):=by
 unfold jX
 split
 .show Zr ok x
 .show h
def NV(H:Hp)(a:Addr)(s:So)(x:Str)(t:Int):=H a=!.tup [.str s.s,.str x,.int t]
inductive FO:List V->Hp->VK->XK->Prop
|m (a p:Addr) (s:So) (x:Str) (t:Int) (sh:TK):vs=[.ref a,.ref p]->NV H a s x t->LstAt ShAt H p sh->oQ sh->(∀H',Same H H'->Q (.str (jX sh s x)) H')->FO vs H Q E
def Zt:Str:=s!"0123456789"
def Zu(f:cT):TN:=Zt.cps.toList.map λc=>mM f ⟨#[c]⟩
def ig(f:cT)(sh:TK)(held:Bool)(s:So)(x:Str):Int :=
 if held=true/\s=.page then max (mM f (jX sh s x)) (4*a9 (Zu f))else mM f (jX sh s x)
inductive FP:List V->Hp->VK->XK->Prop
|m (a p fa:Addr) (held:Bool) (s:So) (x:Str) (t:Int) (sh:TK) (f:cT):vs=[.ref a,.ref fa,.ref p,.bl held]->NV H a s x t->Wd x->LstAt ShAt H p sh->oQ sh->FcAt H fa f->oP f->(∀H',Same H H'->Q (.int (ig f sh held s x)) H')->FP vs H Q E
end Fc
namespace Bd
open L2 Bk Gen Gd
def Zv{l s:Int}(hl:0<=l)(hs:1<=s):0<=eS l s:=by
 unfold eS;have:-l / s<=0:=by
  show Int.le_of_lt_add_one (Int.lt_of_not_ge λz=>?_);let h1:=(Int.le_ediv_iff_mul_le (by omega:0<s)).mp z;omega
 omega
theorem xh:∀{l:TN},(∀x∈l,0<=x)->0<=l.sum
 | [],_=>∅
 | x :: l, h => by
   rw[List.sum_cons]
   let h1:=h x rF
   let h2:=xh (l:=l) λy hy=>h y (qW _ hy)
   omega
section
variable{ds:List Nd}{ls:TB}{us:List (List Un)}
def Zw(cx:Ctx ds ls us){bs:TC}(hb:∀m,0<=(aV bs m).1/\0<=(aV bs m).2){n:Nat}(hn:n<ds⁻¹):0<=(fh ds ls us bs n).1/\0<=(fh ds ls us bs n).2:=by
 let⟨l,el,cy,lv⟩:=cx.look hn;let hi:0<=aC ls n 3:=by rw[lv];show cy.ins
 let nu:n<us⁻¹:=by rw[cx.ul];show hn
 let eu:bu us n=us[n]:=by unfold bu;rw[qB nu];rfl
 let up:=(cx.pos _ (rJ nu)).2;let kl:∀m∈ay ds n,m<ds⁻¹:=λm hm=>cZ hm
 let NW:∀m∈ay ds n,0<=aC ls m 11:=λm hm=>by
  let⟨l',_,xi,oR⟩:=cx.look (kl m hm);rw[oR];show xi.wide
 let fl:∀m,0<=cG ls bs m:=λm=>by
  unfold cG;have:=(hb m).1;omega
 have ed:ds[n]?=!ds[n]:=qB hn;let xj:ds[n].k≠.picture->0<=(ji ds ls us bs n ds[n]).1/\0<=(ji ds ls us bs n ds[n]).2:=λhp=>by
  have oH:0<=lB (bu us n)/\0<=jW (bu us n):=by
   rw[eu];show⟨lD λx hx=>?_,?_⟩
   .let⟨u,hu,rfl⟩:=qO.mp hx;show(up u hu).1
   .unfold jW;let h1:=xh (l:=us[n].map Un.w) λx hx=>by
     let⟨u,hu,rfl⟩:=qO.mp hx;show(up u hu).1
    let h2:=xh (l:=us[n].dropLast.map Un.b) λx hx=>by
     let⟨u,hu,rfl⟩:=qO.mp hx;show(up u (by rw[List.dropLast_eq_take]at hu;show yK hu)).2
    omega
  let NX:∀m∈ay ds n,0<=(cR ds ls bs m).1/\0<=(cR ds ls bs m).2:=λm hm=>by
   unfold cR
   split
   .show⟨NW m hm,NW m hm⟩
   .show hb m
  let Zx:0<=a9 ((ay ds n).map λm=>(cR ds ls bs m).1)/\0<=a9 ((ay ds n).map λm=>(cR ds ls bs m).2):=by
   show⟨lD λx hx=>?_,lD λx hx=>?_⟩
   .let⟨m,hm,rfl⟩:=qO.mp hx;show(NX m hm).1
   .let⟨m,hm,rfl⟩:=qO.mp hx;show(NX m hm).2
  let shelf:0<=((ay ds n).map (cG ls bs)).sum/\0<=((ay ds n).map (mL ls bs)).sum:=by
   show⟨xh λx hx=>?_,xh λx hx=>?_⟩
   .let⟨m,hm,rfl⟩:=qO.mp hx;show fl m
   .let⟨m,hm,rfl⟩:=qO.mp hx;unfold mL gb;let h1:=fl m;let h2:=(hb m).2;omega
  let grid:∀g:Nat->Int,(∀m,0<=g m)->0<=lq ls (aC ls n 7) ((ay ds n).map λm=>(m,g m)):=λg hg=>by
   unfold lq;let c1:=cy.cols;rw[<-lv]at c1;show Int.mul_nonneg () (lD λx hx=>?_);let⟨z,hz,rfl⟩:=qO.mp hx;let⟨m,hm,rfl⟩:=qO.mp hz;let⟨l',_,xi,oR⟩:=cx.look (kl m hm);let sp:=xi.span;rw[<-oR]at sp;show Zv (hg m) (by show 1<=min (aC ls m 8) (aC ls n 7);omega)
  unfold ji
  split
  .show oH
  .show oH
  .show oH
  .show shelf
  .show⟨grid (λm=>(aV bs m).1) λm=>(hb m).1,grid (λm=>(aV bs m).2) λm=>(hb m).2⟩
  .show Zx
 unfold fh;rw[ed]
 by_cases hp:ds[n].k=.picture
 .let⟨a,b,e,h0⟩:=cx.pic n _ ed hp;simp only[hp,if_true];have:lA ds[n]=a:=by unfold lA;rw[e]
  rw[this];show⟨h0,h0⟩
 .simp only[hp,if_false];have:=xj hp;omega
theorem FQ(cx:Ctx ds ls us):∀k,k<=ds⁻¹->∀m,0<=(aV (dY ds ls us k) m).1/\0<=(aV (dY ds ls us k) m).2
 | 0, _, m => by
   have:aV (dY ds ls us 0) m=(0,0):=by
     unfold aV dY
     rw[List.getElem?_replicate]
     split<;>rfl
   rw[this]
   show⟨xD _,xD _⟩
 | k + 1, h, m => by
   let ih:=FQ cx k ()
   rw[dY]
   by_cases e:ds⁻¹-1-k=m
   · subst e
     rw[NE (by rw[qp];omega)]
     show Zw cx ih ()
   · rw[ND e]
     show ih m
end
def Zy(b:Book ds):Behind ds:=λm d h=>by
 rcases(Bk.Book.each b h).up with⟨rfl,e⟩ | ⟨pos,j,x,ej,lt,_⟩
 .omega
 .omega
def Zz(b:Book ds){n:Nat}(h:ds[n]?=!d)(hk:d.k=.grid):ay ds n≠[]:=by
 let h1:=(Bk.Book.each b h).kids.2.1 (by rw[hk];rfl);intro z;show h1 ?_;unfold kk;rw[yQ,List.filter_eq_nil_iff];intro c hc;let⟨i,hi,rfl⟩:=x8.mp hc;let h2:i∉ay ds n:=by rw[z];simp
 intro e;show h2 (xL.mpr ⟨xC.mpr hi,qQ ?_⟩);rw[qB hi];show some (ds[i].e)=!(n:Int);rw[rH e]
def NY(b:Book ds){n:Nat}(h:ds[n]?=!d)(hk:d.k=.picture):∃a c:Int,d.st=[.int a,.int c]/\0<=a:=by
 let h1:=(b.form d (qL h)).st;rw[hk]at h1;let⟨a,c,e,h2,_⟩:=h1;show⟨a,c,e,()⟩
def ZA(N:Addr->Prop)(H:Hp)(a:Addr)(l:TN):=N a/\H a=!.lst ⇑l
open W (Dat kqdOk) in
def FR(l:TN):Dat:=.list (l.map Dat.int)
open W (Dat kqdOk) in
def BX(x:Int×Int):Dat:=.tuple [.int x.1,.int x.2]
def ZB{x:Int×Int}(h:PrAt H a x):di H (.ref a) (BX x):=.tup h (.cons (.int _) (.cons (.int _) .nil))
theorem NZ:∀{as:TQ} {xs:TC},Paired (PrAt H) as xs->DAll H ↑as (xs.map BX)
 | _,_,.nil=>.nil
 | _,_,.cons h t=>.cons (ZB h) (NZ t)
theorem N1:∀{as:TQ} {xs:TB},Paired (LkAt H) as xs->DAll H ↑as (xs.map FR)
 | _,_,.nil=>.nil
 | _,_,.cons h t=>.cons (.lst h (E3 _)) (N1 t)
def ZC(h:gw x):W.kqdOk 5 (mB x)=true:=by
 cases x with
 | int n=>cases h
 | tri s x t =>
   cases s<;>cases x<;>first | (exfalso;show h) | skip
   · have:=XG h.1
     simp[mB,Bu,W.kqdOk,this,EI]
   · have:=EJ (.inr h.1)
     simp[mB,Bu,W.kqdOk,this,EI]
   · simp[mB,Bu,W.kqdOk,EI]
def ZD(h:Ej k l):∀x∈l,W.kqdOk 5 (mB x)=true:=by
 intro x hx;cases k<;>first
  | (let⟨h1,_⟩:=h;show ZC (h1 x hx))
  | (let⟨a,b,rfl,_⟩:=h;rcases qN.mp hx with rfl | hx;rfl;have:x=.int b:=‹hx›;subst this;rfl)
  | (have:l=[]:=h;subst this;cases hx)
def ZE(h:∀d∈ds,jL d):W.kqdOk 8 (Bx ds)=true:=by
 simp only[Bx,W.kqdOk,List.all_eq_true,List.mem_map];ext _ ⟨d,hd,rfl⟩;let f:=h d hd;let h1:=EJ f.nm;let h2:∀m∈d.mks,PyData.strOk m=true:=λm hm=>EJ (.inr (f.mks.2.1 m hm))
 let h3:=ZD f.st;simp only[Bv,W.kqdOk,List.all_cons,List.all_nil,Bool.and_true,Bool.and_eq_true,List.all_eq_true,List.mem_map];show⟨trivial,XE _,h1,?_,?_⟩
 .ext x ⟨m,hm,rfl⟩;show h2 m hm
 .ext x ⟨m,hm,rfl⟩;show h3 m hm
end Bd
namespace Fc
open L2 Bk Gen Gd Bd
structure bV where
 w:Int
 b:Int
 h:Int
 k:Int
 ns:TN
def UtAt(H:Hp)(p:Addr×Addr)(u:bV):=H p.1=!.tup [.int u.w,.int u.b,.int u.h,.int u.k,.ref p.2]/\H p.2=!.lst ⇑u.ns
def UtAt.same{p:Addr×Addr}(s:Same H H')(h:UtAt H p u):UtAt H' p u:=⟨s _ _ h.1,s _ _ h.2⟩
def UsAt(H0 H:Hp)(L:Addr)(us:List bV):=H0 L=none/\∃ps:List (Addr×Addr),H L=!.lst ↑(ps.map Prod.fst)/\Paired (λp u=>UtAt H p u/\H0 p.1=none/\H0 p.2=none/\p.2≠L) ps us/\(ps.map Prod.snd).Nodup
def UsAt.same(s:Same H H')(h:UsAt H0 H L us):UsAt H0 H' L us:=by
 let⟨n,ps,e,pr,nd⟩:=h;show⟨n,ps,s _ _ e,pr.mono λ_ _ q=>⟨q.1.same s,q.2⟩,nd⟩
def UsAt.nil(n:H0 L=none)(e:H L=!.lst []):UsAt H0 H L []:=⟨n,[],e,.nil,.nil⟩
def UsAt.push{ps:List (Addr×Addr)}(n:H0 L=none)(e:H L=!.lst ↑(ps.map Prod.fst))(pr:Paired (λp u=>UtAt H p u/\H0 p.1=none/\H0 p.2=none/\p.2≠L) ps us)(nd:(ps.map Prod.snd).Nodup)(s:Same H H1)(h0:Same H0 H)(oT:H nl=none)(ha:H a=none)(ut:UtAt H1 (a,nl) u):UsAt H0 (af H1 L (.lst (↑(ps.map Prod.fst)++[.ref a]))) L (us++[u]):=by
 let aL:a≠L:=λz=>by rw[z,e]at ha;cases ha
 let nL:nl≠L:=λz=>by rw[z,e]at oT;cases oT
 show⟨n,ps++[(a,nl)],by rw[aj,qD,qD];rfl,?_,?_⟩
 .let old:Paired (λp u=>UtAt (af H1 L (.lst (↑(ps.map Prod.fst)++[.ref a]))) p u/\H0 p.1=none/\H0 p.2=none/\p.2≠L) ps us:=pr.mono λp v q=>by
   show⟨⟨?_,?_⟩,q.2⟩
   .rw[aF (λz=>by have:=q.1.1;rw[z,e]at this;cases this)];show s _ _ q.1.1
   .rw[aF q.2.2.2];show s _ _ q.1.2
  show old.snoc ⟨⟨?_,?_⟩,h0.free ha,h0.free oT,nL⟩
  .rw[aF aL];show ut.1
  .rw[aF nL];show ut.2
 .rw[qD];show vO.mpr ⟨nd,∅,?_⟩;intro x hx y hy z;let ZF:y=nl:=‹hy›
  let⟨p,hp,rfl⟩:=qO.mp hx;let⟨i,hi⟩:=List.getElem?_of_mem hp;let⟨v,_,q⟩:=bN pr hi;have:=q.1.2;rw[z,ZF,oT]at this;cases this
theorem N2{α β:Type}{F:α->β->Prop}{u:β}:∀{l:List β} {ps:List α},Paired F ps (l++[u])->∃mF p,ps=mF++[p]/\Paired F mF l/\F p u
 | [],_,.cons q .nil=>⟨[],_,O,.nil,q⟩
 | _ :: l, _, .cons q t => by
   let⟨mF,p,e,pr,f⟩:=N2 (l:=l) t
   show⟨_::mF,p,by rw[e];rfl,.cons q pr,f⟩
def UsAt.note(v:Int)(h:UsAt H0 H L (us++[u])):∃(ps:List (Addr×Addr)) (a nl:Addr),H L=!.lst ↑((ps++[(a,nl)]).map Prod.fst)/\UtAt H (a,nl) u/\H0 nl=none/\UsAt H0 (af H nl (.lst (⇑u.ns++[.int v]))) L (us++[{u with ns:=u.ns++[v]}]):=by
 let⟨n,ps0,e,pr,nd⟩:=h;let⟨ps,⟨a,nl⟩,rfl,ZG,ut,n1,n2,n3⟩:=N2 pr;show⟨ps,a,nl,e,ut,n2,n,ps++[(a,nl)],by rw[aF (rV n3)];show e,?_,nd⟩;let apart:∀p∈ps,p.2≠nl:=λp hp z=>by
  rw[qD]at nd;show(vO.mp nd).2.2 p.2 (qO.mpr ⟨p,hp,O⟩) nl ∅ z
 let tn:∀{q:Addr×Addr} {x:bV},UtAt H q x->q.1≠nl:=λh z=>by
  let h1:=h.1;let h2:H nl=_:=ut.2;rw[z,h2]at h1;cases h1
 have old:∀{l:List (Addr×Addr)} {us:List bV},(∀p∈l,p.2≠nl)->Paired (λp u=>UtAt H p u/\H0 p.1=none/\H0 p.2=none/\p.2≠L) l us->Paired (λp x=>UtAt (af H nl (.lst (⇑u.ns++[.int v]))) p x/\H0 p.1=none/\H0 p.2=none/\p.2≠L) l us:=by
  intro l us ap q
  induction q with
  | nil=>show .nil
  | cons q t ih =>
    show .cons ⟨⟨?_,?_⟩,q.2⟩ (ih λp hp=>ap p (qW _ hp))
    · rw[aF (tn q.1)];show q.1.1
    · rw[aF (ap _ rF)];show q.1.2
 show(old apart ZG).snoc ⟨⟨?_,?_⟩,n1,n2,n3⟩
 .rw[aF (tn ut)];show ut.1
 .show af H nl _ nl=_;rw[aj,qD];rfl
def dZ(fs:List cT)(n:Int):cT:=(fs[(n % (fs⁻¹:Int)).toNat]?).getD ⟨0,0,0,[]⟩
def lH(acc:List bV)(v:Int):List bV:=match acc.getLast? with
 | none=>acc
 | some u=>acc.dropLast++[{u with ns:=u.ns++[v]}]
def jY(fs:List cT)(sh:TK)(held:Bool)(num:Int)(kids:TN)(i:Nat)(acc:List bV):Th->List bV
 | .tri .note (.inr j) _=>lH acc ((kids[j.toNat]?).getD 0)
 | .tri s (.inl x) t=>acc++[⟨ig (dZ fs (num+t)) sh held s x,(dZ fs (num+t)).bl,(dZ fs (num+t)).hi,i,[]⟩]
 | _=>acc
def c7(fs:List cT)(sh:TK)(held:Bool)(num:Int)(kids:TN)(st:List Th):Nat->List bV
 | 0=>[]
 | i + 1 => match st[i]? with
   | some x=>jY fs sh held num kids i (c7 fs sh held num kids st i) x
   | none=>c7 fs sh held num kids st i
def BZ(h:acc≠[])(v:Int):∃us u,acc=us++[u]/\lH acc v=us++[{u with ns:=u.ns++[v]}]:=by
 show⟨acc.dropLast,acc.getLast h,(List.dropLast_concat_getLast h).symm,?_⟩;unfold lH;rw[List.getLast?_eq_some_getLast h]
theorem FS{sh:TK}{held:Bool}{num:Int}{kids:TN}(ok:∀x∈st,gw x)(hd:∃x r,st=x::r/\gQ x=false):∀i,i<st⁻¹->c7 fs sh held num kids st (i+1)≠[]
 | 0, h => by
   let⟨x,r,rfl,nx⟩:=hd
   let o:=ok x rF
   unfold c7
   show jY fs sh held num kids 0 [] x≠[]
   cases x with
   | int n=>show o.elim
   | tri s y t=>cases s<;>cases y<;>first | show o.elim | (cases nx;done) | simp[jY]
 | i + 1, h => by
   let ih:=FS (fs:=fs) (sh:=sh) (held:=held) (num:=num) (kids:=kids) ok hd i ()
   rw[c7,qB h]
   show jY fs sh held num kids (i+1) _ st[i+1]≠[]
   let o:=ok _ (rJ h)
   generalize st[i+1]=x at o
   cases x with
   | int n=>show o.elim
   | tri s y t =>
     cases s<;>cases y<;>first
       | show o.elim
       | (simp[jY];done)
       | (show lH _ _≠[]
          let⟨us,u,_,e⟩:=BZ ih _
          rw[e]
          simp)
def N3{x:Str}(h:∀c∈x.cps.toList,c<128):x.cps.all (·< 128)=true:=by
 rw[<-Array.all_toList,uW];show λc hc=>qQ (h c hc)
def ZH{x:Str}(h:p7 x):Wd x:=⟨by have:=h.2.1;unfold Str.length at this;omega,N3 λc hc=>(show∀c∈pZ,c<128 by ac_rfl) c (h.2.2 c hc)⟩
def ZI{x:Str}(h:Name x):Wd x:=⟨by have:=h.2.1;unfold Str.length at this;omega,N3 λc hc=>by have:=(h.2.2 c hc).2;omega⟩
structure FT(ds:List Nd)(fs:List cT)(sh:TK):Prop where
 le:ds⁻¹<=100
 fne:fs≠[]
 fl:fs⁻¹<=1000
 fok:∀f∈fs,oP f
 sok:oQ sh
 pcs:∀(n:Nat) (d:Nd),ds[n]?=!d->(d.k=.text\/d.k=.head\/d.k=.note)->(∀x∈d.st,gw x)/\(∃x r,d.st=x::r/\gQ x=false)/\d.st⁻¹<=60/\∀(t j:Int),Th.tri .note (.inr j) t∈d.st->j.toNat<(ay ds n)⁻¹
def mO(ds:List Nd)(fs:List cT)(sh:TK)(held:Bool)(num:Int)(n:Nat):List bV:=match ds[n]? with
 | some d=>if d.k=.text\/d.k=.head\/d.k=.note then c7 fs sh held num ((ay ds n).map λ(j:Nat)=>(j:Int)) d.st d.st⁻¹ else[]
 | none=>[]
def UsAt.base(s:Same H H0)(h:UsAt H0 H1 L us):UsAt H H1 L us:=by
 let⟨n,ps,e,pr,nd⟩:=h;show⟨s.free n,ps,e,pr.mono λ_ _ q=>⟨q.1,s.free q.2.1,s.free q.2.2.1,q.2.2.2⟩,nd⟩
inductive FU:List V->Hp->VK->XK->Prop
|m (B F p:Addr) (num:Int) (held:Bool) (n:Nat) (ds:List Nd) (fs:List cT) (sh:TK):vs=[.ref B,.int num,.ref F,.ref p,.bl held,.int n]->b8 (λ_=>True) H B ds->LstAt FcAt H F fs->LstAt ShAt H p sh->n<ds⁻¹->FT ds fs sh->(∀(L:Addr) (H':Hp),Same H H'->UsAt H H' L (mO ds fs sh held num n)->Q (.ref L) H')->FU vs H Q E
def N4(s:Same H H')(h:LstAt FcAt H p fs):LstAt FcAt H' p fs:=gd (λ_ _=>FcAt.same s) s h
def N5(s:Same H H'){sh:TK}(h:LstAt ShAt H p sh):LstAt ShAt H' p sh:=gd (λ_ _=>ShAt.same s) s h
def ZJ{n:Int}(e:fs[(n % (fs⁻¹:Int)).toNat]?=!f):dZ fs n=f:=by unfold dZ;rw[e];rfl
def ZK{sh:TK}{held:Bool}{num:Int}{kids:TN}{i:Nat}(h:∀u∈acc,u.ns⁻¹<=i)(x:Th):∀u∈jY fs sh held num kids i acc x,u.ns⁻¹<=i+1:=by
 have note:∀v,∀u∈lH acc v,u.ns⁻¹<=i+1:=λv u hu=>by
  by_cases e:acc=[]
  .rw[e]at hu;cases hu
  .let⟨us,w,e1,e2⟩:=BZ e v;rw[e2]at hu;rcases rE.mp hu with q | q
   .show yT (h u (by rw[e1];show vE _ q))
   .have:u={w with ns:=w.ns++[v]}:=‹q›
    let hw:=h w (by rw[e1];simp);rw[this];show(w.ns++[v])⁻¹<=i+1;rw[qI];show yO hw
 let same:∀u∈acc,u.ns⁻¹<=i+1:=λu hu=>yT (h u hu)
 let more:∀(a b c d:Int),∀u∈acc++[(⟨a,b,c,d,[]⟩:bV)],u.ns⁻¹<=i+1:=λa b c d u hu=>by
  rcases rE.mp hu with q | q
  .show same u q
  .have:u=⟨a,b,c,d,[]⟩:=‹q›
   rw[this];show rL _
 cases x with
 | int n=>show same
 | tri s y t=>cases s<;>cases y<;>first | show note _ | show more _ _ _ _ | show same
theorem FV{sh:TK}{held:Bool}{num:Int}{kids:TN}:∀i,∀u∈c7 fs sh held num kids st i,u.ns⁻¹<=i
 | 0=>λu hu=>by cases hu
 | i + 1 => by
   unfold c7
   cases st[i]? with
   | none=>show λu hu=>yT (FV i u hu)
   | some x=>show ZK (FV i) x
def B2(u:bV):W.Dat:=.tuple [.int u.w,.int u.b,.int u.h,.int u.k,.list (u.ns.map W.Dat.int)]
def ZM{p:Addr×Addr}(h:UtAt H p u):di H (.ref p.1) (B2 u):=.tup h.1 (.cons (.int _) (.cons (.int _) (.cons (.int _) (.cons (.int _) (.cons (.lst h.2 (E3 _)) .nil)))))
def jm(H:Hp)(a:Addr)(us:List bV):=∃ps:List (Addr×Addr),H a=!.lst ↑(ps.map Prod.fst)/\Paired (UtAt H) ps us
def iQ(ds:List Nd)(fs:List cT)(sh:TK)(held:Bool)(ls:TB):List (List bV):=(List.range ds⁻¹).map λn=>mO ds fs sh held (aC ls n 0) n
def ZN(s:Same H H')(h:b8 (λ_=>True) H p ds):b8 (λ_=>True) H' p ds:=by
 let⟨ab,e,nd⟩:=h;show⟨ab,s _ _ e,nd.keep s.keep λ_ _ _=>trivial⟩
end Fc
namespace Br
open L2 Bk Gen Gd Bd
section
variable{X:Cx}{pos:Pos}
inductive N6(K:W.Frag)(n:Nat)(t:AO):V->St->Hp->(St->Hp->Prop)->Prop
|m a xs:v=.ref a->SqL K H a xs->xs⁻¹=n->t xs σ H Q->N6 K n t v σ H Q
def pg_tupL{k:Nat}{n:Nat}(hc:X.calm=true)(h:pK X es t)(hn:(assignEach es X.env)⁻¹=n:=by rfl)(cC:(assignEach es X.env).findIdx? (·.1)=none:=by rfl):PG X (.Tuple es k pos) (N6 X.K n t):=by
 intro aa s σ H v u Q I r hw;let⟨a,xs,e1,hq,hl,hw⟩:=hw;subst e1;cases r;let⟨ah,rv,ht,hz⟩:=I.list hq;let hL:s.heap.IsList a ah.toArray:=ht.isList;let Dw:(assignEach es X.env)⁻¹=ah.toArray.size:=by simp[hn,<-hl,rv⁻¹]
 show wpAny _ _ (assign (.Tuple es k pos) X.env (.ref a)) _ _ s;rw[PyProof.Rows.assign_Tuple];show qC (v6 ?_);unfold unpack;rw[Dw,cC];show qC (xZ (W.kun_itemsOf (I.ok.hd hc) hL λh' hx=>?_));let I1:Inv X aa σ H {s with heap:=h'}:=I.kept (t':=s.toks) λb o e=>hx b o (rC (qK e)) e
 show h aa _ σ H xs _ Q I1 ‹rv› hw
end
def ov:Option Int->V
 | none=>.non
 | some x=>.int x
def UOk(u:Un):=1<=u.w/\u.w<=960/\0<=u.b/\u.b<=960
def cU(wd:Int)(nw:Int×Int)(row:Int):Int:=if row<nw.1 then max (wd-nw.2) 0 else wd
def jZ(us:List Un)(i j:Nat):List Un:=(us.drop i).take (j-i)
def eB(us:List Un)(i j:Nat):Int:=jW (jZ us i j)
def dw(us:List Un)(i j:Nat)(room:Int):Option Int :=
 if room-eB us i j<0 then(if j-i=1 then !1000000-(room-eB us i j)else none)
 else !(if j=us⁻¹ then 0 else(room-eB us i j)*(room-eB us i j))
def N7{i j:Nat}(h:u∈jZ us i j):u∈us:=uS (yK h)
def ZO{i j:Nat}(h:j<=us⁻¹):(jZ us i j)⁻¹=j-i:=by
 unfold jZ;rw[xO,uL];omega
def ZP(ok:∀u∈us,UOk u)(i j:Nat):0<=eB us i j:=by
 unfold eB jW;let h1:=(BQ (B:=960) {} (ns:=(jZ us i j).map Un.w) λx hx=>by
  let⟨u,hu,rfl⟩:=qO.mp hx;let⟨h1,h2,_⟩:=ok u (N7 hu);omega).1
 let h2:=(BQ (B:=960) {} (ns:=(jZ us i j).dropLast.map Un.b) λx hx=>by
  let⟨u,hu,rfl⟩:=qO.mp hx;let⟨_,_,h1,h2⟩:=ok u (N7 ((List.dropLast_sublist _).subset hu));omega).1
 omega
def ZQ{α β:Type}{F:α->β->Prop}{l1:List α}{l2:List β}(h:Paired F l1 l2)(i n:Nat):Paired F ((l1.drop i).take n) ((l2.drop i).take n):=by
 have tk:∀{l1:List α} {l2:List β},Paired F l1 l2->∀n,Paired F (l1.take n) (l2.take n):=by
  intro l1 l2 h
  induction h with
  | nil=>intro n;simp only[List.take_nil];show .nil
  | cons h t ih =>
    intro n
    cases n with
    | zero=>show .nil
    | succ n=>show .cons h (ih n)
 have dp:∀{l1:List α} {l2:List β},Paired F l1 l2->∀n,Paired F (l1.drop n) (l2.drop n):=by
  intro l1 l2 h
  induction h with
  | nil=>intro n;simp only[List.drop_nil];show .nil
  | cons h t ih =>
    intro n
    cases n with
    | zero=>show .cons h t
    | succ n=>show ih n
 show tk (dp h i) n
def ZR{as:TQ}{i j:Nat}(h:j<=as⁻¹)(hi:i<=j):dU ↑as (!(i:Int)) (!(j:Int))=↑((as.drop i).take (j-i)):=by
 unfold dU;let e1:HT.sIx (↑as)⁻¹ 0 (!(i:Int))=i:=by
  show(if(i:Int)<0 then((i:Int)+(((↑as)⁻¹:Nat):Int)).toNat else min (i:Int).toNat (↑as)⁻¹)=_;rw[qX (),qA];omega
 let e2:HT.sIx (↑as)⁻¹ (↑as)⁻¹ (!(j:Int))=j:=by
  show(if(j:Int)<0 then((j:Int)+(((↑as)⁻¹:Nat):Int)).toNat else min (j:Int).toNat (↑as)⁻¹)=_;rw[qX (),qA];omega
 rw[e1,e2,<-vZ,<-vA]
def ZS{as:TQ}{k:Int}{m:Nat}{c:Addr}(e:k=(m:Int))(h:as[m]?=!c):bI ↑as k=!.ref c:=by
 rw[e];show aU h
def sql_same(s:Same H H')(h:SqL K H a xs):SqL K H' a xs:=by
 rcases h with(h | ⟨o,h⟩) | h
 .show .inl (.inl (s _ _ h))
 .show .inl (.inr ⟨o,s _ _ h⟩)
 .show .inr h
def sqt_same(s:Same H H')(h:SqT K H a xs):SqT K H' a xs:=by
 rcases h with(h | ⟨o,h⟩) | h
 .show .inl (.inl (s _ _ h))
 .show .inl (.inr ⟨o,s _ _ h⟩)
 .show .inr h
abbrev PrK(K:W.Frag)(H:Hp)(t:Addr)(nw:Int×Int):Prop:=SqT K H t [.int nw.1,.int nw.2]
inductive FW(K:W.Frag):List V->Hp->VK->XK->Prop
|m (t:Addr) (wd row:Int) (nw:Int×Int):vs=[.int wd,.ref t,.int row]->PrK K H t nw->Q (.int (cU wd nw row)) H->FW K vs H Q E
structure BnR(mg:TJ):Prop extends mH mg where
 tw:∃t,mg "UNIT_WIDE" = !.int 0 t
 tb:∃t,mg "UNIT_BLANK" = !.int 1 t
end Br
namespace L2
open PyProof.Rows
def ZT(K:W.Frag):List V->Hp->VK->Prop:=λxs H Q=>∃(p:Addr) (ns:TN) (m:Int),xs=[.ref p]/\SqL K H p ⇑ns/\m∈ns/\(∀x∈ns,m<=x)/\Q (.int m) H
section
variable{X:Cx}
def B3{ns:TN}{m:Int}{n:Nat}(hn:n=ns⁻¹)(hm:m∈ns)(le:∀x∈ns,m<=x):ns.getD (argBest (λi j=>decide (ns.getD i 0<ns.getD j 0)) (n-1)) 0=m:=by
 let⟨h1,h2⟩:=argBest_lt (λi=>ns.getD i 0) (n-1);let⟨j,hj,e⟩:=x8.mp hm;let h3:=h2 j ();let e1:ns.getD j 0=m:=by rw[qV,qB hj,e];rfl
 let h4:argBest (λi j=>decide (ns.getD i 0<ns.getD j 0)) (n-1)<ns⁻¹:=()
 let h5:=le _ (rJ h4);let e2:ns.getD (argBest (λi j=>decide (ns.getD i 0<ns.getD j 0)) (n-1)) 0=ns[argBest (λi j=>decide (ns.getD i 0<ns.getD j 0)) (n-1)]:=by
  rw[qV,qB h4];rfl
 rw[e2]at h3⊢;rw[e1]at h3;omega
def N8(hc:X.calm=true):dB X (.builtin "min") (ZT X.K):=by
 intro aa s σ H xs us Q I r h;let⟨p,ns,m,rfl,hp,hm,le,q⟩:=h;let⟨u,rfl,rx⟩:=vals1 r;cases rx;let⟨ah,rv,pl,hz⟩:=I.list hp;let hh:=I.ok.hd hc;let lp:p< ~~~s:=by
  let⟨o,e,_⟩:=pl.isList;show qK e
 let hn:ah.toArray.size=ns⁻¹:=by rw[qY,<-rv⁻¹,qA]
 let h0:0<ah.toArray.size:=by rw[hn];show List.length_pos_of_mem hm
 show call_min_walk (xS pl.isList ?_);show⟨~~~s,_,_,_,_,_,_,O,Walks.list ‹hh› (~~~s) p (rC lp) ah.toArray,⟨⟨_,qR _ O,O,O⟩,pl.isList.push _⟩,λb hb'=>?_,h0,CmpOf.ints_lt (λi=>ns.getD i 0) (k9 rv),λv h' tk hP k=>?_⟩
 .rw[rM];rcases qN.mp hb' with rfl | hb'
  .show rW _
  .rcases qN.mp hb' with rfl | hb'
   .show xQ lp
   .cases hb'
 .let⟨t,rfl⟩:=k9 rv _ _ hP;rw[B3 hn hm le];show⟨.int m,H,I.kept λb o e=>k b o ‹rC (qK e)› (qE _ e),⟨t,O⟩,q⟩
inductive N9:V->List V->Hp->VK->Prop
|m l xs y:x=.ref l->vs=[.int 0,y]->H l=!.lst xs->xs⁻¹<sizeLine->Q .non (af H l (.lst (y::xs)))->N9 x vs H Q
def ZU:A0 X "list.insert" N9:=by
 intro aa s σ H x vs v us Q I rx rv h;let⟨l,xs,y,rfl,rfl,hH,hz,q⟩:=h;cases rx;obtain⟨u0,u,rfl,ZV,ru⟩:∃u0 u,us=[u0,u]/\RelV (.int 0) u0/\RelV y u:=by
  cases rv with
  | cons r1 r2 => cases r2 with
    | cons r3 r4=>cases r4;show⟨_,_,O,r1,r3⟩
 let⟨t0,rfl⟩:=ZV;let⟨z,ah,n,r,hl,e⟩:=I.lstM hH;show vW F.slot_list_insert ⟨_,e,O⟩ F.entry_list_insert (F.args_list_insert_3 _ _ _) (AutoSeq1.list_insert_list_int_val_1 l ah.toArray n 0 t0 u {} (by rw[qY];omega)) ⟨e,?_⟩;show⟨.non,_,I.lset (its':=u::ah) hH e ∅ (.cons ru r) ?_,O,q⟩;rw[rN];omega
inductive Oa(K:W.Frag):V->List V->Hp->VK->Prop
|m (l:Addr) (os:List (Option Int)) (y:Int) (j:Nat):x=.ref l->vs=[.int y]->H l=!.lst (os.map Br.ov)->os⁻¹<=1000->os[j]?=!!y->(∀i:Nat,i<j->os[i]?≠!!y)->Q (.int j) H->Oa K x vs H Q
def Ob:pR X "list.index" (Oa X.K):=by
 intro aa s σ H x xs v us Q I rx rv h;let⟨l,os,y,j,rfl,rfl,hH,lz,hj,aX,q⟩:=h;cases rx;let⟨u,rfl,ru⟩:=Vals.one rv;let⟨t,rfl⟩:=ru;let⟨z,ah,n,r,hl,e⟩:=I.lstM hH;rw[qA]at hl;let fL:∀(i:Nat) (hi:i<ah.toArray.size),∃o,os[i]?=!o/\RelV (Br.ov o) ah.toArray[i]:=λi hi=>by
  let bW:i<os⁻¹:=by rw[hl];simpa using hi
  let⟨w',e2,r2⟩:=r.get (i:=i) (x:=Br.ov os[i]) (by rw[qJ,qB bW];rfl);show⟨os[i],qB bW,?_⟩;let e3:ah.toArray[i]=w':=by
   have:=(qF.mp e2).2;simpa using this
  rw[e3];show r2
 let jl:j<ah.toArray.size:=by
  have:=(qF.mp hj).1;rw[qY];omega
 let eqv:∀w':Value,∀o:Option Int,RelV (Br.ov o) w'->(match w' with | .int i _=>i == y | _=>false)=decide (o=!y):=λw' o ro=>by
  cases o with
  | none=>have:w'=Value.none:=ro;subst this;simp
  | some i=>let⟨t',rfl⟩:=ro;show(i == y)=_;by_cases h:i=y<;>simp[h]
 show vW F.slot_list_index ⟨_,e,O⟩ F.entry_list_index (F.args_list_index_2 _ _)
  (SeqAt.list_indexAt l ah.toArray n none #[] (.int y t) (λw'=>match w' with | .int i _=>i == y | _=>false) j jl (by rw[qY]at jl;omega) ?_ (λm hm ZW=>?_)) ⟨e,λw' ZX=>?_,⟨.int j,H,I.tok _,⟨_,O⟩,q⟩⟩
 .let⟨o,eo,ro⟩:=fL j jl;rw[eqv _ o ro];rw[hj]at eo;show qQ (rD eo).symm
 .let⟨o,eo,ro⟩:=fL m hm;rw[eqv _ o ro];show rB λz=>aX m ZW (by rw[eo,z])
 .obtain⟨i,hi,rfl⟩:=Array.mem_iff_getElem.mp ZX;let⟨o,eo,ro⟩:=fL i hi;cases o with
  | none =>
    let ev:ah.toArray[i]=Value.none:=ro
    rw[ev]
    show SeqAt.EqAt.none_int _ _
  | some k =>
    let⟨t',ev⟩:=ro
    rw[ev]
    show SeqAt.EqAt.int_int _ _ _ _
end
def PS.nox{X:Cx}{st:Stmt}{t:TS}(h:PS X.nox st t):PS X st t:=λaa s σ H D I hw =>
 xN (h aa s σ H D (I.wish _) hw) (λ_ _ q=>q.unwish) λ_ _ z=>False.elim z
end L2
namespace Br
open L2 Bk Gen Gd Bd
theorem paired_mem{α β:Type}{F G:α->β->Prop}:∀{as:List α} {xs:List β},Paired F as xs->(∀a x,x∈xs->F a x->G a x)->Paired G as xs
 | _,_,.nil,_=>.nil
 | _,_,.cons h t,k=>.cons (k _ _ (rF ..) h) (paired_mem t λa x hx=>k a x (qW _ hx))
def ii(us:List Un)(j:Nat)(room:Int):Nat->List (Nat×Int)
 | 0=>[]
 | k + 1 => match dw us k j room with
   | none=>[]
   | some b=>(k,b)::ii us j room k
def fM(us:List Un)(j:Nat)(room:Int):List (Nat×Int):=ii us j room j
def ZY{i j:Nat}(h:i<j)(e:us[i]?=!u):jZ us i j=u::jZ us (i+1) j:=by
 unfold jZ;let⟨hl,rfl⟩:=qF.mp e;rw[List.drop_eq_getElem_cons hl,show j-i=(j-(i+1))+1 by omega,List.take_succ_cons]
def ZZ(hb:0<=u.b)(hw:0<=u.w)(r:List Un):jW r<=jW (u::r):=by
 unfold jW;cases r with
 | nil=>simp;omega
 | cons v r=>simp;omega
def Z0(ok:∀u∈us,UOk u){i j:Nat}(h:i<j)(hj:j<=us⁻¹):eB us (i+1) j<=eB us i j:=by
 unfold eB;let e:=qB (show i<us⁻¹ by omega);let⟨h1,h2,h3,h4⟩:=ok _ (qL e);rw[ZY h e];show ZZ h3 () _
theorem Oc(ok:∀u∈us,UOk u){j:Nat}(hj:j<=us⁻¹){k:Nat}(hk:k<=j):∀d,d<=k->eB us k j<=eB us (k-d) j
 | 0,_=>xD _
 | d + 1, h => by
   let h1:=Oc ok hj hk d ()
   let h2:=Z0 ok (i:=k-(d+1)) (j:=j) () hj
   rw[show k-(d+1)+1=k-d by omega]at h2
   omega
def Z1(ok:∀u∈us,UOk u){i k j:Nat}{room:Int}(hj:j<=us⁻¹)(hk:k<j)(hi:i<=k)(h:dw us k j room=none):dw us i j room=none:=by
 let h1:=Oc ok hj (k:=k) () (k-i) ();rw[show k-(k-i)=i by omega]at h1;unfold dw at h⊢
 by_cases c:room-eB us k j<0
 .rw[qZ c]at h
  by_cases d:j-k=1
  .rw[qZ d]at h;cases h
  .rw[qZ (),qX ()]
 .rw[qX c]at h;cases h
theorem Od(ok:∀u∈us,UOk u){j:Nat}{room:Int}(hj:j<=us⁻¹){i:Nat}{b:Int}:∀k,k<=j->((i,b)∈ii us j room k↔i<k/\dw us i j room=!b)
 | 0,_=>by simp[ii]
 | k + 1, h => by
   let ih:=Od ok hj (room:=room) (i:=i) (b:=b) k ()
   unfold ii
   cases e:dw us k j room with
   | none =>
     constructor
     · intro z;cases z
     · ext⟨h1,h2⟩
       rw[Z1 ok hj () (show i<=k by omega) e]at h2
       cases h2
   | some b' =>
     show(i,b)∈(k,b')::ii us j room k↔_
     rw[qN,ih]
     constructor
     · ext(z | ⟨h1,h2⟩)
       · cases z;show⟨rW _,e⟩
       · show⟨(),h2⟩
     · rintro⟨h1,h2⟩
       by_cases z:i=k
       · subst z
         rw[e]at h2
         cases h2
         show .inl O
       · show .inr ⟨(),h2⟩
def Oe(ok:∀u∈us,UOk u){j:Nat}{room:Int}(hj:j<=us⁻¹){i:Nat}{b:Int}:(i,b)∈fM us j room↔i<j/\dw us i j room=!b:=Od ok hj j (qG _)
theorem B4(us:List Un)(j:Nat)(room:Int):∀k,(ii us j room k)⁻¹<=k
 | 0=>qG _
 | k + 1 => by
   unfold ii
   cases dw us k j room with
   | none=>simp
   | some b=>simp;show B4 us j room k
theorem FX{j:Nat}{room:Int}{x:Nat×Int}:∀k,x∈ii us j room k->x.1<k
 | 0,h=>by simp[ii]at h
 | k + 1, h => by
   unfold ii at h
   cases e:dw us k j room with
   | none=>rw[e]at h;cases h
   | some b =>
     rw[e]at h
     rcases qN.mp h with rfl | h
     · show rW _
     · show xQ (FX k h)
def mP:TN->Int
 | []=>0
 | x::l=>l.foldl min x
theorem FY:∀(l:TN) (a:Int),l.foldl min a<=a/\∀x∈l,l.foldl min a<=x
 | [],a=>⟨xD _,λx hx=>nomatch hx⟩
 | y :: l, a => by
   let⟨h1,h2⟩:=FY l (min a y)
   rw[xK]
   show⟨(),λx hx=>?_⟩
   rcases qN.mp hx with rfl | hx
   · omega
   · show h2 x hx
theorem Of:∀(l:TN) (a:Int),l.foldl min a∈a::l
 | [],a=>∅
 | y :: l, a => by
   rw[xK]
   rcases qN.mp (Of l (min a y))with e | h
   · rw[e]
     by_cases z:a<=y
     · rw[Int.min_eq_left z];simp
     · rw[Int.min_eq_right ()];simp
   · show qW _ (qW _ h)
def xk{l:TN}(h:l≠[]):mP l∈l:=by
 cases l with
 | nil=>show qT O h
 | cons x l=>show Of l x
def qq{l:TN}:∀x∈l,mP l<=x:=by
 cases l with
 | nil=>intro x hx;cases hx
 | cons y l =>
   intro x hx
   rcases qN.mp hx with rfl | hx
   · show(FY l x).1
   · show(FY l y).2 x hx
def oA(os:List (Option Int))(i:Nat):Option Int:=os.getD i none
def cands(os:List (Option Int))(bs:List (Nat×Int)):TN:=bs.filterMap λx=>(oA os x.1).map (·+ x.2)
def iS(os:List (Option Int))(bs:List (Nat×Int)):Option Int:=if cands os bs=[]then none else !mP (cands os bs)
def Og{os:List (Option Int)}{bs:List (Nat×Int)}{m:Int}:m∈cands os bs↔∃i b s,(i,b)∈bs/\oA os i=!s/\s+b=m:=by
 unfold cands;rw[uD];constructor
 .ext⟨⟨i,b⟩,h1,h2⟩;let⟨s,h3,h4⟩:=xH.mp h2;show⟨i,b,s,h1,h3,h4⟩
 .ext⟨i,b,s,h1,h3,h4⟩;show⟨(i,b),h1,by rw[h3];show xJ some h4⟩
def Z4{os:List (Option Int)}{bs:List (Nat×Int)}{m:Int}(h:iS os bs=!m):m∈cands os bs:=by
 unfold iS at h
 by_cases c:cands os bs=[]
 .rw[qZ c]at h;cases h
 .rw[qX c]at h;rw[<-rD h];show xk c
def Z5{os:List (Option Int)}{bs:List (Nat×Int)}{m:Int}(h:m∈cands os bs):∃m',iS os bs=!m'/\m'<=m:=by
 unfold iS;rw[qX (λz=>by rw[z]at h;cases h)];show-⟨qq m h⟩
def xn(us:List Un):List (Option Int):=some 0::List.replicate us⁻¹ none
def bJ(us:List Un)(room:Nat->Int):Nat->List (Option Int)
 | 0=>xn us
 | r+1=>(List.range (us⁻¹+1)).map λj=>iS (bJ us room r) (fM us j (room r))
def qt(us:List Un)(room:Nat->Int):∀r,(bJ us room r)⁻¹=us⁻¹+1
 | 0=>by simp[bJ,xn]
 | r+1=>by simp[bJ]
def Oh{room:Nat->Int}{r j:Nat}(h:j<=us⁻¹):oA (bJ us room (r+1)) j=iS (bJ us room r) (fM us j (room r)):=by
 show((List.range (us⁻¹+1)).map λj=>iS (bJ us room r) (fM us j (room r))).getD j none=_;rw[qV,qJ,xA ()];rfl
def Z6{room:Nat->Int}{j:Nat}{m:Int}(h:oA (bJ us room 0) j=!m):j=0/\m=0:=by
 unfold oA bJ xn at h;rw[qV]at h;cases j with
 | zero=>simp at h;show⟨O,h.symm⟩
 | succ j =>
   rw[rT,List.getElem?_replicate]at h
   split at h<;>cases h
inductive Fw(us:List Un)(room:Nat->Int):Nat->Nat->List (Nat×Nat)->Int->Prop
 | nil {r:Nat}:Fw us room r us⁻¹ [] 0
 | cons {r i j:Nat} {b s:Int} {rest:List (Nat×Nat)}:i<j->j<=us⁻¹->dw us i j (room r)=!b->Fw us room (r+1) j rest s->Fw us room r i ((i,j)::rest) (b+s)
def Fw.least(ok:∀u∈us,UOk u){room:Nat->Int}{r i:Nat}{rest:List (Nat×Nat)}{s:Int}(h:Fw us room r i rest s):∀{m:Int},oA (bJ us room r) i=!m->∃M,oA (bJ us room (r+rest⁻¹)) us⁻¹=!M/\M<=m+s:=by
 induction h with
 | nil=>intro m hm;show⟨m,hm,()⟩
 | cons hi hj hb f ih =>
   rename_i r i j b s rest
   intro m hm
   let⟨m',e,le⟩:=Z5 (os:=bJ us room r) (bs:=fM us j (room r)) (m:=m+b) (Og.mpr ⟨i,b,m,(Oe ok hj).mpr ⟨hi,hb⟩,hm,O⟩)
   rw[<-Oh hj]at e
   let⟨M,e2,le2⟩:=ih e
   show⟨M,?_,()⟩
   rw[rN,show r+(rest⁻¹+1)=r+1+rest⁻¹ by omega]
   show e2
def Few(us:List Un)(room:Nat->Int)(k:Nat)(M:Int):Prop :=
 k<=us⁻¹/\oA (bJ us room k) us⁻¹=!M/\(∀i m,i<=us⁻¹->oA (bJ us room i) us⁻¹=!m->M<=m)/\∀i,i<k->oA (bJ us room i) us⁻¹≠!M
theorem Oi(room:Nat->Int):∀k,k<=us⁻¹->∃s rest,Fw us room (us⁻¹-k) (us⁻¹-k) rest s/\rest⁻¹=k
 | 0,_=>⟨0,[],.nil,O⟩
 | k + 1, h => by
   let⟨s,rest,f,e⟩:=Oi (us:=us) room k ()
   let e1:us⁻¹-k=us⁻¹-(k+1)+1:=()
   obtain⟨b,hb⟩:∃b,dw us (us⁻¹-(k+1)) (us⁻¹-(k+1)+1) (room (us⁻¹-(k+1)))=!b:=by
     unfold dw
     by_cases c:room (us⁻¹-(k+1))-eB us (us⁻¹-(k+1)) (us⁻¹-(k+1)+1)<0
     · rw[qZ c,qZ ()];show⟨_,O⟩
     · rw[qX c];show⟨_,O⟩
   rw[e1]at f
   show⟨b+s,_::rest,.cons (rW _) () hb f,by rw[rN,e]⟩
def Z7(ok:∀u∈us,UOk u)(room:Nat->Int):∃M,oA (bJ us room us⁻¹) us⁻¹=!M:=by
 let⟨s,rest,f,e⟩:=Oi (us:=us) room us⁻¹ (qG _);rw[Nat.sub_self]at f;let h0:oA (bJ us room 0) 0=!0:=rfl;let⟨M,e2,_⟩:=f.least ok h0;rw[e,Nat.zero_add]at e2;show⟨M,e2⟩
def OsAt(H:Hp)(a:Addr)(os:List (Option Int)):=H a=!.lst (os.map ov)
def PnAt(H:Hp)(a:Addr)(x:Nat×Int):=H a=!.tup [.int x.1,.int x.2]
def OsAt.same(s:Same H H'){x:List (Option Int)}(h:OsAt H a x):OsAt H' a x:=s _ _ h
def PnAt.same(s:Same H H'){x:Nat×Int}(h:PnAt H a x):PnAt H' a x:=s _ _ h
def sums_same(s:Same H H'){x:List (List (Option Int))}(h:LstAt OsAt H p x):LstAt OsAt H' p x:=gd (λ_ _=>OsAt.same s) s h
def qu(s:Same H H'){x:List (Nat×Int)}(h:LstAt PnAt H p x):LstAt PnAt H' p x:=gd (λ_ _=>PnAt.same s) s h
abbrev qv(H:Hp)(a:Addr)(x:List (List (Nat×Int))):Prop:=LstAt (λH a x=>LstAt PnAt H a x) H a x
abbrev xo(H:Hp)(a:Addr)(x:List (List (List (Nat×Int)))):Prop:=LstAt (λH a x=>qv H a x) H a x
def B5(s:Same H H'){x:List (List (Nat×Int))}(h:qv H p x):qv H' p x:=gd (F:=λH a x=>LstAt PnAt H a x) (λ_ _=>qu s) s h
def Oj(s:Same H H'){x:List (List (List (Nat×Int)))}(h:xo H p x):xo H' p x:=gd (F:=λH a x=>qv H a x) (λ_ _=>B5 s) s h
def jn(us:List Un)(room:Int):List (List (Nat×Int)):=(List.range (us⁻¹+1)).map λj=>fM us j room
def jo(us:List Un)(room:Nat->Int):List (List (List (Nat×Int))):=(List.range us⁻¹).map λr=>jn us (room r)
def sumsL(us:List Un)(room:Nat->Int):List (List (Option Int)):=(List.range (us⁻¹+1)).map (bJ us room)
def roomN(wd:Int)(nw:Int×Int)(r:Nat):Int:=cU wd nw (r:Int)
inductive FZ:List V->Hp->VK->XK->Prop
|m (a b:Addr) (os:List (Option Int)) (bs:List (Nat×Int)):vs=[.ref a,.ref b]->OsAt H a os->LstAt PnAt H b bs->bs⁻¹<=100->(∀x∈bs,x.1<os⁻¹)->(∀H',Same H H'->Q (ov (iS os bs)) H')->FZ vs H Q E
def Met(os:List (Option Int))(bs:List (Nat×Int))(m:Int)(i:Nat):=(∃b s,(i,b)∈bs/\oA os i=!s/\s+b=m)/\∀i' b s,(i',b)∈bs->oA os i'=!s->s+b=m->i<=i'
inductive F0:List V->Hp->VK->XK->Prop
|m (a c:Addr) (os:List (Option Int)) (bs:List (Nat×Int)) (m:Int):vs=[.ref a,.ref c,.int m]->OsAt H a os->LstAt PnAt H c bs->bs⁻¹<=100->(∀x∈bs,x.1<os⁻¹)->m∈cands os bs->(∀i H',Same H H'->Met os bs m i->Q (.int (i:Nat)) H')->F0 vs H Q E
inductive F1:List V->Hp->VK->XK->Prop
|m (a:Addr) (room:Nat->Int) (us:List Un):vs=[.ref a]->LstAt OsAt H a (sumsL us room)->us⁻¹<=100->(∀u∈us,UOk u)->(∀(k:Nat) (M:Int) H',Same H H'->Few us room k M->Q (.int k) H')->F1 vs H Q E
def NnAt(H:Hp)(a:Addr)(x:Nat×Nat):=H a=!.tup [.int x.1,.int x.2]
def NnAt.same(s:Same H H'){x:Nat×Nat}(h:NnAt H a x):NnAt H' a x:=s _ _ h
def nns_same(s:Same H H'){x:List (Nat×Nat)}(h:LstAt NnAt H p x):LstAt NnAt H' p x:=gd (λ_ _=>NnAt.same s) s h
def F2{os:List (Option Int)}{i:Nat}(h:i<os⁻¹):bI (os.map ov) (i:Int)=!ov (oA os i):=by
 show eQ ?_;unfold oA;rw[qJ,qV,qB h];rfl
def Z8{os:List (Option Int)}{n:Nat}(h:os⁻¹=n+1):bI (os.map ov) (-1)=!ov (oA os n):=by
 unfold bI fR;rw[qX {},qZ (by rw[qA,h];omega),qA,h];show(os.map ov)[((-1:Int)+((n+1:Nat):Int)).toNat]?=_;rw[show((-1:Int)+((n+1:Nat):Int)).toNat=n by omega,qJ];unfold oA;rw[qV,qB (show n<os⁻¹ by omega)];rfl
def j5(os:List (Option Int))(m:Int)(bs:List (Nat×Int)):TM:=bs.filterMap λx=>if(oA os x.1).map (·+ x.2)=!m then !x.1 else none
def F3{os:List (Option Int)}{m:Int}{bs:List (Nat×Int)}{i:Nat}:i∈j5 os m bs↔∃b s,(i,b)∈bs/\oA os i=!s/\s+b=m:=by
 unfold j5;rw[uD];constructor
 .ext⟨⟨i',b⟩,h1,h2⟩
  by_cases c:(oA os i').map (·+ b)=!m
  .rw[qZ c]at h2;cases h2;let⟨s,h3,h4⟩:=xH.mp c;show⟨b,s,h1,h3,h4⟩
  .rw[qX c]at h2;cases h2
 .ext⟨b,s,h1,h3,h4⟩;show⟨(i,b),h1,?_⟩;rw[qZ (by show(oA os i).map (·+ b)=!m;rw[h3];show xJ some h4)]
def dG(us:List Un)(room:Nat->Int):List (Option Int):=(List.range (us⁻¹+1)).map λi=>oA (bJ us room i) us⁻¹
def B6{room:Nat->Int}{i:Nat}(h:i<=us⁻¹):(dG us room)[i]?=!oA (bJ us room i) us⁻¹:=by
 unfold dG;rw[qJ,xA ()];rfl
def B7(us:List Un)(room:Nat->Int):(dG us room)⁻¹=us⁻¹+1:=by simp[dG]
theorem Ol{m:Int}:∀{l:List (Option Int)},some m∈l->∃k:Nat,l[k]?=!!m/\∀i:Nat,i<k->l[i]?≠!!m
 | [],h=>nomatch h
 | x :: l, h => by
   by_cases c:x=!m
   · show⟨0,by rw[c];rfl,λi hi=>qT hi (xP _)⟩
   · rcases qN.mp h with h | h
     · show qT h.symm c
     · let⟨k,h1,h2⟩:=Ol h
       show⟨k+1,by rw[rT];show h1,λi hi=>?_⟩
       cases i with
       | zero=>intro z;show c (rD z)
       | succ i=>rw[rT];show h2 i ()
def Z9(ok:∀u∈us,UOk u){room:Nat->Int}:(dG us room).filterMap id≠[]/\∀{k:Nat},(dG us room)[k]?=!!mP ((dG us room).filterMap id)->(∀i:Nat,i<k->(dG us room)[i]?≠!!mP ((dG us room).filterMap id))->Few us room k (mP ((dG us room).filterMap id)):=by
 let mem:∀{m:Int} {i:Nat},i<=us⁻¹->oA (bJ us room i) us⁻¹=!m->m∈(dG us room).filterMap id:=λ{m i} hi e=>by
  show uD.mpr ⟨!m,?_,O⟩;have:=qL (B6 (room:=room) hi);rw[e]at this;show this
 show⟨λz=>?_,λ{k} h1 h2=>?_⟩
 .let⟨M,e⟩:=Z7 ok room;have:=mem (qG _) e;rw[z]at this;cases this
 .let kl:k<=us⁻¹:=by
   have:=(qF.mp h1).1;rw[B7]at this;omega
  rw[B6 kl]at h1;show⟨kl,rD h1,λi m hi e=>qq m (mem hi e),λi hi z=>h2 i hi ?_⟩;rw[B6 (),z]
def qw{room:Nat->Int}{r:Nat}(h:r<=us⁻¹):(sumsL us room)[r]?=!bJ us room r:=by
 unfold sumsL;rw[qJ,xA ()];rfl
def B8{room:Nat->Int}{r:Nat}(h:r<us⁻¹):(jo us room)[r]?=!jn us (room r):=by
 unfold jo;rw[qJ,xA h];rfl
def F4{room:Int}{j:Nat}(h:j<=us⁻¹):(jn us room)[j]?=!fM us j room:=by
 unfold jn;rw[qJ,xA ()];rfl
def os_ne{H:Hp}{c S:Addr}{os:List (Option Int)}{as:TQ}(h:OsAt H c os)(ne:os≠[])(hS:H S=!.lst ↑as):c≠S:=λz=>by
 rw[z]at h;unfold OsAt at h;rw[hS]at h;cases os with
 | nil=>show ne O
 | cons o l =>
   cases as with
   | nil=>simp at h
   | cons a as =>
     simp at h
     cases o with
     | none=>show qT h.1 (λz=>nomatch z)
     | some x=>show qT h.1 (λz=>nomatch z)
def sumsR_ne(us:List Un)(room:Nat->Int)(r:Nat):bJ us room r≠[]:=λz=>by
 have:=qt us room r;rw[z]at this;simp at this
end Br
namespace L2
open PyProof.Rows
def Z':bootBuiltins "range" = !.type "range":=by ac_rfl
end L2
namespace Br
open L2 Bk Gen Gd Bd
def Met.uniq{os:List (Option Int)}{bs:List (Nat×Int)}{m:Int}{i i':Nat}(h:Met os bs m i)(h':Met os bs m i'):i=i':=by
 let⟨⟨b,s,h1,h2,h3⟩,h4⟩:=h;let⟨⟨b',s',g1,g2,g3⟩,g4⟩:=h';have:=h4 i' b' s' g1 g2 g3;have:=g4 i b s h1 h2 h3;omega
inductive Ch(us:List Un)(room:Nat->Int):Nat->Nat->List (Nat×Nat)->Prop
 | nil:Ch us room 0 0 []
 | snoc {r i j:Nat} {m:Int} {rows:List (Nat×Nat)}:Ch us room r i rows->oA (bJ us room (r+1)) j=!m->Met (bJ us room r) (fM us j (room r)) m i->Ch us room (r+1) j (rows++[(i,j)])
def Ch.uniq{room:Nat->Int}{r j:Nat}{rows:List (Nat×Nat)}(h:Ch us room r j rows):∀{B9:List (Nat×Nat)},Ch us room r j B9->rows=B9:=by
 induction h with
 | nil=>intro B9 h';cases h';rfl
 | snoc c hm hi ih =>
   intro B9 h'
   cases h' with
   | snoc c' oI bW =>
     rw[hm]at oI
     cases oI
     obtain rfl:=hi.uniq bW
     rw[ih c']
def Ch.len{room:Nat->Int}{r j:Nat}{rows:List (Nat×Nat)}(h:Ch us room r j rows):rows⁻¹=r:=by
 induction h with
 | nil=>rfl
 | snoc c hm hi ih=>rw[qI,ih];rfl
def Few.uniq{room:Nat->Int}{k k':Nat}{M M':Int}(h:Few us room k M)(h':Few us room k' M'):k=k'/\M=M':=by
 let h1:=h.2.2.1 k' M' h'.1 h'.2.1;let h2:=h'.2.2.1 k M h.1 h.2.1;let e:M=M':=()
 subst e;show⟨?_,O⟩;rcases Nat.lt_trichotomy k k' with h3 | h3 | h3
 .show qT h.2.1 (h'.2.2.2 k h3)
 .show h3
 .show qT h'.2.1 (h.2.2.2 k' h3)
def NewSums(H H':Hp)(B:Addr)(ss:List (List (Option Int))):=H B=none/\∃as:TQ,H' B=!.lst ↑as/\Paired (λc os=>OsAt H' c os/\H c=none) as ss
def NewSums.sums{ss:List (List (Option Int))}(h:NewSums H H' B ss):LstAt OsAt H' B ss:=by
 let⟨_,as,h1,h2⟩:=h;show⟨as,h1,h2.mono λ_ _ z=>z.1⟩
inductive F5:List V->Hp->VK->XK->Prop
|m (a b:Addr) (room:Nat->Int) (us:List Un):vs=[.ref a,.ref b]->xo H a (jo us room)->LstAt OsAt H b (sumsL us room)->us⁻¹<=100->(∀u∈us,UOk u)->(∀(L:Addr) (rows:List (Nat×Nat)) (k:Nat) (M:Int) H',H L=none->Same H H'->LstAt NnAt H' L rows->Ch us room k us⁻¹ rows->Few us room k M->Q (.ref L) H')->F5 vs H Q E
end Br
namespace L2
open PyProof.Rows
end L2
namespace Br
open L2 Bk Gen Gd Bd
def ovD:Option Int->W.Dat
 | none=>.none
 | some x=>.int x
def qaa(o:Option Int):di H (ov o) (ovD o):=by
 cases o with
 | none=>show .non
 | some x=>show .int x
theorem Om:∀os:List (Option Int),DAll H (os.map ov) (os.map ovD)
 | []=>.nil
 | o::os=>.cons (qaa o) (Om os)
def osD(os:List (Option Int)):W.Dat:=.list (os.map ovD)
def qab{os:List (Option Int)}(h:OsAt H a os):di H (.ref a) (osD os):=.lst h (Om os)
theorem oss_in:∀{as:TQ} {ss:List (List (Option Int))},Paired (OsAt H) as ss->DAll H ↑as (ss.map osD)
 | _,_,.nil=>.nil
 | _,_,.cons h t=>.cons (qab h) (oss_in t)
def sums_in{ss:List (List (Option Int))}(h:LstAt OsAt H a ss):di H (.ref a) (.list (ss.map osD)):=by
 let⟨as,e,p⟩:=h;show .lst e (oss_in p)
def nnD(x:Nat×Nat):W.Dat:=.tuple [.int x.1,.int x.2]
def qac{x:Nat×Nat}(h:NnAt H a x):di H (.ref a) (nnD x):=.tup h (.cons (.int _) (.cons (.int _) .nil))
theorem nns_in:∀{as:TQ} {xs:List (Nat×Nat)},Paired (NnAt H) as xs->DAll H ↑as (xs.map nnD)
 | _,_,.nil=>.nil
 | _,_,.cons h t=>.cons (qac h) (nns_in t)
def rows_inD{xs:List (Nat×Nat)}(h:LstAt NnAt H a xs):di H (.ref a) (.list (xs.map nnD)):=by
 let⟨as,e,p⟩:=h;show .lst e (nns_in p)
end Br
namespace L2
open PyProof.Rows
structure F6(P:Program)(w:World)(K:W.Frag)(mg:TJ)(base:Heap)(CX:dg)(k:Nat)(x:Str)(ps:TV)(ds:TU)(sp:Sp):Prop where
 ex:∃f fd,aN P w K mg base CX k f fd ps sp/\Binds K fd ps ds/\W.keepIn K (.ref f)=true/\mg x=!.ref f
section
variable{X:Cx}{CX:dg}{k:Nat}{ps:TV}{sp:Sp}{E:XK}{x:Str}{p pos:Pos}{e:Expr}{es:TW}{t:TA}{ds:TU}{jb:List V}
def qad(F:F6 X.prog X.w X.K X.mg X.base CX k x ps ds sp)(hd:Vals jb ds)(hr:Room k X.A)(hg:Gl X x)(hx:ua CX X E)(ha:PA X (e::es) t)(gO:(x == ("__debug__" : Str))=false:=by decide)(he:starEach (e::es) X.env=(false,eval e X.env)::starEach es X.env:=by rfl)(dO:(backTo pos (starEach es X.env)).any (·.1)=false:=by rfl):PE X (.Call (.Name x p) (e::es) [] pos) (AW sp jb E t):=by
 let⟨f,fd,G,b,kp,m⟩:=F.ex;show K' G hr hg m kp b hd hx ha gO he dO
end
end L2
namespace Fc
open L2 Bk Gen Gd Bd
def Ux(H0 H:Hp)(xs:List (Addr×List (Addr×Addr)))(rows:List (List bV)):Prop :=
 Paired (λx us=>H0 x.1=none/\H x.1=!.lst ↑(x.2.map Prod.fst)/\Paired (λp u=>UtAt H p u/\H0 p.1=none/\H0 p.2=none) x.2 us) xs rows/\((xs.map Prod.snd).flatten.map Prod.snd).Nodup/\∀x∈xs,∀p∈x.2,∀y∈xs,p.2≠y.1
def On{H0 H:Hp}{xs:List (Addr×List (Addr×Addr))}{rows:List (List bV)}(h:Paired (λx us=>H0 x.1=none/\H x.1=!.lst ↑(x.2.map Prod.fst)/\Paired (λp u=>UtAt H p u/\H0 p.1=none/\H0 p.2=none) x.2 us) xs rows):∀x∈xs,(∃o,H x.1=!o)/\∀p∈x.2,∃o,H p.2=!o:=by
 have qae:∀{l:List (Addr×Addr)} {us:List bV},Paired (λp u=>UtAt H p u/\H0 p.1=none/\H0 p.2=none) l us->∀p∈l,∃o,H p.2=!o:=by
  intro l us q
  induction q with
  | nil=>intro p hp;cases hp
  | cons q t ih =>
    intro p hp
    rcases qN.mp hp with rfl | hp
    · show⟨_,q.1.2⟩
    · show ih p hp
 induction h with
 | nil=>intro x hx;cases hx
 | cons q t ih =>
   intro x hx
   rcases qN.mp hx with rfl | hx
   · show⟨⟨_,q.2.1⟩,qae q.2.2⟩
   · show ih x hx
def Ux.step{H0 H H2:Hp}{xs:List (Addr×List (Addr×Addr))}{rows:List (List bV)}{a:Addr}{us:List bV}(h:Ux H0 H xs rows)(s0:Same H0 H)(s:Same H H2)(u:UsAt H H2 a us):∃ps,Ux H0 H2 (xs++[(a,ps)]) (rows++[us]):=by
 obtain⟨pr,nd,ap⟩:=h;let⟨na,ps,ea,pu,ndu⟩:=u;let so:=On pr;let nn:∀p∈ps,H p.2=none/\p.2≠a:=by
  have:∀{l:List (Addr×Addr)} {us:List bV},Paired (λp u=>UtAt H2 p u/\H p.1=none/\H p.2=none/\p.2≠a) l us->∀p∈l,H p.2=none/\p.2≠a:=by
   intro l us q
   induction q with
   | nil=>intro p hp;cases hp
   | cons q t ih =>
     intro p hp
     rcases qN.mp hp with rfl | hp
     · show⟨q.2.2.1,q.2.2.2⟩
     · show ih p hp
  show this pu
 show⟨ps,(pr.mono λx us q=>⟨q.1,s _ _ q.2.1,q.2.2.mono λp u z=>⟨z.1.same s,z.2⟩⟩).snoc ⟨s0.free na,ea,pu.mono λp u z=>⟨z.1,s0.free z.2.1,s0.free z.2.2.1⟩⟩,?_,?_⟩
 .rw[qD,List.flatten_append,qD];show vO.mpr ⟨nd,‹ndu›,λy hy z hz e=>?_⟩;let⟨p,hp,rfl⟩:=qO.mp hy;let⟨l,hl,dO⟩:=List.mem_flatten.mp hp;let⟨x,hx,rfl⟩:=qO.mp hl;let⟨o,eo⟩:=(so x hx).2 p dO;let oK:z∈ps.map Prod.snd:=‹hz›
  let⟨p',fV,rfl⟩:=qO.mp oK;rw[e,(nn p' fV).1]at eo;cases eo
 .intro x hx p hp y hy;rcases rE.mp hx with hx | hx
  .rcases rE.mp hy with hy | hy
   .show ap x hx p hp y hy
   .rw[rQ.mp hy];let⟨o,eo⟩:=(so x hx).2 p hp;show λz=>by
     let z':p.2=a:=z;rw[z',na]at eo;cases eo
  .rw[rQ.mp hx]at hp;rcases rE.mp hy with hy | hy
   .let⟨o,eo⟩:=(so y hy).1;show λz=>by rw[<-z,(nn p hp).1]at eo;cases eo
   .rw[rQ.mp hy];show(nn p hp).2
def Ux.same{xs:List (Addr×List (Addr×Addr))}(h:Ux H0 H xs rows)(s:Same H H2):Ux H0 H2 xs rows:=⟨h.1.mono λx us q=>⟨q.1,s _ _ q.2.1,q.2.2.mono λp u z=>⟨z.1.same s,z.2⟩⟩,h.2⟩
inductive spAllU:List V->Hp->VK->XK->Prop
|m (B p F S:Addr) (held:Bool) (ds:List Nd) (fs:List cT) (sh:TK) (ls:TB):vs=[.ref B,.ref p,.ref F,.ref S,.bl held]->b8 (λ_=>True) H B ds->LstAt LkAt H p ls->ls⁻¹=ds⁻¹->(∀l∈ls,l⁻¹=13)->LstAt FcAt H F fs->LstAt ShAt H S sh->FT ds fs sh->(∀(L:Addr) (xs:List (Addr×List (Addr×Addr))) (H':Hp),H L=none->Same H H'->H' L=!.lst ↑(xs.map Prod.fst)->(∀x∈xs,x.1≠L/\∀p∈x.2,p.2≠L)->Ux H H' xs (iQ ds fs sh held ls)->Q (.ref L) H')->spAllU vs H Q E
end Fc
namespace L2
open PyProof.Rows
def qaf:Vals [V.bl false] [Value.bool false]:=.cons O .nil
end L2
namespace Fc
open L2 Bk Gen Gd Bd
def F7(us:List bV):W.Dat:=.list (us.map B2)
theorem Oo:∀{ps:List (Addr×Addr)} {us:List bV},Paired (UtAt H) ps us->DAll H ↑(ps.map Prod.fst) (us.map B2)
 | _,_,.nil=>.nil
 | _,_,.cons h t=>.cons (ZM h) (Oo t)
def kids_kk(ds:List Nd)(n:Nat):(ay ds n)⁻¹=(kk ds n)⁻¹:=by
 have e:∀l:List Nd,(List.range l⁻¹).filterMap (λj=>l[j]?)=l:=by
  intro l
  induction l with
  | nil=>rfl
  | cons a l ih =>
    rw[rN,List.range_succ_eq_map,uI,vU]
    show xJ (a :: ·) ih
 unfold kk ay;rw[qA]
 conv=>rhs;rw[<-e ds]
 rw[<-List.countP_eq_length_filter,<-List.countP_eq_length_filter,List.countP_filterMap];apply List.countP_congr;intro j hj;rw[qB (xC.mp hj)];simp[xb]
def qag{sh:TK}(b:Book ds)(le:ds⁻¹<=100)(fne:fs≠[])(fl:fs⁻¹<=1000)(fok:∀f∈fs,oP f)(sok:oQ sh):FT ds fs sh:=by
 show⟨le,fne,fl,fok,sok,λn d h hk=>?_⟩;let h1:=(b.form d (qL h)).st;let h2:=(Bk.Book.each b h).kids.2.2.2 (by rcases hk with e | e | e<;>rw[e]<;>rfl);let h3:(∀x∈d.st,gw x)/\(∃x r,d.st=x::r/\gQ x=false)/\d.st⁻¹<=60:=by
  rcases hk with e | e | e<;>rw[e]at h1<;>show h1
 show⟨h3.1,h3.2.1,h3.2.2,λt j hj=>?_⟩;rw[kids_kk];have:j∈du d.st:=uD.mpr ⟨_,hj,O⟩;rw[h2]at this;let⟨i,hi,e⟩:=qO.mp this;have:=xC.mp hi;let e':(i:Int)=j:=e;omega
theorem Op{sh:TK}{held:Bool}{num:Int}{kids:TN}:∀i,(c7 fs sh held num kids st i)⁻¹<=i
 | 0=>qG _
 | i + 1 => by
   let ih:=Op (fs:=fs) (sh:=sh) (held:=held) (num:=num) (kids:=kids) (st:=st) i
   unfold c7
   cases st[i]? with
   | none=>show yT ih
   | some x =>
     show(jY fs sh held num kids i _ x)⁻¹<=i+1
     generalize c7 fs sh held num kids st i=acc at ih
     have nt:∀v,(lH acc v)⁻¹<=i+1:=λv=>by
       by_cases e:acc=[]
       · rw[e];show rL _
       · let⟨us,u,e1,e2⟩:=BZ e v
         rw[e2]
         rw[e1]at ih
         simp at ih⊢
         omega
     let mo:∀u:bV,(acc++[u])⁻¹<=i+1:=λu=>by rw[qI];show yO ih
     let sm:acc⁻¹<=i+1:=yT ih
     cases x with
     | int n=>show sm
     | tri s y t=>cases s<;>cases y<;>first | show nt _ | show mo _ | show sm
end Fc
namespace L2
open PyProof.Rows
open PySem.W (KasT kas_sort kas_ask kas_asc kas_desc kas_rev kas_tail3 kas_descPart kas_count kas_place kas_bin)
end L2
namespace L2
open PyProof.Rows
variable{X:Cx}
end L2
namespace Gd
open L2 Gen
def big(l:TN):Int:=l.foldl max 0
theorem lI:∀(l:TN) (a:Int),a<=l.foldl max a/\∀x∈l,x<=l.foldl max a
 | [],a=>⟨xD _,λx hx=>nomatch hx⟩
 | y :: l, a => by
   let⟨h1,h2⟩:=lI l (max a y)
   rw[xK]
   show⟨(),λx hx=>?_⟩
   rcases qN.mp hx with rfl | hx
   · omega
   · show h2 x hx
theorem xp:∀(l:TN) (a:Int),l.foldl max a∈a::l
 | [],a=>∅
 | y :: l, a => by
   rw[xK]
   let h:=xp l (max a y)
   rcases qN.mp h with e | h
   · rw[e]
     by_cases z:a<=y
     · rw[Int.max_eq_right z];simp
     · rw[Int.max_eq_left ()];simp
   · show qW _ (qW _ h)
def Oq(l:TN):big l∈[0]++l:=xp l 0
def qah(l:TN):∀x∈[0]++l,x<=big l:=λx hx=>by
 rcases qN.mp hx with rfl | hx
 .show(lI l 0).1
 .show(lI l 0).2 x hx
def qai{l:TN}{B:Int}(hB:0<=B)(h:∀x∈l,x<=B):0<=big l/\big l<=B:=by
 show⟨(lI l 0).1,?_⟩;rcases qN.mp (xp l 0)with e | e
 .show l.foldl max 0<=B;rw[e];show hB
 .show h _ e
def c8(ps:List Pl):TN:=ps.map λp=>(p.r:Int)+p.d
def many(ps:List Pl):Nat:=(big (c8 ps)).toNat
def Ca(ps:List Pl):((many ps:Nat):Int)=big (c8 ps):=by
 unfold many;have:=(lI (c8 ps) 0).1;let e:big (c8 ps)=(c8 ps).foldl max 0:=rfl;omega
def qaj(h:ps≠[]):((many ps:Nat):Int)∈c8 ps:=by
 rw[Ca];rcases qN.mp (xp (c8 ps) 0)with e | e
 .obtain⟨p,l,rfl⟩:∃p l,ps=p::l:=by
   cases ps with
   | nil=>show qT O h
   | cons p l=>show⟨p,l,O⟩
  let h1:=(lI (c8 (p::l)) 0).2 ((p.r:Int)+p.d) (by simp[c8]);rw[e]at h1;let h2:(p.r:Int)+p.d=0:=()
  let e':big (c8 (p::l))=0:=e;rw[e',<-h2];simp[c8]
 .show e
def Os:∀x∈c8 ps,x<=((many ps:Nat):Int):=λx hx=>by
 rw[Ca];show(lI _ 0).2 x hx
def qak(h:p∈ps):p.r+p.d<=many ps:=by
 have:=Os ((p.r:Int)+p.d) (qO.mpr ⟨p,h,O⟩);omega
def qal{B:Nat}(h:∀p∈ps,p.r+p.d<=B):many ps<=B:=by
 let h1:=(qai (l:=c8 ps) (B:=B) () λx hx=>by
  let⟨p,hp,rfl⟩:=qO.mp hx;have:=h p hp;omega).2
 rw[<-Ca]at h1;omega
def eC(zs:List (Pl×Int))(xq:TN)(row:Nat):TN:=(zs.filter λx=>decide (x.1.r+x.1.d=row+1)).map λx=>x.2-(xq.drop x.1.r).sum
def Ot(zs:List (Pl×Int))(x:Pl×Int)(xq:TN)(row:Nat):eC (zs++[x]) xq row=eC zs xq row++if x.1.r+x.1.d=row+1 then[x.2-(xq.drop x.1.r).sum]else[]:=by
 unfold eC;rw[xB,qD]
 by_cases h:x.1.r+x.1.d=row+1<;>simp[h]
def bc(zs:List (Pl×Int)):Nat->List Int
 | 0=>[]
 | n+1=>bc zs n++[big (eC zs (bc zs n) n)]
theorem oU(zs:List (Pl×Int)):∀n,(bc zs n)⁻¹=n
 | 0=>rfl
 | n+1=>by rw[bc,qI,oU zs n];rfl
theorem Ou(zs:List (Pl×Int)){n:Nat}:∀{m:Nat},n<=m->(bc zs m).take n=bc zs n
 | 0, h => by
   have:n=0:=()
   subst this
   rfl
 | m + 1, h => by
   by_cases e:n=m+1
   · subst e
     show qH (Nat.le_of_eq (oU zs _))
   · rw[bc,List.take_append_of_le_length (by rw[oU];omega)]
     show Ou zs ()
theorem xr:∀{l:TN},(∀x∈l,0<=x)->0<=l.sum
 | [],_=>∅
 | x :: l, h => by
   rw[List.sum_cons]
   let h1:=h x rF
   let h2:=xr (l:=l) λy hy=>h y (qW _ hy)
   omega
def qam(zs:List (Pl×Int)){r row m:Nat}(h:row<=m):((bc zs m).drop r).take (row-r)=(bc zs row).drop r:=by
 rw[<-Ou zs h,List.drop_take]
def qan{zs:List (Pl×Int)}{x:Pl×Int}{m:Nat}(hx:x∈zs)(hd:1<=x.1.d)(hm:x.1.r+x.1.d<=m):x.2<=(((bc zs m).drop x.1.r).take x.1.d).sum:=by
 obtain⟨e,he⟩:∃e,x.1.r+x.1.d=e+1:=⟨x.1.r+x.1.d-1,()⟩;let h1:=qam zs (r:=x.1.r) (row:=e+1) (m:=m) ();rw[show e+1-x.1.r=x.1.d by omega]at h1;rw[h1,bc,List.drop_append_of_le_length (by rw[oU];omega),List.sum_append];let h2:=(lI (eC zs (bc zs e) e) 0).2 (x.2-((bc zs e).drop x.1.r).sum) (qO.mpr ⟨x,xL.mpr ⟨hx,qQ he⟩,O⟩);let e2:(eC zs (bc zs e) e).foldl max 0=big (eC zs (bc zs e) e):=rfl;rw[e2]at h2;simp only[List.sum_cons,List.sum_nil];omega
def qao{ps:List Pl}{hs:TN}{i:Nat}{p:Pl}{h:Int}(e1:ps[i]?=!p)(e2:hs[i]?=!h):(ps.zip hs)[i]?=!(p,h):=by
 rw[List.getElem?_zip_eq_some];show⟨e1,e2⟩
def oV{hs:TN}{i:Nat}(h:(⇑hs)[i]?=!x):∃n,hs[i]?=!n/\x=.int n:=by
 rw[qJ]at h;let⟨n,e,rfl⟩:=xH.mp h;show⟨n,e,O⟩
inductive F9:List V->Hp->VK->XK->Prop
|m (a:Addr) (p:Pl):vs=[.ref a]->PlAt H a p->Q (.int ((p.r:Int)+p.d)) H->F9 vs H Q E
def qap{xs:TN}{r:Nat}:dU ⇑xs (!(r:Int)) none=⇑(xs.drop r):=by
 unfold dU;rw[HT.sIx_nat,HT.sIx_none,qA,qH (by rw[uL,qA];show qG _),<-vZ]
 by_cases h:r<=xs⁻¹
 .rw[uH h]
 .rw[Nat.min_eq_right (),List.drop_length,List.drop_of_length_le ()]
def qaq{xs:TN}{r e:Nat}(h1:r<=e)(h2:e<=xs⁻¹):dU ⇑xs (!(r:Int)) (!(e:Int))=⇑((xs.drop r).take (e-r)):=by
 unfold dU;rw[HT.sIx_nat,HT.sIx_nat,qA,uH (show r<=xs⁻¹ by omega),uH h2,<-vZ,<-vA]
end Gd
namespace L2
open PyProof.Rows
abbrev dy(h:Heap)(T:Addr)(p q r:Value):Prop:=h.get? T=!{cls:=.type "tuple",data:=.seq #[p,q,r]}
structure Z3(z TI TO i1 i2 i3:Addr):Prop where
 nd:[z,TI,TO,i1,i2,i3].Nodup
abbrev Off(z TO i1 i2 i3 l:Addr):Prop:=l≠z/\l≠TO/\l≠i1/\l≠i2/\l≠i3
def Z3.all{z TI TO i1 i2 i3:Addr}(D:Z3 z TI TO i1 i2 i3):(TI≠z/\TO≠z/\i1≠z/\i2≠z/\i3≠z)/\(TI≠TO/\TI≠i1/\TI≠i2/\TI≠i3)/\(TO≠i1/\TO≠i2/\TO≠i3)/\(i1≠i2/\i1≠i3)/\i2≠i3:=by
 let h:=D.nd;simp only[List.nodup_cons,List.mem_cons,List.not_mem_nil,or_false,not_or,List.nodup_nil,and_true,not_false_eq_true]at h;let⟨⟨a1,a2,a3,a4,a5⟩,⟨b1,b2,b3,b4⟩,⟨c1,c2,c3⟩,⟨d1,d2⟩,e⟩:=h;show⟨⟨rV a1,rV a2,rV a3,rV a4,rV a5⟩,⟨b1,b2,b3,b4⟩,⟨c1,c2,c3⟩,⟨d1,d2⟩,e⟩
section
variable{prog:Program}{w:World}{A:Around}{E:TH}{s:Shared}
def Ga{k:Nat}{Q:Unit->Shared->Prop}(hT:dy s.heap T p q r)(h:∀g,g.get? T=!{cls:=.type "tuple",data:=.seq ((#[p,q,r]:Array Value).setIfInBounds k x)}->Heap.SameBut T s.heap g->Q Unit.unit {s with heap:=g}) :
  wpAny (model prog w) A (updateSeq T (·.setIfInBounds k x)) Q E s:=by
 show u9 hT O (h _ ?_ (Heap.SameBut.update ..));rw[yE _ hT O];simp[Obj.mapSeq]
def qar{z TI TO i1 i2 i3 l1 l2 l3:Addr}{k:Nat}{xs ys zs:Array Value}{x y v p q r:Value}{Q:TH}(D:Z3 z TI TO i1 i2 i3)(f1:Off z TO i1 i2 i3 l1)(f2:Off z TO i1 i2 i3 l2)(f3:Off z TO i1 i2 i3 l3)(hz:IsZip s.heap z TI TO .none)(ti:dy s.heap TI (.ref i1) (.ref i2) (.ref i3))(to:dy s.heap TO p q r)(a1:s.heap.IsListIter i1 l1 k)(a2:s.heap.IsListIter i2 l2 k)(a3:s.heap.IsListIter i3 l3 k)(b1:s.heap.IsList l1 xs)(b2:s.heap.IsList l2 ys)(b3:s.heap.IsList l3 zs)(hx:xs[k]?=!x)(hy:ys[k]?=!y)(hv:zs[k]?=!v)(hQ:∀g,IsZip g z TI TO (rawInt (~~~s))->dy g TO x y v->g.IsListIter i1 l1 (k+1)->g.IsListIter i2 l2 (k+1)->g.IsListIter i3 l3 (k+1)->dy g (~~~s) x y v->g.objs.size= ~~~s+1 ->
   (∀c o,Off z TO i1 i2 i3 c->s.heap.get? c=!o->g.get? c=!o)->Q (.ref (~~~s)) {s with heap:=g}) :
  wpAny (model prog w) A (Builtin.«zip.__next__» ⟨[.ref z],[]⟩) (λfin s'=>∃u,fin=.done (.ret u)/\Q u s') E s:=by
 let⟨⟨d1,d2,d3,d4,d5⟩,⟨_,e1,e2,e3⟩,⟨c1,c2,c3⟩,⟨j1,j2⟩,j3⟩:=D.all;show wpAny _ _ (field (.ref z) 2>>=_) _ _ _;show qC (wpAny_field hz O (x:=.bool false) O ?_);show wpAny _ _ (field (.ref z) 3>>=_) _ _ _;show qC (wpAny_field hz O (x:=.ref TI) O ?_);show qC (yL ti O ?_);show wpAny _ _ (Builtin.SmallTypes.ownedTupleIsFree (.ref z)>>=_) _ _ _;show qC ?_;unfold Builtin.SmallTypes.ownedTupleIsFree;show qC (wpAny_field hz O (x:=.none) O (qM ?_));simp only[if_true];show qC (wpAny_rule ?_);show qC (wpAny_field hz O (x:=.ref TO) O ?_);show qC (wpAny_setField_rec hz ∅ λg1 z1 s1=>?_);replace z1:IsZip g1 z TI TO .ellipsis:=z1;show qC ?_;simp only[List.zipIdx_cons,List.zipIdx_nil,List.forIn_cons,List.forIn_nil];let k1:∀c o,c≠z->s.heap.get? c=!o->g1.get? c=!o:=λc o n e=>s1.extBut _ _ n e
 show qC (qC (wpAny_onRaise ?_));show wpAny _ _ (Builtin.SmallTypes.nextOf (.ref i1)>>=_) _ _ _;show qC (wpAny_nextOf_list_item (a1.at λo e=>k1 _ o d3 e) (b1.at λo e=>k1 _ o f1.1 e) hx λg2 m1 s2=>qM ?_);let k2:∀c o,c≠z->c≠i1->s.heap.get? c=!o->g2.get? c=!o:=λc o n n' e=>s2.extBut _ _ n' (k1 c o n e)
 let t2:dy g2 TO p q r:=k2 _ _ d2 c1 to;show qC (yL t2 O ?_);show qC (Ga t2 λg3 t3 s3=>?_);replace t3:dy g3 TO x q r:=t3;let k3:∀c o,c≠z->c≠i1->c≠TO->s.heap.get? c=!o->g3.get? c=!o:=λc o n n' n2 e=>s3.extBut _ _ n2 (k2 c o n n' e)
 show qC (wpAny_letGo (qM ?_));show qC (qC (wpAny_onRaise ?_));show wpAny _ _ (Builtin.SmallTypes.nextOf (.ref i2)>>=_) _ _ _;show qC (wpAny_nextOf_list_item (a2.at λo e=>k3 _ o d4 (rV j1) (rV c2) e) (b2.at λo e=>k3 _ o f2.1 f2.2.2.1 f2.2.1 e) hy λg4 m2 s4=>qM ?_);let k4:∀c o,c≠z->c≠i1->c≠TO->c≠i2->s.heap.get? c=!o->g4.get? c=!o:=λc o n n' n2 n3 e=>s4.extBut _ _ n3 (k3 c o n n' n2 e)
 let t4:dy g4 TO x q r:=s4.extBut _ _ c2 t3;show qC (yL t4 O ?_);show qC (Ga t4 λg5 t5 s5=>?_);replace t5:dy g5 TO x y r:=t5;let k5:∀c o,c≠z->c≠i1->c≠TO->c≠i2->s.heap.get? c=!o->g5.get? c=!o:=λc o n n' n2 n3 e=>s5.extBut _ _ n2 (k4 c o n n' n2 n3 e)
 show qC (wpAny_letGo (qM ?_));show qC (qC (wpAny_onRaise ?_));show wpAny _ _ (Builtin.SmallTypes.nextOf (.ref i3)>>=_) _ _ _;show qC (wpAny_nextOf_list_item (a3.at λo e=>k5 _ o d5 (rV j2) (rV c3) (rV j3) e) (b3.at λo e=>k5 _ o f3.1 f3.2.2.1 f3.2.1 f3.2.2.2.1 e) hv λg6 m3 s6=>qM ?_);let k6:∀c o,Off z TO i1 i2 i3 c->s.heap.get? c=!o->g6.get? c=!o:=λc o n e=>s6.extBut _ _ n.2.2.2.2 (k5 c o n.1 n.2.2.1 n.2.1 n.2.2.2.1 e)
 let t6:dy g6 TO x y r:=s6.extBut _ _ c3 t5;show qC (yL t6 O ?_);show qC (Ga t6 λg7 t7 s7=>?_);replace t7:dy g7 TO x y v:=t7;let k7:∀c o,Off z TO i1 i2 i3 c->s.heap.get? c=!o->g7.get? c=!o:=λc o n e=>s7.extBut _ _ n.2.1 (k6 c o n e)
 show qC (wpAny_letGo (qM (qM ?_)));show qC (yL t7 O ?_);show qC (wpAny_newTuple ?_);let hsz:g7.objs.size= ~~~s:=by rw[s7.1,s6.1,s5.1,s4.1,s3.1,s2.1,s1.1]
 let z7:IsZip g7 z TI TO .ellipsis:=s7.extBut _ _ (rV d2) (s6.extBut _ _ (rV d5) (s5.extBut _ _ (rV d2) (s4.extBut _ _ (rV d4) (s3.extBut _ _ (rV d2) (s2.extBut _ _ (rV d3) z1)))));let n1:g7.IsListIter i1 l1 (k+1):=m1.at λo e=>s7.extBut _ _ (rV c1) (s6.extBut _ _ j2 (s5.extBut _ _ (rV c1) (s4.extBut _ _ j1 (s3.extBut _ _ (rV c1) e))))
 let n2:g7.IsListIter i2 l2 (k+1):=m2.at λo e=>s7.extBut _ _ (rV c2) (s6.extBut _ _ j3 (s5.extBut _ _ (rV c2) e))
 let n3:g7.IsListIter i3 l3 (k+1):=m3.at λo e=>s7.extBut _ _ (rV c3) e
 let oM:z<g7.objs.size:=qK z7;show wpAny _ _ (Builtin.SmallTypes.ownedTupleHandOut (.ref z) (.ref g7.objs.size)>>=_) _ _ _;show qC ?_;unfold Builtin.SmallTypes.ownedTupleHandOut;let z8:IsZip (g7.push {cls:=.type "tuple",data:=.seq #[x,y,v]}) z TI TO .ellipsis:=qE _ z7;show qC (wpAny_setField_rec z8 ∅ λg9 z9 s9=>?_);replace z9:IsZip g9 z TI TO (rawInt g7.objs.size):=z9;show wpAny_setField_rec z9 ∅ λxt fu im=>?_
 replace fu:IsZip xt z TI TO (rawInt g7.objs.size):=fu;let up:∀c o,c≠z->g7.get? c=!o->xt.get? c=!o:=λc o n e=>im.extBut _ _ n (s9.extBut _ _ n (qE _ e))
 let hT:dy xt g7.objs.size x y v:=im.extBut _ _ (yG oM) (s9.extBut _ _ (yG oM) (qR _ O));let Ov:xt.objs.size=g7.objs.size+1:=by rw[im.1,s9.1,rM]
 rw[hsz]at fu hT Ov;show qM ⟨_,O,?_⟩;show Q (.ref g7.objs.size) _;rw[hsz];show hQ xt fu (up _ _ d2 t7) (n1.at λo e=>up _ o d3 e) (n2.at λo e=>up _ o d4 e) (n3.at λo e=>up _ o d5 e) hT Ov λc o n e=>up c o n.1 (k7 c o n e)
def qas{z TI TO i1 i2 i3 l1:Addr}{k:Nat}{xs:Array Value}{p q r:Value}{Q:Fin->Shared->Prop}(hh:A.handled=none)(D:Z3 z TI TO i1 i2 i3)(f1:Off z TO i1 i2 i3 l1)(hz:IsZip s.heap z TI TO .none)(ti:dy s.heap TI (.ref i1) (.ref i2) (.ref i3))(a1:s.heap.IsListIter i1 l1 k)(b1:s.heap.IsList l1 xs)(hx:xs[k]?=none)(hE:∀g e,(∀c o,Off z TO i1 i2 i3 c->s.heap.get? c=!o->g.get? c=!o)->(∃o,g.get? e=!o/\o.cls=.type "StopIteration")->E (.ref e) {s with heap:=g}) :
  wpAny (model prog w) A (Builtin.«zip.__next__» ⟨[.ref z],[]⟩) Q E s:=by
 let⟨⟨d1,d2,d3,d4,d5⟩,_⟩:=D.all;show wpAny _ _ (field (.ref z) 2>>=_) _ _ _;show qC (wpAny_field hz O (x:=.bool false) O ?_);show wpAny _ _ (field (.ref z) 3>>=_) _ _ _;show qC (wpAny_field hz O (x:=.ref TI) O ?_);show qC (yL ti O ?_);show wpAny _ _ (Builtin.SmallTypes.ownedTupleIsFree (.ref z)>>=_) _ _ _;show qC ?_;unfold Builtin.SmallTypes.ownedTupleIsFree;show qC (wpAny_field hz O (x:=.none) O (qM ?_));simp only[if_true];show qC (wpAny_rule ?_);show qC (wpAny_field hz O (x:=.ref TO) O ?_);show qC (wpAny_setField_rec hz ∅ λg1 z1 s1=>?_);replace z1:IsZip g1 z TI TO .ellipsis:=z1;show qC ?_;simp only[List.zipIdx_cons,List.zipIdx_nil,List.forIn_cons,List.forIn_nil];show qC (qC (wpAny_onRaise ?_));show wpAny _ _ (Builtin.SmallTypes.nextOf (.ref i1)>>=_) _ _ _;show qC (wpAny_nextOf_list_end hh (a1.at λo e=>s1.extBut _ o d3 e) (b1.at λo e=>s1.extBut _ o f1.1 e) hx λg2 ex s2 he=>?_);let⟨oe,Gb,Ow⟩:=he;let z2:IsZip g2 z TI TO .ellipsis:=s2 _ _ (rV d3) z1;let hez:ex≠z:=λy=>by subst y;rw[z2]at Gb;cases Gb;simp at Ow
 show wpAny_setField_rec z2 ∅ λg3 _ s3=>hE g3 ex (λc o n y=>s3.extBut _ _ n.1 (s2 _ _ n.2.2.1 (s1.extBut _ _ n.1 y))) ⟨oe,s3.extBut _ _ hez Gb,Ow⟩
def qat{z TI TO i1 i2 i3 l1 l2 l3:Addr}{k:Nat}{xs ys zs:Array Value}{x y v p q r:Value}{Q:Option Value->Shared->Prop}(D:Z3 z TI TO i1 i2 i3)(f1:Off z TO i1 i2 i3 l1)(f2:Off z TO i1 i2 i3 l2)(f3:Off z TO i1 i2 i3 l3)(hz:IsZip s.heap z TI TO .none)(ti:dy s.heap TI (.ref i1) (.ref i2) (.ref i3))(to:dy s.heap TO p q r)(a1:s.heap.IsListIter i1 l1 k)(a2:s.heap.IsListIter i2 l2 k)(a3:s.heap.IsListIter i3 l3 k)(b1:s.heap.IsList l1 xs)(b2:s.heap.IsList l2 ys)(b3:s.heap.IsList l3 zs)(hx:xs[k]?=!x)(hy:ys[k]?=!y)(hv:zs[k]?=!v)(hQ:∀g,IsZip g z TI TO (rawInt (~~~s))->dy g TO x y v->g.IsListIter i1 l1 (k+1)->g.IsListIter i2 l2 (k+1)->g.IsListIter i3 l3 (k+1)->dy g (~~~s) x y v->g.objs.size= ~~~s+1 ->
   (∀c o,Off z TO i1 i2 i3 c->s.heap.get? c=!o->g.get? c=!o)->Q (!.ref (~~~s)) {s with heap:=g}) :
  wpAny (model prog w) A (pyNext (.ref z)) Q E s:=by
 let hT:s.TypeIs (.ref z) "zip":=⟨_,hz,O⟩;unfold pyNext;show qC (wpAny_attempt (wpAny_callSpecial?_slot (name:=s!"__next__") hT F.slot_zip_next (uN F.slot_zip_next hT F.entry_zip_next ?_ (F.args_zip_next_1 _))));show qar D f1 f2 f3 hz ti to a1 a2 a3 b1 b2 b3 hx hy hv λg y1 y2 y3 y4 y5 y6 y7 y8=>qM (hQ g y1 y2 y3 y4 y5 y6 y7 y8)
def qau{z TI TO i1 i2 i3 l1:Addr}{k:Nat}{xs:Array Value}{Q:Option Value->Shared->Prop}(hh:A.handled=none)(D:Z3 z TI TO i1 i2 i3)(f1:Off z TO i1 i2 i3 l1)(hz:IsZip s.heap z TI TO .none)(ti:dy s.heap TI (.ref i1) (.ref i2) (.ref i3))(a1:s.heap.IsListIter i1 l1 k)(b1:s.heap.IsList l1 xs)(hx:xs[k]?=none)(hQ:∀g,(∀c o,Off z TO i1 i2 i3 c->s.heap.get? c=!o->g.get? c=!o)->Q none {s with heap:=g}):wpAny (model prog w) A (pyNext (.ref z)) Q E s:=by
 let hT:s.TypeIs (.ref z) "zip":=⟨_,hz,O⟩;unfold pyNext;show qC (wpAny_attempt (wpAny_callSpecial?_slot (name:=s!"__next__") hT F.slot_zip_next (uN F.slot_zip_next hT F.entry_zip_next (qas (p:=.none) (q:=.none) (r:=.none) hh D f1 hz ti a1 b1 hx λg e hk he=>?_) (F.args_zip_next_1 _))));let⟨o,ho,hc⟩:=he;show qC (wA (T := "StopIteration") (b:=true) ⟨o,ho,hc⟩ isSubtype_stop (qM (hQ _ hk)))
end
abbrev gf(l:Addr):Obj:={cls:=.type "list_iterator",data:=.fields #[.ref l,.int 0 0]}
abbrev Cb(h:Heap)(l1 l2 l3:Addr):Heap:=((h.push (gf l1)).push (gf l2)).push (gf l3)
abbrev Cc(h:Heap)(l1 l2 l3:Addr):Heap:=(Cb h l1 l2 l3).push {cls:=.type "tuple",data:=.seq #[.ref h.objs.size,.ref (h.push (gf l1)).objs.size,.ref ((h.push (gf l1)).push (gf l2)).objs.size]}
abbrev Cd(h:Heap)(l1 l2 l3:Addr):Heap:=(Cc h l1 l2 l3).push {cls:=.type "tuple",data:=.seq #[.none,.none,.none]}
abbrev oW(h:Heap)(l1 l2 l3:Addr):Heap:=(Cd h l1 l2 l3).push {cls:=.type "zip",data:=.fields #[.none,.bool false,.bool false,.ref (Cb h l1 l2 l3).objs.size,.ref (Cc h l1 l2 l3).objs.size]}
def qav(l1 l2 l3:Addr)(xs ys zs:Array Value) :
  Meets (Builtin.«zip.__new__» ⟨[.type "zip",.ref l1,.ref l2,.ref l3],[]⟩) (λ_ R s=>s.heap.IsList l1 xs/\s.heap.IsList l2 ys/\s.heap.IsList l3 zs /\
   R (.ok (.ret (.ref (Cd s.heap l1 l2 l3).objs.size))) {s with heap:=oW s.heap l1 l2 l3}) :=
 .of_wp λprog w A R s h=>by
  let⟨hp,g,d,tk,os⟩:=s;let⟨b1,b2,b3,h⟩:=h;let hsub:=sub_zip;let c1:Heap.IsList (Shared.heap ⟨hp,g,d,tk,os⟩) l1 xs:=b1;let c2:Heap.IsList (Shared.heap ⟨hp.push (gf l1),g,d,tk,os⟩) l2 ys:=Heap.IsList.push b2 _;let c3:Heap.IsList (Shared.heap ⟨(hp.push (gf l1)).push (gf l2),g,d,tk,os⟩) l3 zs:=Heap.IsList.push (Heap.IsList.push b3 _) _
  wp_walk using xS c1,xS c2,xS c3
  show-⟨h⟩
def qaw(a b c:Value):checkTypeCall "zip" ⟨[a,b,c],[]⟩=pure Unit.unit:=by kernel_rfl
def qax(a b c:Value):checkBuiltinCall "zip.__new__" ⟨[.type "zip",a,b,c],[]⟩=pure Unit.unit:=by kernel_rfl
def qay(a b c d:Value):argsOk "object.__init__" ⟨[a,b,c,d],[]⟩:=by
 unfold argsOk;rw[signature?_of (id := "object.__init__") (n:=[95,95,116,105,110,105,95,95].map Char.ofNat) (o:=[116,99,101,106,98,111].map Char.ofNat) (by kernel_rfl) F.owner_object]
 kernel_rfl
def qaz{E:TH}{Q:TH}(b1:s.heap.IsList l1 xs)(b2:s.heap.IsList l2 ys)(b3:s.heap.IsList l3 zs)(h:∀g,IsZip g (~~~s+5) (~~~s+3) (~~~s+4) .none->dy g (~~~s+3) (.ref (~~~s)) (.ref (~~~s+1)) (.ref (~~~s+2)) ->
   dy g (~~~s+4) .none .none .none->g.IsListIter (~~~s) l1 0->g.IsListIter (~~~s+1) l2 0->g.IsListIter (~~~s+2) l3 0 ->
   (∀c o,s.heap.get? c=!o->g.get? c=!o)->Q (.ref (~~~s+5)) {s with heap:=g}) :
  wpAny (model prog w) A (call (.type "zip") [.ref l1,.ref l2,.ref l3]) Q E s:=by
 show callType_new F.called_zip {} (qaw _ _ _) (qax _ _ _) (λobj=>qay obj _ _ _) F.entry_zip_new (qav l1 l2 l3 xs ys zs) ⟨b1,b2,b3,?_⟩;let y1:(s.heap.push (gf l1)).objs.size= ~~~s+1:=rM ..;let y2:((s.heap.push (gf l1)).push (gf l2)).objs.size= ~~~s+2:=by rw[rM,y1]
 let y3:(Cb s.heap l1 l2 l3).objs.size= ~~~s+3:=by rw[rM,y2]
 let y4:(Cc s.heap l1 l2 l3).objs.size= ~~~s+4:=by rw[rM,y3]
 let y5:(Cd s.heap l1 l2 l3).objs.size= ~~~s+5:=by rw[rM,y4]
 let u:∀{g:Heap} {o o':Obj} {c:Addr},g.get? c=!o->(g.push o').get? c=!o:=λe=>qE _ e
 let g6:(oW s.heap l1 l2 l3).get? (Cd s.heap l1 l2 l3).objs.size=!_:=qR _ O;let g5:(oW s.heap l1 l2 l3).get? (Cc s.heap l1 l2 l3).objs.size=!_:=u (qR _ O);let g4:(oW s.heap l1 l2 l3).get? (Cb s.heap l1 l2 l3).objs.size=!_:=u (u (qR _ O));let g3:(oW s.heap l1 l2 l3).get? ((s.heap.push (gf l1)).push (gf l2)).objs.size=!_:=u (u (u (qR _ O)));let g2:(oW s.heap l1 l2 l3).get? (s.heap.push (gf l1)).objs.size=!_:=u (u (u (u (qR _ O))));let g1:(oW s.heap l1 l2 l3).get? (~~~s)=!_:=u (u (u (u (u (qR _ O)))));show _/\_;rw[y3,y4,y5]at g6;rw[y4]at g5;rw[y1,y2,y3]at g4;rw[y2]at g3;rw[y1]at g2;rw[y5];show⟨⟨_,g6,O⟩,h _ g6 g4 g5 ⟨_,g1,O,O⟩ ⟨_,g2,O,O⟩ ⟨_,g3,O,O⟩ λc o x=>u (u (u (u (u (u x)))))⟩
def xu(K:W.Frag)(a b c:Addr):It :=
 ⟨λi H=>∃xs ys zs x y z,SqL K H a xs/\SqL K H b ys/\SqL K H c zs/\xs[i]?=!x/\ys[i]?=!y/\zs[i]?=!z,
  λi H v H'=>∃T x y z,H T=none/\v=.ref T/\H'=af H T (.tup [x,y,z])/\∀xs ys zs,SqL K H a xs->SqL K H b ys->SqL K H c zs->xs[i]?=!x/\ys[i]?=!y/\zs[i]?=!z,
  λi H=>∃xs,SqL K H a xs/\xs⁻¹<=i⟩
structure Ox(h:Heap)(z TI TO i1 i2 i3 l1 l2 l3:Addr)(i:Nat):Prop where
 hz:IsZip h z TI TO .none
 ti:dy h TI (.ref i1) (.ref i2) (.ref i3)
 to:∃p q r,dy h TO p q r
 it1:h.IsListIter i1 l1 i
 it2:h.IsListIter i2 l2 i
 it3:h.IsListIter i3 l3 i
def Ce{h:Heap}{z TI TO i1 i2 i3 l l1 l2 l3:Addr}{i:Nat}{xs:Array Value}(st:Ox h z TI TO i1 i2 i3 l1 l2 l3 i)(hl:h.IsList l xs):Off z TO i1 i2 i3 l:=by
 let⟨p,q,r,to⟩:=st.to;let⟨o4,e4,c4,_⟩:=st.it1;let⟨o5,e5,c5,_⟩:=st.it2;let⟨o6,e6,c6,_⟩:=st.it3;let nz:Value.type "zip" ≠ Value.type "list":={}
 let nt:Value.type "tuple" ≠ Value.type "list":={}
 show⟨dF hl st.hz nz,dF hl to nt,dF hl e4 (by rw[c4];decide),dF hl e5 (by rw[c5];decide),dF hl e6 (by rw[c6];decide)⟩
def qaA{P:Program}{w:World}{K:W.Frag}{jd:TW}{k1:Nat}{tp:Pos}(l1 l2 l3 z TI TO i1 i2 i3:Addr)(D:Z3 z TI TO i1 i2 i3) :
  jJ P w K (.Tuple jd k1 tp) (xu K l1 l2 l3) [z,TI,TO,i1,i2,i3] z (λi h=>Ox h z TI TO i1 i2 i3 l1 l2 l3 i) where
 mem:=∅
 obj:=λi h st b hb=>by
  let c1:=st.hz;let c2:=st.ti;let⟨p,q,r,c3⟩:=st.to;let⟨o4,e4,_,g4⟩:=st.it1;let⟨o5,e5,_,g5⟩:=st.it2;let⟨o6,e6,_,g6⟩:=st.it3;simp only[List.mem_cons,List.not_mem_nil,or_false]at hb;rcases hb with rfl | rfl | rfl | rfl | rfl | rfl
  .show⟨_,c1,λv z=>by cases z⟩
  .show⟨_,c2,λv z=>by cases z⟩
  .show⟨_,c3,λv z=>by cases z⟩
  .show⟨_,e4,λv z=>by rw[g4]at z;cases z⟩
  .show⟨_,e5,λv z=>by rw[g5]at z;cases z⟩
  .show⟨_,e6,λv z=>by rw[g6]at z;cases z⟩
 keep:=λi h h' st k=>by
  let⟨p,q,r,c3⟩:=st.to;show⟨k z ∅ _ st.hz,k TI ∅ _ st.ti,⟨p,q,r,k TO ∅ _ c3⟩,st.it1.at λo e=>k i1 ∅ o e,st.it2.at λo e=>k i2 ∅ o e,st.it3.at λo e=>k i3 ∅ o e⟩
 item:=by
  intro X hP hw hK hc i aa s σ H E I hf st hg;subst hP hw hK;let⟨xs,ys,zs,x,y,v,q1,q2,q3,hx,hy,hv⟩:=hg;let⟨wz,kZ,p1,_⟩:=I.list q1;let⟨fG,jh,p2,_⟩:=I.list q2;let⟨qaB,Oy,p3,_⟩:=I.list q3;let⟨u1,oJ,Fk⟩:=kZ.get hx;let⟨u2,Fm,Fn⟩:=jh.get hy;let⟨u3,hu3,ru3⟩:=Oy.get hv;let⟨p,q,r,to⟩:=st.to;let⟨o4,e4,_⟩:=id st.it1;let⟨o5,e5,_⟩:=id st.it2;let⟨o6,e6,_⟩:=id st.it3;let⟨⟨d1,d2,d3,d4,d5⟩,⟨d6,d7,d8,d9⟩,_⟩:=D.all;show qat D (Ce st p1.isList) (Ce st p2.isList) (Ce st p3.isList) st.hz st.ti to st.it1 st.it2 st.it3 p1.isList p2.isList p3.isList (x:=u1) (y:=u2) (v:=u3) ‹oJ› ‹Fm› ‹hu3› λh' oK Fo Fp Fq qaC hT hsz hk=>?_
  show-⟨wpAny_letOwnedTupleGo_zip oK λh2 mJ sb=>?_⟩;let Oz:∀b∈[z,TI,TO,i1,i2,i3],b< ~~~s:=λb hb=>by
   simp only[List.mem_cons,List.not_mem_nil,or_false]at hb;rcases hb with rfl | rfl | rfl | rfl | rfl | rfl
   .show qK st.hz
   .show qK st.ti
   .show qK to
   .show qK e4
   .show qK e5
   .show qK e6
  let oM:=Oz z ∅;let k2:∀b o,b∉[z,TI,TO,i1,i2,i3]->s.heap.get? b=!o->h2.get? b=!o:=λb o hb e=>by
   simp only[List.mem_cons,List.not_mem_nil,or_false,not_or]at hb;let⟨n1,n2,n3,n4,n5,n6⟩:=hb;show(sb.2 b n1).trans (hk b o ⟨n1,n3,n4,n5,n6⟩ e)
  let gT:h2.get? (~~~s)=!{cls:=.type "tuple",data:=.seq #[u1,u2,u3]}:=(sb.2 _ (yG oM)).trans hT;let I1:Inv X aa σ H {s with heap:=h2,toks:=s.toks}:=I.moved hf k2;let hn:H (~~~s)=none:=I.hok.fresh (qG _);show⟨.ref (~~~s),af H (~~~s) (.tup [x,y,v]),I1.track ?_ hn (yG I.lt) (λy c ec z=>?_) (λq hq z=>?_) ?_,O,⟨~~~s,x,y,v,hn,O,O,λYY YZ zs' h1 h2 h3=>by rw[I.list_inj h1 q1,I.list_inj h2 q2,I.list_inj h3 q3];show⟨hx,hy,hv⟩⟩,?_,λb hb=>?_⟩
  .cases z:X.s₀.heap.get? (~~~s) with
   | none=>rfl
   | some u=>show qT (rA (qK z) I.sz) (rP _)
  .let⟨v,q⟩:=I.cell y c ec;show qT q.lt (by rw[z];show rP _)
  .show qT (qK (I.pin q hq).1) (by rw[z];show rP _)
  .show⟨by show 3<=sizeLine;decide,[u1,u2,u3],.cons Fk (.cons Fn (.cons ru3 .nil)),_,gT,O,_,O⟩
  .let Fs:h'.get? TI=!_:=hk TI _ ⟨d1,d6,d7,d8,d9⟩ st.ti;show⟨mJ,(sb.2 _ d1).trans Fs,⟨_,_,_,(sb.2 _ d2).trans Fo⟩,Fp.at λo e=>(sb.2 _ d3).trans e,Fq.at λo e=>(sb.2 _ d4).trans e,qaC.at λo e=>(sb.2 _ d5).trans e⟩
  .rw[aF (rC (Oz b hb))];show(hf b hb).1
 done:=by
  intro X hP hw hK hc i aa s σ H E I hf st hg;subst hP hw hK;let⟨xs,q1,hx⟩:=hg;let⟨wz,kZ,p1,_⟩:=I.list q1;let qm:=kZ⁻¹;show qau (I.ok.hd hc) D (Ce st p1.isList) st.hz st.ti st.it1 p1.isList (by simp;omega) λh' eb=>⟨O,I.moved (t':=s.toks) hf λb o hb e=>?_⟩
  simp only[List.mem_cons,List.not_mem_nil,or_false,not_or]at hb;let⟨n1,n2,n3,n4,n5,n6⟩:=hb;show eb b o ⟨n1,n3,n4,n5,n6⟩ e
 self:=λ_ _ _ _ _ st h=>wpAny_pyIter_zip st.hz h
inductive OA(K:W.Frag)(R:It->Hp->Prop):List V->Hp->Prop
|m {vs H1} a b c:vs=[.ref a,.ref b,.ref c]->(∃xs,SqL K H1 a xs)->(∃ys,SqL K H1 b ys)->(∃zs,SqL K H1 c zs)->R (xu K a b c) H1->OA K R vs H1
def qaD(K:W.Frag)(ta:TA):TI:=λσ H R=>ta σ H (OA K R)
section
variable{X:Cx}
def qaE{jd:TW}{k1:Nat}(hg:Gl X "zip")(hm:X.mg "zip" = none)(ha:PA X [a,b,c] ta)(hs:starEach [a,b,c] X.env=[(false,eval a X.env),(false,eval b X.env),(false,eval c X.env)]:=by rfl)(oN:starEach [b,c] X.env=[(false,eval b X.env),(false,eval c X.env)]:=by rfl) :
  PI X (.Tuple jd k1 tp) (.Call (.Name "zip" p) [a,b,c] [] pos) (qaD X.K ta):=by
 intro aa s σ H R I h;show Call_ (i5 I hg hm Nt (xT (aT (ha pos aa s σ H _ I h) λus s1 ⟨vs,H1,I1,r1,q1⟩=>?_) (by rw[hs,oN]) (by rw[oN];rfl)));let⟨l1,l2,l3,e,⟨xs,w1⟩,⟨ys,w2⟩,⟨zs,w3⟩,q⟩:=q1;subst e;cases r1 with
 | cons r rr =>
   cases rr with
   | cons r' Ft =>
     cases Ft with
     | cons FB qaF =>
       cases qaF
       cases r
       cases r'
       cases FB
       let⟨wz,kZ,p1,_⟩:=I1.list w1
       let⟨fG,jh,p2,_⟩:=I1.list w2
       let⟨qaB,Oy,p3,_⟩:=I1.list w3
       show qaz p1.isList p2.isList p3.isList λh' hz BN BO it1 it2 it3 hk=>?_
       let I2:Inv X aa σ H1 {s1 with heap:=h'}:=I1.kept (t':=s1.toks) hk
       generalize hn: ~~~s1=n at hz BN BO it1 it2 it3
       let D:Z3 (n+5) (n+3) (n+4) n (n+1) (n+2):=⟨by simp[Nat.succ_ne_self]⟩
       show wpAny_pyIter_zip hz ⟨n+5,[n+5,n+3,n+4,n,n+1,n+2],_,_,H1,O,I2,qaA l1 l2 l3 (n+5) (n+3) (n+4) n (n+1) (n+2) D,⟨hz,BN,⟨_,_,_,BO⟩,it1,it2,it3⟩,λb hb=>?_,q⟩
       let hb': ~~~s1<=b:=by
         rw[hn]
         simp only[List.mem_cons,List.not_mem_nil,or_false]at hb
         rcases hb with rfl | rfl | rfl | rfl | rfl | rfl
         · show yX _ _
         · show yX _ _
         · show yX _ _
         · show qG _
         · show yX _ _
         · show yX _ _
       show I1.fpOk hb' (I1.hok.fresh hb')
def qaG{K:W.Frag}{a b c:Addr}{xs ys zs:List V}{g:TG}{tb:TS}{D:gN}{σ:St}{H:Hp}(l1:ys⁻¹=xs⁻¹)(l2:zs⁻¹=xs⁻¹)(Pv:Nat->St->Hp->Prop)(h0:Pv 0 σ H)(hl:∀i σ H,i<=xs⁻¹->Pv i σ H->SqL K H a xs/\SqL K H b ys/\SqL K H c zs)(hs:∀i x y z σ H T,xs[i]?=!x->ys[i]?=!y->zs[i]?=!z->H T=none->Pv i σ H->g (.ref T) σ (af H T (.tup [x,y,z])) λaY H2=>tb {D with nx:=Pv (i+1),ct:=Pv (i+1),bk:=D.nx} aY H2)(hd:∀σ H,Pv xs⁻¹ σ H->D.nx σ H) :
  ∃W:Nat->Nat->St->Hp->Prop,(∃m,W 0 m σ H)/\∀i m σ H,W i m σ H ->
   ((xu K a b c).stop i H/\D.nx σ H)\/((xu K a b c).go i H/\∃N:St->Hp->Prop,(∀ae H',N ae H'->∃m',m'<m/\W (i+1) m' ae H')/\∀x H',(xu K a b c).yld i H x H'->g x σ H' λaY H2=>tb {D with nx:=N,ct:=N,bk:=D.nx} aY H2):=by
 show⟨λi m σ H=>m=xs⁻¹-i/\i<=xs⁻¹/\Pv i σ H,⟨xs⁻¹,∅,rL _,h0⟩,?_⟩;ext i m σ H ⟨rfl,hi,p⟩;let⟨q1,q2,q3⟩:=hl i σ H hi p
 by_cases aX:i<xs⁻¹
 .show .inr ⟨⟨xs,ys,zs,xs[i],ys[i],zs[i],q1,q2,q3,by simp[aX],by simp[l1,aX],by simp[l2,aX]⟩,Pv (i+1),λae H' p'=>⟨xs⁻¹-(i+1),(),O,aX,p'⟩,λx H' y=>?_⟩;let⟨T,z1,z2,z3,hT,e1,e2,y⟩:=y;subst e1 e2;let⟨y1,y2,y3⟩:=y xs ys zs q1 q2 q3;show hs i z1 z2 z3 σ _ T y1 y2 y3 hT p
 .let e:i=xs⁻¹:=()
  subst e;show .inl ⟨⟨xs,q1,qG _⟩,hd σ H p⟩
def qaH(K:W.Frag):V->V->Hp->VK->Prop:=λx y H Q=>∃p xs,∃i:Nat,∃v,x=.ref p/\y=.int i/\SqL K H p xs/\xs[i]?=!v/\Q v H
def qaI:Kt X (qaH X.K):=by
 intro aa s σ H x y v u Q I rx ry h;let⟨p,xs,i,z,rfl,rfl,hq,he,q⟩:=h;cases rx;let⟨t,rfl⟩:=ry;let⟨ah,r,pl,hz⟩:=I.list hq;let⟨w,ew,ui⟩:=r.get he;let hl:=r⁻¹;let hn:=pP;let lt:=(qF.mp he).1;show wpAny_getItem_list pl.isList () () ?_ ⟨z,H,I,ui,q⟩;simpa using ew
end
end L2
namespace Shr
open L2 Bk Gen Gd
structure BnS(mg:TJ):Prop where
 isinstance:mg "isinstance" = none
 len:mg "len" = none
 range:mg "range" = none
 int:mg "int" = none
 bool:mg "bool" = none
 list:mg "list" = none
 min:mg "min" = none
 max:mg "max" = none
 sum:mg "sum" = none
 zip:mg "zip" = none
 enumerate:mg "enumerate" = none
 sorted:mg "sorted" = none
 all:mg "all" = none
abbrev LI(H:Hp)(a:Addr)(ns:TN):Prop:=H a=!.lst ⇑ns
def qaJ{ns:TN}{k:Nat}(h:k<ns⁻¹)(d:Int):bI ⇑ns (k:Int)=!.int (ns.getD k d):=eQ (by rw[qJ,qB h,qV,qB h];rfl)
def at_getD{ns:TN}{k:Nat}{n:Int}(h:ns[k]?=!n)(d:Int):ns.getD k d=n:=by rw[qV,h];rfl
def Gc{n k:Nat}(h:k<n):fR n (k:Int)=!k:=by
 unfold fR;rw[qZ (),qZ ()];rfl
def qaK{M c:Int}{t:Nat}(hM:0<M)(d1:M∣2520)(d2:c∣2520)(ne:∀s:Nat,s<t->M*((s:Int)+1) % c≠0)(e:M*((t:Int)+1) % c=0):M*((t:Int)+1)∣2520:=by
 let⟨q,hq⟩:=d1;let q0:0<q:=Int.pos_of_mul_pos_right () hM;obtain⟨n,rfl⟩:∃n:Nat,q=(n:Int):=⟨q.toNat,()⟩;let dv:=Nat.div_add_mod n (t+1);let lt:=Nat.mod_lt n (show 0<t+1 by omega);generalize hr:n % (t+1)=r at dv lt;generalize n / (t+1)=a at dv;let en:(n:Int)=((t:Int)+1)*a+r:=by rw[<-dv];push_cast;rfl
 cases r with
 | zero =>
   show⟨(a:Int),?_⟩
   rw[hq,en,Int.mul_assoc]
   simp
 | succ r =>
   exfalso
   show ne r () ?_
   let e1:c∣M*((t:Int)+1):=Int.dvd_of_emod_eq_zero e
   let e2:c∣M*(n:Int):=hq ▸ d2
   let e3:M*(n:Int)=M*((t:Int)+1)*a+M*((r:Int)+1):=by
     rw[en,Int.mul_add,Int.mul_assoc]
     push_cast
     rfl
   rw[e3]at e2
   show Int.emod_eq_zero_of_dvd ((Int.dvd_add_right (Int.dvd_trans e1 ⟨_,O⟩)).mp e2)
def qaL{c:Int}(h1:1<=c)(h2:c<=9):c∣2520:=by
 have:=(Yu ⟨h1,h2⟩).2;show⟨2520 / c,by rw[Int.mul_comm];show this.symm⟩
theorem OB:∀{l:TN},l≠[]->∃t,t∈l/\∀x∈l,x<=t
 | [a],_=>⟨a,rQ.mpr O,λx hx=>Int.le_of_eq (rQ.mp hx)⟩
 | a :: b :: l, _ => by
   let⟨t,h1,h2⟩:=OB (l:=b::l) ∅
   by_cases c:a<=t
   · show⟨t,qW _ h1,λx hx=>?_⟩
     rcases qN.mp hx with rfl | h
     · show c
     · show h2 x h
   · refine⟨a,rF,λx hx=>?_⟩
     rcases qN.mp hx with rfl | h
     · show xD _
     · have:=h2 x h
       omega
end Shr
namespace L2
open PyProof.Rows
end L2
namespace Gen
open L2 Bk
end Gen
namespace Bd
open L2 Bk Gen Gd
end Bd
namespace Shr
end Shr
namespace Gd
open Classical in
noncomputable def dH(cols:Nat)(cs:List (Nat×Nat)):List Pl:=if h:∃ps,Placed cols cs ps then Classical.choose h else[]
def Placed.eq{cols:Nat}{cs:List (Nat×Nat)}(h:Placed cols cs ps):ps=dH cols cs:=by
 unfold dH;rw[dif_pos ⟨ps,h⟩];show h.uniq (Classical.choose_spec (⟨ps,h⟩:∃ps,Placed cols cs ps))
end Gd
namespace Sp0
open L2 Bk Gen Gd Bd Shr
def dI(ls:TB)(sp:TC)(n:Nat):Int×Int:=((aV sp n).1+aC ls n 3,max 0 ((aV sp n).2-2*aC ls n 3))
def j6(ls:TB)(rm:Int×Int)(m:Nat):Int:=min (aC ls m 11) (rm.2 / 2)
def xw(ds:List Nd)(ls:TB)(rm:Int×Int)(m:Nat):Int×Int:=if ds[m]?.map Nd.k=!Kd.aside then(rm.1+aC ls m 10*(rm.2-j6 ls rm m),j6 ls rm m)else rm
def lJ(left:Int)(x:TN):TC:=(List.range x⁻¹).map λk=>(left+(x.take k).sum,x.getD k 0)
def bP(ls:TB)(ks:TM):List (Nat×Nat):=ks.map λm=>((aC ls m 8).toNat,(aC ls m 9).toNat)
def putAll(sp:TC):TM->List (Int×Int)->List (Int×Int)
 | k::ks,z::zs=>putAll (sp.set k z) ks zs
 | _,_=>sp
theorem Ge:∀(ks:TM) (zs:TC) (sp:TC),(putAll sp ks zs)⁻¹=sp⁻¹
 | [],_,_=>by unfold putAll;rfl
 | _::_,[],_=>by unfold putAll;rfl
 | k :: ks, z :: zs, sp => by
   unfold putAll
   rw[Ge ks zs,uG]
section
variable{ds:List Nd}{ls:TB}{bs:TC}{wide:Int}
def qaM(n:Nat):(ay ds n).Nodup:=List.Pairwise.filter _ List.nodup_range
end
structure lK(l:TN):Prop extends LkOk l where
 wt:1<=l.getD 4 0/\l.getD 4 0<=9
 least4:l.getD 5 0<=4000
 most4:l.getD 6 0<=4000
 deep:1<=l.getD 9 0/\l.getD 9 0<=4
 side:l.getD 10 0=0\/l.getD 10 0=1
def OC{left:Int}{x:TN}:(lJ left x)⁻¹=x⁻¹:=by unfold lJ;rw[qA,yJ]
def c9(wd cols:Int):TN:=(List.range cols.toNat).map λc:Nat=>if(c:Int)<wd-wd / cols*cols then wd / cols+1 else wd / cols
def Gf{wd cols:Int}:(c9 wd cols)⁻¹=cols.toNat:=by unfold c9;rw[qA,yJ]
abbrev KL(H:Hp)(a:Addr)(ks:TM):Prop:=LI H a (ks.map λ(j:Nat)=>(j:Int))
structure InS(H:Hp)(B p L:Addr)(ds:List Nd)(ls:TB)(bs:TC):Prop where
 bk:b8 (λ_=>True) H B ds
 lk:LstAt LkAt H p ls
 bd:LstAt PrAt H L bs
def InS.same{ls:TB}{bs:TC}(h:InS H B p L ds ls bs)(s:Same H H'):InS H' B p L ds ls bs:=by
 let⟨as,e,nd⟩:=h.bk;show⟨⟨as,s _ _ e,nd.keep s.keep λ_ _ _=>trivial⟩,cS s h.lk,ge s h.bd⟩
inductive Cf:List V->Hp->VK->XK->Prop
|m (p S:Addr) (n:Nat) (ls:TB) (sp:TC):vs=[.ref p,.ref S,.int n]->LstAt LkAt H p ls->LstAt PrAt H S sp->n<ls⁻¹->n<sp⁻¹->(∀l∈ls,l⁻¹=13)->(∀(t:Addr) (H':Hp),H t=none->Same H H'->PrAt H' t (dI ls sp n)->Q (.ref t) H')->Cf vs H Q E
inductive xx(f:TB->List (Int×Int)->Nat->Int):List V->Hp->VK->XK->Prop
|m (p L k:Addr) (ks:TM) (ls:TB) (bs:TC):vs=[.ref p,.ref L,.ref k]->LstAt LkAt H p ls->LstAt PrAt H L bs->KL H k ks->ks⁻¹<=100->(∀m∈ks,m<ls⁻¹/\m<bs⁻¹)->(∀l∈ls,l⁻¹=13)->(∀(t:Addr) (H':Hp),H t=none->Same H H'->LI H' t (ks.map (f ls bs))->Q (.ref t) H')->xx f vs H Q E
inductive Gg:List V->Hp->VK->XK->Prop
|m (p k:Addr) (ks:TM) (ls:TB):vs=[.ref p,.ref k]->LstAt LkAt H p ls->KL H k ks->ks⁻¹<=100->(∀m∈ks,m<ls⁻¹)->(∀l∈ls,l⁻¹=13)->(∀(t:Addr) (H':Hp),H t=none->Same H H'->LI H' t (ks.map λm=>aC ls m 4)->Q (.ref t) H')->Gg vs H Q E
inductive Cg:List V->Hp->VK->XK->Prop
|m (p k:Addr) (ks:TM) (ls:TB):vs=[.ref p,.ref k]->LstAt LkAt H p ls->KL H k ks->ks⁻¹<=100->(∀m∈ks,m<ls⁻¹)->(∀l∈ls,lK l)->(∀(t:Addr) (H':Hp),H t=none->Same H H'->LstAt TupAt H' t (bP ls ks)->Q (.ref t) H')->Cg vs H Q E
inductive Gh:List V->Hp->VK->XK->Prop
|m (left:Int) (a:Addr) (x:TN):vs=[.int left,.ref a]->LI H a x->x⁻¹<=100->(∀(t:Addr) (H':Hp),H t=none->Same H H'->LstAt PrAt H' t (lJ left x)->Q (.ref t) H')->Gh vs H Q E
inductive Gi:List V->Hp->VK->XK->Prop
|m (wd cols:Int):vs=[.int wd,.int cols]->1<=cols->cols<=6->(∀(t:Addr) (H':Hp),H t=none->Same H H'->LI H' t (c9 wd cols)->Q (.ref t) H')->Gi vs H Q E
inductive Gj:List V->Hp->VK->XK->Prop
|m (p r:Addr) (m:Nat) (ls:TB) (rm:Int×Int):vs=[.ref p,.ref r,.int m]->LstAt LkAt H p ls->PrAt H r rm->m<ls⁻¹->(∀l∈ls,lK l)->(∀(t:Addr) (H':Hp),H t=none->Same H H'->PrAt H' t (rm.1+aC ls m 10*(rm.2-j6 ls rm m),j6 ls rm m)->Q (.ref t) H')->Gj vs H Q E
def lkg{ls:TB}{n j:Nat}(hn:n<ls⁻¹)(l13:∀l∈ls,l⁻¹=13)(hj:j<13):(⇑(ls[n]'hn))[j]?=!.int (aC ls n j):=by
 let hl:=l13 _ (rJ hn);let ej:(ls[n]'hn)[j]?=!(ls[n]'hn)[j]'(by omega):=qB ();have:aC ls n j=(ls[n]'hn)[j]'(by omega):=by
  unfold aC;rw[qB hn,Option.getD_some,qV,ej];rfl
 rw[qJ,ej,this];rfl
def xy{ls:TB}{ks:TM}:(bP ls ks)⁻¹=ks⁻¹:=by unfold bP;rw[qA]
theorem putAll_snoc:∀{ks:TM} {zs:TC} {sp:TC} {k:Nat} {z:Int×Int},ks⁻¹=zs⁻¹->putAll sp (ks++[k]) (zs++[z])=(putAll sp ks zs).set k z
 | [],[],sp,k,z,_=>by simp[putAll]
 | [],_::_,_,_,_,h=>by simp at h
 | _::_,[],_,_,_,h=>by simp at h
 | a :: ks, b :: zs, sp, k, z, h => by
   let h':ks⁻¹=zs⁻¹:=‹h›
   show putAll (sp.set a b) (ks++[k]) (zs++[z])=(putAll (sp.set a b) ks zs).set k z
   show putAll_snoc h'
def Ci{bs:TC}{m:Nat}(h:m<bs⁻¹):bs[m]?=!aV bs m:=by
 unfold aV;rw[qB h];rfl
def eD{ks:TM}{i:Nat}(h:(⇑(ks.map λ(j:Nat)=>(j:Int)))[i]?=!x):∃m,ks[i]?=!m/\x=.int (m:Int):=by
 rw[qJ,qJ]at h;cases e:ks[i]? with
 | none=>rw[e]at h;cases h
 | some m=>rw[e]at h;show⟨m,O,(rD h).symm⟩
def OD{ls:TB}{rm:Int×Int}{m:Nat}(e:ds[m]?=!dm):xw ds ls rm m=if dm.k=Kd.aside then(rm.1+aC ls m 10*(rm.2-j6 ls rm m),j6 ls rm m)else rm:=by
 unfold xw;rw[e];show(if some dm.k=!Kd.aside then _ else _)=_
 by_cases ha:dm.k=.aside
 .rw[qZ ha,qZ (xJ some ha)]
 .rw[qX ha,qX λz=>ha (rD z)]
def pieceKinds:TV:=[s!"text",s!"head",s!"note"]
def Gk{x:TN}{n:Nat}:dU ⇑x none (!(n:Int))=⇑(x.take n):=by
 unfold dU;rw[HT.sIx_none,HT.sIx_nat,qA,wD,Nat.sub_zero,<-vA]
 by_cases h:n<=x⁻¹
 .rw[uH h]
 .rw[Nat.min_eq_right (),yN,qH ()]
def Gm(K:W.Frag)(hK:X.K=K)(hc:X.calm=true):dB X (.builtin "sum") (xa K):=by
 subst hK;show iN hc
end Sp0
namespace Ins
open L2 Bk Gen Gd Bd Shr Sp0
def b9(ds:List Nd)(e:Int)(n:Nat):TM:=(List.range n).filter λj=>decide (ds[j]?.map Nd.e=!e)
def cJ(ds:List Nd)(m:Nat):Bool:=decide (ds[m]?.map Nd.k=!Kd.aside)
def cz(ds:List Nd)(n:Nat):Option Nat:=match ds[n]? with
 | some d=>if d.k=.text then(b9 ds d.e n).getLast?.filter (cJ ds)else none
 | none=>none
noncomputable def io(ls:TB)(hs:Nat->Int)(cols:Nat)(ks:TM):List (Nat×Int) :=
 (ks.zip (dH cols (bP ls ks))).map λx=>(x.1,((bc ((dH cols (bP ls ks)).zip (ks.map hs)) (many (dH cols (bP ls ks)))).take x.2.r).sum)
def dJ(ds:List Nd)(ls:TB)(hs:Nat->Int)(acc:List (Nat×Int)×Int)(m:Nat):List (Nat×Int)×Int :=
 match cz ds m with
 | none=>(acc.1++[(m,acc.2+if acc.1=[]then 0 else aC ls m 2)],acc.2+(if acc.1=[]then 0 else aC ls m 2)+hs m)
 | some a=>(acc.1++[(a,acc.2+if acc.1=[]then 0 else aC ls m 2),(m,acc.2+if acc.1=[]then 0 else aC ls m 2)],acc.2+(if acc.1=[]then 0 else aC ls m 2)+max (hs a) (hs m))
def eW(ds:List Nd)(ls:TB)(hs:Nat->Int)(ks:TM):List (Nat×Int)×Int:=(ks.filter λm=>(Bool.not (cJ ds m))).foldl (dJ ds ls hs) ([],0)
noncomputable def eX(ds:List Nd)(ls:TB)(hs:Nat->Int)(n:Nat):List (Nat×Int) :=
 match ds[n]?.map Nd.k with
 | some .text | some .head | some .note=>[]
 | some .shelf=>(ay ds n).map λm=>(m,0)
 | some .grid=>io ls hs (aC ls n 7).toNat (ay ds n)
 | _=>(eW ds ls hs (ay ds n)).1
def OE{n e:Nat}(h:ds[n]?=!d)(he:d.e=(e:Int)):∃r,ay ds e=b9 ds e n++n::r:=by
 let hn:n<ds⁻¹:=(qF.mp h).1;show⟨((List.range (ds⁻¹-n-1)).map (n+1 + ·)).filter λj=>decide (ds[j]?.map Nd.e=!(e:Int)),?_⟩;let e1:List.range ds⁻¹=List.range n++n::(List.range (ds⁻¹-n-1)).map (n+1 + ·):=by
  have:ds⁻¹=n+(1+(ds⁻¹-n-1)):=()
  conv=>lhs;rw[this,List.range_add,List.range_add]
  rw[qD,rZ];simp[Function.comp_def,Nat.add_assoc]
 unfold ay b9;rw[e1,xB,List.filter_cons,qZ (by rw[h];show qQ (xJ some he))]
def qx{e:Int}{n m:Nat}(h:m∈b9 ds e n):m<n:=xC.mp (xL.mp h).1
def qaN{e n m:Nat}(hn:n<ds⁻¹)(h:m∈b9 ds e n):m∈ay ds e:=by
 let⟨h1,h2⟩:=xL.mp h;show xL.mpr ⟨xC.mpr (uK (xC.mp h1) hn),h2⟩
def Cj{n a:Nat}(h:cz ds n=!a):∃d,ds[n]?=!d/\d.k=.text/\(b9 ds d.e n).getLast?=!a/\cJ ds a=true:=by
 unfold cz at h;cases e:ds[n]? with
 | none=>rw[e]at h;cases h
 | some d =>
   rw[e]at h
   simp only at h
   by_cases hk:d.k=.text
   · rw[qZ hk]at h
     let⟨h1,h2⟩:=Option.filter_eq_some_iff.mp h
     show⟨d,O,hk,h1,h2⟩
   · rw[qX hk]at h;cases h
def Gn{ls:TB}{hs:Nat->Int}{ks:TM}{m:Nat}:eW ds ls hs (ks++[m])=if cJ ds m=true then eW ds ls hs ks else dJ ds ls hs (eW ds ls hs ks) m:=by
 unfold eW;rw[xB,List.foldl_append];cases h:cJ ds m<;>simp[h]
theorem Go{ls:TB}{hs:Nat->Int}{e:Nat}:∀k,k<=(ay ds e)⁻¹->((eW ds ls hs ((ay ds e).take k)).1.map Prod.fst).Sublist ((ay ds e).take k)
 | 0,_=>by simp[eW]
 | k + 1, hk => by
   let ih:=Go (ds:=ds) (ls:=ls) (hs:=hs) (e:=e) k ()
   obtain⟨m,em⟩:∃m,(ay ds e)[k]?=!m:=⟨_,qB ()⟩
   let et:(ay ds e).take (k+1)=(ay ds e).take k++[m]:=by rw[qP,em];rfl
   rw[et,Gn]
   by_cases ha:cJ ds m=true
   · rw[qZ ha]
     show ih.trans (List.sublist_append_left _ _)
   · rw[if_neg ha]
     unfold dJ
     cases hb:cz ds m with
     | none =>
       change (((eW ds ls hs ((ay ds e).take k)).1++[(m,_)]).map Prod.fst).Sublist _
       rw[qD]
       show ih.append (List.Sublist.refl _)
     | some a =>
       let⟨d,ed,_,hl,hA⟩:=Cj hb
       let⟨d',lN,he⟩:=BS (qL em)
       rw[ed]at lN
       cases lN
       let⟨r,er⟩:=OE ed he
       let hm:m∉b9 ds e m:=λz=>rP _ (qx z)
       let nd:(ay ds e).Nodup:=qaM e
       let ek:k=(b9 ds e m)⁻¹:=by
         let h2:(ay ds e)[(b9 ds e m)⁻¹]?=!m:=by rw[er,rG (qG _),Nat.sub_self];rfl
         show(List.getElem?_inj (qF.mp em).1 nd).mp (em.trans h2.symm)
       let ta:(ay ds e).take k=b9 ds e m:=by rw[er,ek,List.take_left'];rfl
       rw[he]at hl
       obtain⟨ys,ey⟩:∃ys,b9 ds e m=ys++[a]:=List.getLast?_eq_some_iff.mp hl
       let k1:k=ys⁻¹+1:=by rw[ek,ey,qI];rfl
       let ty:(ay ds e).take ys⁻¹=ys:=by
         have:(ay ds e).take ys⁻¹=((ay ds e).take k).take ys⁻¹:=by rw[List.take_take,uH ()]
         rw[this,ta,ey,List.take_left']
         rfl
       let gx:=Go (ds:=ds) (ls:=ls) (hs:=hs) (e:=e) ys⁻¹ ()
       change (((eW ds ls hs ((ay ds e).take k)).1++[(a,_),(m,_)]).map Prod.fst).Sublist _
       rw[ta,ey,Gn,qZ hA,qD]
       rw[ty]at gx
       have:=gx.append (List.Sublist.refl [a,m])
       simpa using this
theorem OF{α β:Type}:∀{l:List α} {m:List β},((l.zip m).map Prod.fst).Sublist l
 | [],_=>∅
 | _::_,[]=>∅
 | x :: l, y :: m => by
   rw[List.zip_cons_cons,xY]
   show List.Sublist.cons_cons _ OF
def OG{ls:TB}{hs:Nat->Int}{n:Nat}:((eX ds ls hs n).map Prod.fst).Sublist (ay ds n):=by
 unfold eX
 split
 .show List.nil_sublist _
 .show List.nil_sublist _
 .show List.nil_sublist _
 .rw[rZ];show((ay ds n).map λm=>m).Sublist _;rw[List.map_id'];show List.Sublist.refl _
 .unfold io;rw[rZ];have:((ay ds n).zip (dH (aC ls n 7).toNat (bP ls (ay ds n)))).map (Prod.fst∘λx=>(x.1,((bc ((dH (aC ls n 7).toNat (bP ls (ay ds n))).zip ((ay ds n).map hs)) (many (dH (aC ls n 7).toNat (bP ls (ay ds n))))).take x.2.r).sum))=((ay ds n).zip (dH (aC ls n 7).toNat (bP ls (ay ds n)))).map Prod.fst:=rfl;rw[this];show OF
 .have:=Go (ds:=ds) (ls:=ls) (hs:=hs) (e:=n) _ (qG _)
  rwa [yN]at this
end Ins
namespace Gd
open L2 Gen
structure HsW(ps:List Pl)(hs:TN):Prop where
 len:hs⁻¹=ps⁻¹
 le:ps⁻¹<=100
 ro:∀p∈ps,1<=p.d/\p.r+p.d<=400
def HsW.many{hs:TN}(ok:HsW ps hs):many ps<=400:=qal λp hp=>(ok.ro p hp).2
inductive Ck:List V->Hp->VK->XK->Prop
|m (a b:Addr) (ps:List Pl) (hs:TN):vs=[.ref a,.ref b]->LstAt PlAt H a ps->H b=!.lst ⇑hs->HsW ps hs->(∀(L:Addr) (H':Hp),H L=none->Same H H'->H' L=!.lst ⇑(bc (ps.zip hs) (many ps))->Q (.ref L) H')->Ck vs H Q E
def PsOk.hs{cols:Nat}{hs:TN}(ok:PsOk cols ps)(le:ps⁻¹<=100)(e:hs⁻¹=ps⁻¹):HsW ps hs:=⟨e,le,λp hp=>⟨(ok p hp).2.1,by have:=(ok p hp).2.2.2.2.1;omega⟩⟩
end Gd
namespace Shr
open L2 Bk Gen Gd
structure Cm(F R W:TN):Prop where
 n:F.length<=100
 lr:R.length=F.length
 lw:W.length=F.length
 w:∀k,1<=W.getD k 1/\W.getD k 1<=9
def InB(Bd:Int)(l:TN):=∀v∈l,0<=v/\v<=Bd
def InB.snoc{Bd:Int}{l:TN}{v:Int}(h:InB Bd l)(h0:0<=v)(h1:v<=Bd):InB Bd (l++[v]):=λu hu=>by
 rcases rE.mp hu with z | z
 .show h u z
 .rw[rQ.mp z];show⟨h0,h1⟩
def InB.set{Bd:Int}{l:TN}{v:Int}(h:InB Bd l)(k:Nat)(h0:0<=v)(h1:v<=Bd):InB Bd (l.set k v):=λu hu=>by
 rcases List.mem_or_eq_of_mem_set hu with z | z
 .show h u z
 .rw[z];show⟨h0,h1⟩
def InB.at{Bd:Int}{l:TN}(h:InB Bd l){k:Nat}{v:Int}(e:l[k]?=!v):0<=v/\v<=Bd:=h v (qL e)
inductive Cn:List V->Hp->VK->XK->Prop
|m (lev M Bd:Int) (f r w:Addr) (F R W:TN):vs=[.int lev,.ref f,.ref r,.ref w,.int M]->LI H f F->LI H r R->LI H w W->Cm F R W->InB Bd F->InB Bd R->0<M->M<=2520->(∀(t:Addr) (x:TN) (H':Hp),H t=none->Same H H'->LI H' t x->x⁻¹=F.length->InB Bd x->Q (.ref t) H')->Cn vs H Q E
inductive Gp:List V->Hp->VK->XK->Prop
|m (w:Addr) (W:TN):vs=[.ref w]->LI H w W->(∀k,1<=W.getD k 1/\W.getD k 1<=9)->(∀M:Int,0<M->M<=2520->Q (.int M) H)->Gp vs H Q E
inductive Gq:List V->Hp->VK->XK->Prop
|m (wd M Bd:Int) (f r w:Addr) (F R W:TN):vs=[.int wd,.ref f,.ref r,.ref w,.int M]->LI H f F->LI H r R->LI H w W->Cm F R W->InB Bd F->InB Bd R->0<M->M<=2520->R≠[]->(∀(lev:Int) (H':Hp),Same H H'->Q (.int lev) H')->Gq vs H Q E
inductive Gr:List V->Hp->VK->XK->Prop
|m (wd Bd:Int) (f r w:Addr) (F R W:TN):vs=[.int wd,.ref f,.ref r,.ref w]->LI H f F->LI H r R->LI H w W->Cm F R W->InB Bd F->InB Bd R->(∀(t:Addr) (x:TN) (H':Hp),H t=none->Same H H'->LI H' t x->x⁻¹=F.length->InB Bd x->Q (.ref t) H')->Gr vs H Q E
end Shr
namespace Sp0
open L2 Bk Gen Gd Bd Shr
structure Cx3(M:Int)(ds:List Nd)(ls:TB)(bs:TC):Prop where
 le:ds⁻¹<=100
 pos:0<ds⁻¹
 ll:ls⁻¹=ds⁻¹
 bl:bs⁻¹=ds⁻¹
 lk:∀l∈ls,lK l
 bb:∀b∈bs,0<=b.1/\b.1<=M
 m4:4000<=M
def SpB(Bd:Int)(z:TC):=∀s∈z,0<=s.2/\s.2<=Bd
section
variable{ds:List Nd}{ls:TB}{bs:TC}{M:Int}
def Cx3.look(c:Cx3 M ds ls bs){n:Nat}(h:n<ds⁻¹):∃l,ls[n]?=!l/\lK l/\∀i,aC ls n i=l.getD i 0:=by
 let hl:n<ls⁻¹:=by rw[c.ll];show h
 show⟨ls[n],qB hl,c.lk _ (rJ hl),λi=>?_⟩;unfold aC;rw[qB hl];rfl
def Cx3.l13(c:Cx3 M ds ls bs):∀l∈ls,l⁻¹=13:=λl h=>(c.lk l h).len
def Cx3.ok(c:Cx3 M ds ls bs)(n:Nat):Cm ((ay ds n).map (cG ls bs)) ((ay ds n).map (gb ls bs)) ((ay ds n).map λm=>aC ls m 4):=by
 let le:=c.le;let kl:=lE ds n;show⟨by rw[qA];omega,by rw[qA,qA],by rw[qA,qA],λk=>?_⟩
 by_cases hk:k<(ay ds n)⁻¹
 .let⟨l,_,ok,lv⟩:=c.look (cZ (rJ hk));rw[at_getD (n:=aC ls (ay ds n)[k] 4) (by rw[qJ,qB hk];rfl),lv];show ok.wt
 .rw[qV,xM (by rw[qA];omega)];decide
def Cx3.cells(c:Cx3 M ds ls bs)(n:Nat):wv (bP ls (ay ds n)):=λx hx=>by
 let⟨m,hm,rfl⟩:=qO.mp hx;let⟨l,_,ok,lv⟩:=c.look (cZ hm);let h1:=ok.span;let h2:=ok.deep;rw[<-lv]at h1 h2;show⟨by show 1<=(aC ls m 8).toNat;omega,by show(aC ls m 8).toNat<=6;omega,by show 1<=(aC ls m 9).toNat;omega,by show(aC ls m 9).toNat<=4;omega⟩
def Cx3.fr(c:Cx3 M ds ls bs){n m:Nat}(h:m∈ay ds n):0<=cG ls bs m/\cG ls bs m<=M/\0<=gb ls bs m/\gb ls bs m<=M:=by
 let hm:=cZ h;let⟨l,_,ok,lv⟩:=c.look hm;let b:=c.bb _ (rJ (show m<bs⁻¹ by rw[c.bl];show hm));let eb:aV bs m=bs[m]'(by rw[c.bl];show hm):=by unfold aV;rw[qB (by rw[c.bl];show hm)];rfl
 let h1:=ok.least4;let h2:=ok.most4;let h3:=c.m4;unfold gb cG;rw[lv,lv,eb];omega
def Cx3.inF(c:Cx3 M ds ls bs)(n:Nat):InB M ((ay ds n).map (cG ls bs))/\InB M ((ay ds n).map (gb ls bs)):=by
 show⟨λv hv=>?_,λv hv=>?_⟩<;>let⟨m,hm,rfl⟩:=qO.mp hv<;>have:=c.fr hm
 .show⟨this.1,this.2.1⟩
 .show this.2.2
end
def InB.mono{B B':Int}{l:TN}(h:InB B l)(le:B<=B'):InB B' l:=λv hv=>⟨(h v hv).1,yC (h v hv).2 le⟩
def SpB.mono{B B':Int}{l:TC}(h:SpB B l)(le:B<=B'):SpB B' l:=λv hv=>⟨(h v hv).1,yC (h v hv).2 le⟩
def SpB.at{B:Int}{l:TC}(h:SpB B l){n:Nat}(hn:n<l⁻¹):0<=(aV l n).2/\(aV l n).2<=B:=by
 unfold aV;rw[qB hn];show h _ (rJ hn)
theorem SpB.put{B:Int}:∀{ks:TM} {zs sp:TC},SpB B sp->SpB B zs->SpB B (putAll sp ks zs)
 | [],_,_,h,_=>by unfold putAll;show h
 | _::_,[],_,h,_=>by unfold putAll;show h
 | k :: ks, z :: zs, sp, h, hz => by
   unfold putAll
   show SpB.put (λs hs=>?_) λs hs=>hz s (qW _ hs)
   rcases List.mem_or_eq_of_mem_set hs with e | e
   · show h s e
   · rw[e];show hz z rF
def SpB.behind{B left:Int}{x:TN}(h:InB B x):SpB B (lJ left x):=λs hs=>by
 unfold lJ at hs;let⟨k,hk,rfl⟩:=qO.mp hs;let hk:=xC.mp hk;show 0<=x.getD k 0/\x.getD k 0<=B;rw[qV,qB hk];show h _ (rJ hk)
def Gu{B:Int}{ls:TB}{sp:TC}{n:Nat}(h0:0<=aC ls n 3)(hs:0<=(aV sp n).2/\(aV sp n).2<=B):0<=(dI ls sp n).2/\(dI ls sp n).2<=B:=by
 unfold dI;show 0<=max 0 _/\max 0 _<=B;omega
def qaO{wd cols:Int}(h:0<=wd)(hc:0<cols):∀v∈c9 wd cols,0<=v/\v<=wd+1:=λv hv=>by
 unfold c9 at hv;let⟨c,_,e⟩:=qO.mp hv;let h1:=Int.ediv_nonneg h (wF hc);let h2:=Int.ediv_le_self cols h
 split at e<;>omega
theorem sum_b{B:Int}(hB:0<=B):∀{l:TN} {n:Nat},l⁻¹<=n->(∀v∈l,0<=v/\v<=B)->0<=l.sum/\l.sum<=n*B
 | [],n,_,_=>⟨xD _,Int.mul_nonneg (Int.natCast_nonneg n) hB⟩
 | x::l,0,h,_=>by simp at h
 | x :: l, n + 1, h, q => by
   let ih:=sum_b hB (l:=l) (n:=n) ‹h› λv hv=>q v (qW _ hv)
   have:=q x rF
   rw[List.sum_cons,show((n+1:Nat):Int)*B=n*B+B by rw[Int.natCast_add,Int.add_mul];simp]
   omega
def gW(M:Int):Nat->Int
 | 0=>M
 | k+1=>6*gW M k+6
theorem Gv{M:Int}(h:4000<=M):∀k,M<=gW M k
 | 0=>xD _
 | k + 1 => by
   have:=Gv h k
   show M<=6*gW M k+6
   omega
inductive Gx:List V->Hp->VK->XK->Prop
|m (r C:Addr) (rm:Int×Int) (cols:Int) (cs:List (Nat×Nat)):vs=[.ref r,.int cols,.ref C]->PrAt H r rm->0<=rm.2->LstAt TupAt H C cs->wv cs->cs⁻¹<=100->1<=cols->cols<=6->(∀(t:Addr) (z:TC) (H':Hp),H t=none->Same H H'->z⁻¹=cs⁻¹->SpB (6*rm.2+6) z->LstAt PrAt H' t z->Q (.ref t) H')->Gx vs H Q E
inductive Gy:List V->Hp->VK->XK->Prop
|m (M Bd:Int) (B p L S:Addr) (n:Nat) (ds:List Nd) (ls:TB) (bs sp:TC):vs=[.ref B,.ref p,.ref L,.ref S,.int n]->InS H B p L ds ls bs->LstAt PrAt H S sp->sp⁻¹=ds⁻¹->n<ds⁻¹->Cx3 M ds ls bs->M<=Bd->SpB Bd sp->(∀(t:Addr) (z:TC) (H':Hp),H t=none->Same H H'->z⁻¹=(ay ds n)⁻¹->SpB (6*Bd+6) z->LstAt PrAt H' t z->Q (.ref t) H')->Gy vs H Q E
inductive Gz:List V->Hp->VK->XK->Prop
|m (M:Int) (B p L:Addr) (wide:Int) (ds:List Nd) (ls:TB) (bs:TC):vs=[.ref B,.ref p,.ref L,.int wide]->InS H B p L ds ls bs->Cx3 M ds ls bs->0<=wide->wide<=M->(∀(t:Addr) (sp:TC) (H':Hp),H t=none->Same H H'->LstAt PrAt H' t sp->sp⁻¹=ds⁻¹->SpB (gW M ds⁻¹) sp->Q (.ref t) H')->Gz vs H Q E
end Sp0
namespace Ins
open L2 Bk Gen Gd Bd Shr Sp0
structure Sz where
 h:Int
 rows:List (Nat×Nat)
 sums:List (List (Option Int))
 c:Int
def SzAt(H:Hp)(a:Addr)(z:Sz):=∃A B,H a=!.tup [.int z.h,.ref A,.ref B,.int z.c]/\LstAt Br.NnAt H A z.rows/\LstAt Br.OsAt H B z.sums
def SzAt.same(s:Same H H')(h:SzAt H a z):SzAt H' a z:=by
 let⟨A,B,h1,h2,h3⟩:=h;show⟨A,B,s _ _ h1,Br.nns_same s h2,Br.sums_same s h3⟩
def GC(s:Same H H')(h:LstAt SzAt H p z):LstAt SzAt H' p z:=gd (λ_ _=>SzAt.same s) s h
def aM(sz:List Sz)(m:Nat):Int:=(sz[m]?.map Sz.h).getD 0
def lO(pr:Paired (SzAt H) as sz){m:Nat}(h:m<sz⁻¹):∃a A B c,as[m]?=!a/\H a=!.tup [.int (aM sz m),.ref A,.ref B,.int c]:=by
 let l:=qS pr;let⟨z,ez,A,B,h1,_⟩:=bN pr (qB (show m<as⁻¹ by omega));show⟨_,A,B,z.c,qB (show m<as⁻¹ by omega),?_⟩;unfold aM;rw[ez];show h1
structure Cx4(ds:List Nd)(ls:TB)(sz:List Sz):Prop where
 bk:Book ds
 le:ds⁻¹<=100
 ll:ls⁻¹=ds⁻¹
 lk:∀l∈ls,lK l
 zl:sz⁻¹=ds⁻¹
def Cx4.l13{ls:TB}(c:Cx4 ds ls sz):∀l∈ls,l⁻¹=13:=λl h=>(c.lk l h).len
def Cx4.look{ls:TB}(c:Cx4 ds ls sz){n:Nat}(h:n<ds⁻¹):∃l,ls[n]?=!l/\lK l/\∀i,aC ls n i=l.getD i 0:=by
 let hl:n<ls⁻¹:=by rw[c.ll];show h
 show⟨ls[n],qB hl,c.lk _ (rJ hl),λi=>?_⟩;unfold aC;rw[qB hl];rfl
def Cx4.cells{ls:TB}(c:Cx4 ds ls sz)(n:Nat):wv (bP ls (ay ds n)):=λx hx=>by
 let⟨m,hm,rfl⟩:=qO.mp hx;let⟨l,_,ok,lv⟩:=c.look (cZ hm);let h1:=ok.span;let h2:=ok.deep;rw[<-lv]at h1 h2;show⟨by show 1<=(aC ls m 8).toNat;omega,by show(aC ls m 8).toNat<=6;omega,by show 1<=(aC ls m 9).toNat;omega,by show(aC ls m 9).toNat<=4;omega⟩
structure InT(H:Hp)(B p S:Addr)(ds:List Nd)(ls:TB)(sz:List Sz):Prop where
 bk:b8 (λ_=>True) H B ds
 lk:LstAt LkAt H p ls
 sz:LstAt SzAt H S sz
def InT.same{H H':Hp}{B p S:Addr}{ds:List Nd}{ls:TB}{sz:List Sz}(h:InT H B p S ds ls sz)(s:Same H H'):InT H' B p S ds ls sz:=by
 let⟨as,e,nd⟩:=h.bk;show⟨⟨as,s _ _ e,nd.keep s.keep λ_ _ _=>trivial⟩,cS s h.lk,GC s h.sz⟩
inductive GD:List V->Hp->VK->XK->Prop
|m (p S k:Addr) (cols:Nat) (ks:TM) (ls:TB) (sz:List Sz):vs=[.ref p,.ref S,.int cols,.ref k]->LstAt LkAt H p ls->LstAt SzAt H S sz->KL H k ks->ks⁻¹<=100->(∀m∈ks,m<ls⁻¹/\m<sz⁻¹)->(∀l∈ls,lK l)->wv (bP ls ks)->1<=cols->cols<=6->(∀(t:Addr) (H':Hp),H t=none->Same H H'->LstAt Br.PnAt H' t (io ls (aM sz) cols ks)->Q (.ref t) H')->GD vs H Q E
inductive GF:List V->Hp->VK->XK->Prop
|m (B p S k:Addr) (ks:TM) (ds:List Nd) (ls:TB) (sz:List Sz):vs=[.ref B,.ref p,.ref S,.ref k]->InT H B p S ds ls sz->Cx4 ds ls sz->KL H k ks->ks⁻¹<=100->(∀m∈ks,m<ds⁻¹)->(∀(t:Addr) (H':Hp),H t=none->Same H H'->LstAt Br.PnAt H' t (eW ds ls (aM sz) ks).1->Q (.ref t) H')->GF vs H Q E
inductive GG:List V->Hp->VK->XK->Prop
|m (B p S:Addr) (n:Nat) (ds:List Nd) (ls:TB) (sz:List Sz):vs=[.ref B,.ref p,.ref S,.int n]->InT H B p S ds ls sz->Cx4 ds ls sz->n<ds⁻¹->(∀(t:Addr) (H':Hp),H t=none->Same H H'->LstAt Br.PnAt H' t (eX ds ls (aM sz) n)->Q (.ref t) H')->GG vs H Q E
inductive GH:List V->Hp->VK->XK->Prop
|m (B p S:Addr) (n:Nat) (ds:List Nd) (ls:TB) (sz:List Sz):vs=[.ref B,.ref p,.ref S,.int n]->InT H B p S ds ls sz->Cx4 ds ls sz->n<ds⁻¹->(∀(H':Hp),Same H H'->Q (.int (a9 ((eX ds ls (aM sz) n).map λx=>x.2+aM sz x.1))) H')->GH vs H Q E
theorem OH{ls:TB}{hs:Nat->Int}:∀{ks:TM} {acc:List (Nat×Int)×Int},(ks.foldl (dJ ds ls hs) acc).1.length<=acc.1⁻¹+2*ks⁻¹
 | [],_=>∅
 | m :: ks, acc => by
   rw[xK]
   let h1:=OH (ds:=ds) (ls:=ls) (hs:=hs) (ks:=ks) (acc:=dJ ds ls hs acc m)
   let h2:(dJ ds ls hs acc m).1.length<=acc.1⁻¹+2:=by
     unfold dJ
     cases cz ds m<;>simp
   rw[rN]
   omega
def Co{n a:Nat}(h:cz ds n=!a):a<n:=by
 let⟨d,_,_,hl,_⟩:=Cj h;show qx (List.mem_of_getLast? hl)
def bz(ds:List Nd)(m:Nat):TM:=match cz ds m with
 | none=>[m]
 | some a=>[a,m]
def gH(ls:TB)(acc:List (Nat×Int)×Int)(m:Nat):Int:=acc.2+if acc.1=[]then 0 else aC ls m 2
def xz{ls:TB}{hs:Nat->Int}{acc:List (Nat×Int)×Int}{m:Nat}:dJ ds ls hs acc m=(acc.1++(bz ds m).map (λe=>(e,gH ls acc m)),gH ls acc m+a9 ((bz ds m).map hs)):=by
 unfold dJ bz gH;cases cz ds m<;>rfl
def GI{m:Nat}:(bz ds m)⁻¹<=2/\bz ds m≠[]:=by
 unfold bz;cases cz ds m<;>simp
def qaP{m x:Nat}(h:x∈bz ds m):x<=m:=by
 unfold bz at h;cases e:cz ds m with
 | none=>rw[e]at h;simp at h;omega
 | some a =>
   rw[e]at h
   have:=Co e
   rcases qN.mp h with z | z
   · omega
   · simp at z;omega
end Ins
namespace L2
open PyProof.Rows
end L2
namespace Ins
open L2 Bk Gen Gd Bd Shr Sp0
structure Cx5(ds:List Nd)(ls:TB)(sz:List Sz)(sp:TC):Prop extends Cx4 ds ls sz where
 sl:sp⁻¹=ds⁻¹
structure InI(H:Hp)(B p Sp S:Addr)(ds:List Nd)(ls:TB)(sp:TC)(sz:List Sz):Prop extends InT H B p S ds ls sz where
 sp:LstAt PrAt H Sp sp
def InI.same{H H':Hp}{B p Sp S:Addr}{ds:List Nd}{ls:TB}{sp:TC}{sz:List Sz}(h:InI H B p Sp S ds ls sp sz)(s:Same H H'):InI H' B p Sp S ds ls sp sz:=⟨h.toInT.same s,ge s h.sp⟩
def Cx5.pic{ls:TB}{sp:TC}(c:Cx5 ds ls sz sp):∀(m:Nat) (d:Nd),ds[m]?=!d->d.k=.picture->∃a b:Int,d.st=[.int a,.int b]:=λm d e hk=>by
 let⟨a,b,h,_⟩:=NY c.bk e hk;show⟨a,b,h⟩
end Ins
namespace Bw
open L2 Bk Gen Gd
open Bd
def UnAt(H:Hp)(a:Addr)(u:Un):=∃nl,H a=!.tup [.int u.w,.int u.b,.int u.h,.int u.k,.ref nl]/\∃l,H nl=!.lst l
def RowAt(H:Hp)(a:Addr)(r:List Un):=LstAt UnAt H a r
def UnAt.same(s:Same H H')(h:UnAt H a x):UnAt H' a x:=by
 let⟨nl,h1,l,h2⟩:=h;show⟨nl,s _ _ h1,l,s _ _ h2⟩
def RowAt.same(s:Same H H')(h:RowAt H a x):RowAt H' a x:=gd (λ_ _=>UnAt.same s) s h
def units_same(s:Same H H')(h:LstAt RowAt H p us):LstAt RowAt H' p us:=gd (λ_ _=>RowAt.same s) s h
structure In(H:Hp)(B Lk U:Addr)(ds:List Nd)(ls:TB)(us:List (List Un)):Prop where
 bk:b8 (λ_=>True) H B ds
 lk:LstAt LkAt H Lk ls
 un:LstAt RowAt H U us
def In.same{ls:TB}(h:In H B Lk U ds ls us)(s:Same H H'):In H' B Lk U ds ls us:=by
 let⟨as,e,nd⟩:=h.bk;show⟨⟨as,s _ _ e,nd.keep s.keep λ_ _ _=>trivial⟩,cS s h.lk,units_same s h.un⟩
inductive GJ:List V->Hp->VK->XK->Prop
|m (p:Addr) (r:List Un):vs=[.ref p]->RowAt H p r->r≠[]->r⁻¹<=100->(∀H',Same H H'->Q (.int (lB r)) H')->GJ vs H Q E
inductive Cp:List V->Hp->VK->XK->Prop
|m (p:Addr) (r:List Un):vs=[.ref p]->RowAt H p r->r≠[]->r⁻¹<=100->(∀H',Same H H'->Q (.int (jW r)) H')->Cp vs H Q E
inductive GK:List V->Hp->VK->XK->Prop
|m (B p U L:Addr) (n:Nat) (ds:List Nd) (ls:TB) (us:List (List Un)) (bs:TC):vs=[.ref B,.ref p,.ref U,.ref L,.int n]->In H B p U ds ls us->LstAt PrAt H L bs->bs⁻¹=ds⁻¹->n<ds⁻¹->Ctx ds ls us->(∀(t:Addr) (H':Hp),Same H H'->PrAt H' t (fh ds ls us bs n)->Q (.ref t) H')->GK vs H Q E
inductive spAll:List V->Hp->VK->XK->Prop
|m (B p U:Addr) (ds:List Nd) (ls:TB) (us:List (List Un)):vs=[.ref B,.ref p,.ref U]->In H B p U ds ls us->Ctx ds ls us->(∀(L:Addr) (H':Hp),H L=none->Same H H'->LstAt PrAt H' L (xg ds ls us)->Q (.ref L) H')->spAll vs H Q E
inductive spRowsHigh:List V->Hp->VK->XK->Prop
|m (a:Addr) (us:List Un):vs=[.ref a]->RowAt H a us->us≠[]->us⁻¹<=100->(∀H',Same H H'->Q (.int (a9 (us.map Un.h))) H')->spRowsHigh vs H Q E
end Bw
namespace L2
open PyProof.Rows
def iT:Int:=2 ^ 4000
def qaQ:iT=((2 ^ 4000:Nat):Int):=by unfold iT;rw[Int.natCast_pow];rfl
def qaR(i j:Int):=0<=i/\i<=iT/\0<=j/\j<=iT
def OI{i:Int}(h0:0<=i)(h1:i<=iT):Builtin.Int.intBits i<=4001:=by
 rw[qaQ]at h1;show intBits_le_iff.mpr (yB (show i.natAbs<=2 ^ 4000 by generalize 2 ^ 4000=n at h1;omega) (Nat.pow_lt_pow_right {} {}))
def qaS:cf X (binaryOp .Mult) (rI qaR λi j=>.int (i*j)):=tP λ_ _ _ _ _ _ _ hc q=>mul_int q (IntMulOk.of_le (OI hc.1 hc.2.1) (OI hc.2.2.1 hc.2.2.2) {})
end L2
namespace Bw
open L2 Bk Gen Gd
open Bd
open Br
structure Cq(us:List Un)(wd:Int)(nw:Int×Int):Prop where
 ne:us≠[]
 le:us⁻¹<=100
 ok:∀u∈us,UOk u
 w0:0<=wd
 w1:wd<=iT
 b0:0<=nw.2
def qaT{wd:Int}{nw:Int×Int}(row:Int)(h0:0<=wd)(h1:wd<=iT)(h2:0<=nw.2):0<=cU wd nw row/\cU wd nw row<=iT:=by
 unfold cU
 split<;>omega
inductive GL(K:W.Frag):List V->Hp->VK->XK->Prop
|m (p t:Addr) (i j:Nat) (wd row:Int) (nw:Int×Int) (us:List Un):vs=[.ref p,.int i,.int j,.int wd,.ref t,.int row]->RowAt H p us->PrK K H t nw->i<j->j<=us⁻¹->us⁻¹<=100->(∀u∈us,UOk u)->0<=wd->wd<=iT->0<=nw.2->(∀H',Same H H'->Q (ov (dw us i j (cU wd nw row))) H')->GL K vs H Q E
inductive GM(K:W.Frag):List V->Hp->VK->XK->Prop
|m (p t:Addr) (j:Nat) (wd row:Int) (nw:Int×Int) (us:List Un):vs=[.ref p,.int j,.int wd,.ref t,.int row]->RowAt H p us->PrK K H t nw->j<=us⁻¹->Cq us wd nw->(∀(L:Addr) (H':Hp),Same H H'->LstAt PnAt H' L (fM us j (cU wd nw row))->Q (.ref L) H')->GM K vs H Q E
inductive GN(K:W.Frag):List V->Hp->VK->XK->Prop
|m (p t:Addr) (wd row:Int) (nw:Int×Int) (us:List Un):vs=[.ref p,.int wd,.ref t,.int row]->RowAt H p us->PrK K H t nw->Cq us wd nw->(∀(L:Addr) (H':Hp),Same H H'->qv H' L (jn us (cU wd nw row))->Q (.ref L) H')->GN K vs H Q E
inductive GO(K:W.Frag):List V->Hp->VK->XK->Prop
|m (p t:Addr) (wd:Int) (nw:Int×Int) (us:List Un):vs=[.ref p,.int wd,.ref t]->RowAt H p us->PrK K H t nw->Cq us wd nw->(∀(L:Addr) (H':Hp),Same H H'->xo H' L (jo us (roomN wd nw))->Q (.ref L) H')->GO K vs H Q E
inductive GP:List V->Hp->VK->XK->Prop
|m (p:Addr) (us:List Un):vs=[.ref p]->RowAt H p us->us⁻¹<=100->(∀(L:Addr) (H':Hp),H L=none->Same H H'->OsAt H' L (xn us)->Q (.ref L) H')->GP vs H Q E
inductive spBroken2(K:W.Frag)(nn:Addr):List V->Hp->VK->XK->Prop
|m (p t:Addr) (v:V) (wd:Int) (nw:Int×Int) (us:List Un):vs=[.ref p,.int wd,v]->(v=.ref t\/(v=.non/\t=nn))->RowAt H p us->PrK K H t nw->Cq us wd nw->(∀(R A B:Addr) (rows:List (Nat×Nat)) (k:Nat) (M:Int) H',Same H H'->H R=none->H' R=!.tup [.ref A,.ref B]->H A=none->A≠B->LstAt NnAt H' A rows->NewSums H H' B (sumsL us (roomN wd nw))->Ch us (roomN wd nw) k us⁻¹ rows->Few us (roomN wd nw) k M->Q (.ref R) H')->spBroken2 K nn vs H Q E
end Bw
namespace Ins
open L2 Bk Gen Gd Shr Sp0
open Bd
structure mQ(ds:List Nd)(ls:TB)(sz:List Sz)(sp:TC)(us:List (List Un)):Prop extends Cx5 ds ls sz sp where
 ul:us⁻¹=ds⁻¹
 uok:∀r∈us,r⁻¹<=100/\∀u∈r,Br.UOk u/\1<=u.h/\u.h<=100
 un:∀(n:Nat) (d:Nd),ds[n]?=!d->(d.k=.text\/d.k=.head\/d.k=.note)->bu us n≠[]
 sb:SpB iT sp
structure InZ(H:Hp)(B p U Sp S:Addr)(ds:List Nd)(ls:TB)(us:List (List Un))(sp:TC)(sz:List Sz):Prop extends InI H B p Sp S ds ls sp sz where
 un:LstAt Bw.RowAt H U us
def InZ.same{H H':Hp}{B p U Sp S:Addr}{ds:List Nd}{ls:TB}{us:List (List Un)}{sp:TC}{sz:List Sz}(h:InZ H B p U Sp S ds ls us sp sz)(s:Same H H'):InZ H' B p U Sp S ds ls us sp sz:=⟨h.toInI.same s,Bw.units_same s h.un⟩
def GQ(ne:us≠[])(h:∀u∈us,Br.UOk u/\1<=u.h/\u.h<=100):1<=a9 (us.map Un.h)/\a9 (us.map Un.h)<=100:=by
 let⟨u,hu,e⟩:=qO.mp (gF (show us.map Un.h≠[]from λz=>ne (yQ.mp z)));rw[<-e];show(h u hu).2
end Ins
namespace Bd
open L2 Bk Gen Gd
def qaU{l s:Int}(hl:0<=l)(h1:1<=s)(h6:s<=6):eS l s<=l:=by
 unfold eS;rcases(by omega:s=1\/s=2\/s=3\/s=4\/s=5\/s=6)with rfl | rfl | rfl | rfl | rfl | rfl<;>omega
def GR{B:Int}(hB:0<=B){l:TN}(h:∀x∈l,x<=B):a9 l<=B:=by
 cases l with
 | nil=>show hB
 | cons x l =>
   show l.foldl max x<=B
   rcases qN.mp (xp l x)with e | e
   · rw[e];show h x rF
   · show h _ (qW _ e)
section
variable{ds:List Nd}{ls:TB}{us:List (List Un)}
structure GS(ds:List Nd)(ls:TB)(us:List (List Un)):Prop where
 ins:∀n,aC ls n 3<=100
 wide:∀n,aC ls n 11<=4000
 least:∀n,aC ls n 5<=4000
 un:∀r∈us,∀u∈r,u.w<=960
 pic:∀d∈ds,d.k=.picture->lA d<=2000
def qaV(cx:Ctx ds ls us)(lo:GS ds ls us){B:Int}{bs:TC}(hb:∀m,0<=(aV bs m).1/\(aV bs m).1<=B){n:Nat}(hn:n<ds⁻¹):(fh ds ls us bs n).1<=100*B+500000:=by
 let B0:0<=B:=by have:=hb 0;omega
 obtain⟨l,el,cy,lv⟩:=cx.look hn;let ed:ds[n]?=!ds[n]:=qB hn;let hi:=lo.ins n;let xj:(ji ds ls us bs n ds[n]).1<=100*B+400000:=by
  let oH:lB (bu us n)<=960:=by
   show GR {} λx hx=>?_
   let⟨u,hu,rfl⟩:=qO.mp hx;unfold bu at hu;cases e:us[n]? with
   | none=>rw[e]at hu;cases hu
   | some r=>rw[e]at hu;show lo.un r (qL e) u hu
  unfold ji
  split
  .show lB _<=_;omega
  .show lB _<=_;omega
  .show lB _<=_;omega
  .let kl:=lE ds n;let le:=cx.le;have:=(Sp0.sum_b (B:=B+4000) () (l:=(ay ds n).map (cG ls bs)) (n:=100) (by rw[qA];omega) λv hv=>by
    let⟨m,hm,rfl⟩:=qO.mp hv;let h1:=hb m;let h2:=lo.least m;unfold cG;omega).2
   show((ay ds n).map (cG ls bs)).sum<=_;omega
  .let c:=cy.cols;rw[<-lv]at c;have:a9 (((ay ds n).map λm=>(m,(aV bs m).1)).map λx=>eS x.2 (min (aC ls x.1 8) (aC ls n 7)))<=B:=GR B0 λx hx=>by
    let⟨z,hz,rfl⟩:=qO.mp hx;let⟨m,hm,rfl⟩:=qO.mp hz;let⟨l',_,xi,oR⟩:=cx.look (cZ hm);let sp:=xi.span;rw[<-oR]at sp;show yC (qaU (hb m).1 (by show 1<=min (aC ls m 8) (aC ls n 7);omega) (by show min (aC ls m 8) (aC ls n 7)<=6;omega)) (hb m).2
   show lq ls (aC ls n 7) _<=_;unfold lq;generalize a9 (((ay ds n).map λm=>(m,(aV bs m).1)).map λx=>eS x.2 (min (aC ls x.1 8) (aC ls n 7)))=b at this⊢;rcases(by omega:aC ls n 7=1\/aC ls n 7=2\/aC ls n 7=3\/aC ls n 7=4\/aC ls n 7=5\/aC ls n 7=6)with e | e | e | e | e | e<;>rw[e]<;>omega
  .show yC (GR (B:=B+4000) () λx hx=>?_) ();let⟨m,hm,rfl⟩:=qO.mp hx;unfold cR;let h1:=hb m;let h2:=lo.wide m
   split
   .show aC ls m 11<=_;omega
   .omega
 unfold fh;rw[ed]
 by_cases hp:ds[n].k=.picture
 .have:=lo.pic _ (rJ hn) hp;simp only[hp,if_true];omega
 .simp only[hp,if_false];omega
def gB:Nat->Int
 | 0=>0
 | k+1=>101*gB k+500000
theorem GT:∀k,0<=gB k
 | 0=>xD _
 | k + 1 => by
   have:=GT k
   show 0<=101*gB k+500000
   omega
theorem OJ(cx:Ctx ds ls us)(lo:GS ds ls us):∀k,k<=ds⁻¹->∀m,(aV (dY ds ls us k) m).1<=gB k
 | 0, _, m => by
   have:aV (dY ds ls us 0) m=(0,0):=by
     unfold aV dY
     rw[List.getElem?_replicate]
     split<;>rfl
   rw[this]
   show xD _
 | k + 1, h, m => by
   let ih:=OJ cx lo k ()
   let nn:=FQ cx k ()
   let g0:=GT k
   show _<=101*gB k+500000
   rw[dY]
   by_cases e:ds⁻¹-1-k=m
   · subst e
     rw[NE (by rw[qp];omega)]
     have:=qaV cx lo (λm=>⟨(nn m).1,ih m⟩) (n:=ds⁻¹-1-k) ()
     omega
   · rw[ND e]
     have:=ih m
     omega
end
end Bd
namespace Fc
open L2 Bk Gen
def oX(f:cT):=(1<=f.hi/\f.hi<=12)/\(0<=f.bl/\f.bl<=4)/\(1<=f.wi/\f.wi<=9)/\∀p∈f.odd,1<=p.2/\p.2<=9
def qy(x:Str):=Wd x/\1<=x.cps.size/\x.cps.size<=4
end Fc
namespace Ins
open L2 Bk Gen Gd Shr Sp0 Fc
open Bd
def Cr(u:bV):=((1<=u.w/\u.w<=960)/\0<=u.b/\u.b<=960)/\1<=u.h/\u.h<=100
def j7(u:bV):Un:=⟨u.w,u.b,u.h,u.k⟩
def qaW(hf:oX f)(h1:1<=x.cps.size)(h2:x.cps.size<=20):1<=mM f x/\mM f x<=180:=by
 let all:∀v∈x.cps.toList.map λc=>gG f ⟨#[c]⟩,1<=v/\v<=9:=λv hv=>by
  let⟨c,_,rfl⟩:=qO.mp hv;show 1<=gG f _/\gG f _<=9;unfold gG;cases e:f.odd.find? λp=>decide (p.1=⟨#[c]⟩)with
  | none=>show hf.2.2.1
  | some p=>show hf.2.2.2 p (List.mem_of_find?_eq_some e)
 let len:(x.cps.toList.map λc=>gG f ⟨#[c]⟩)⁻¹=x.cps.size:=by rw[qA,xG]
 unfold mM;generalize x.cps.toList.map (λc=>gG f ⟨#[c]⟩)=l at all len;show⟨?_,(sum_b (B:=9) {} (l:=l) (n:=20) () λv hv=>by have:=all v hv;omega).2⟩;cases l with
 | nil=>simp at len;omega
 | cons a r =>
   rw[List.sum_cons]
   let h3:=all a rF
   let h4:=xr (l:=r) λv hv=>by have:=all v (qW _ hv);omega
   omega
def qaX{sh:TK}(hs:∀p∈sh,qy p.2)(x:Str):1<=(mN sh x).cps.size/\(mN sh x).cps.size<=20:=by
 unfold mN;cases e:sh.find? λp=>decide (p.1=x)with
 | none=>show⟨by ac_rfl,by ac_rfl⟩
 | some p =>
   have:=(hs p (List.mem_of_find?_eq_some e)).2
   show⟨this.1,rK this.2 {}⟩
def qaY(ne:fs≠[])(hf:∀f∈fs,oX f)(n:Int):oX (dZ fs n):=by
 let l0:0<fs⁻¹:=List.length_pos_iff.mpr ne;let h1:=uZ n (show(fs⁻¹:Int)≠0 by omega);let h2:=uO n (show(0:Int)<(fs⁻¹:Int) by omega);unfold dZ;rw[qB (show(n % (fs⁻¹:Int)).toNat<fs⁻¹ by omega)];show hf _ (rJ _)
theorem OK{sh:List (Str×Str)}{num:Int}{kids:TN}(ne:fs≠[])(hf:∀f∈fs,oX f)(hs:∀p∈sh,qy p.2)(ok:∀x∈st,gw x):∀i,∀u∈c7 fs sh false num kids st i,Cr u
 | 0,u,hu=>nomatch hu
 | i + 1, u, hu => by
   let ih:=OK (num:=num) (kids:=kids) ne hf hs ok i
   unfold c7 at hu
   cases e:st[i]? with
   | none=>rw[e]at hu;show ih u hu
   | some x =>
     rw[e]at hu
     let px:=ok x (qL e)
     have one:∀{s:So} {y:Str} {t:Int},(1<=(jX sh s y).cps.size/\(jX sh s y).cps.size<=20)->Cr ⟨ig (dZ fs (num+t)) sh false s y,(dZ fs (num+t)).bl,(dZ fs (num+t)).hi,i,[]⟩:=λ{s y t} h=>by
       let fb:=qaY ne hf (num+t)
       have:=qaW fb h.1 h.2
       let ew:ig (dZ fs (num+t)) sh false s y=mM (dZ fs (num+t)) (jX sh s y):=by unfold ig;rw[qX λz=>qU z.1]
       let⟨a,b,_⟩:=fb
       show⟨⟨⟨?_,?_⟩,?_,?_⟩,?_,?_⟩
       · show 1<=ig (dZ fs (num+t)) sh false s y
         omega
       · show ig (dZ fs (num+t)) sh false s y<=960
         omega
       · show b.1
       · show(dZ fs (num+t)).bl<=960;omega
       · show a.1
       · show(dZ fs (num+t)).hi<=100;omega
     let vi:∀{v:bV},Cr v->u∈c7 fs sh false num kids st i++[v]->Cr u:=λhv hm=>by
       rcases rE.mp hm with z | z
       · show ih u z
       · rw[rQ.mp z];show hv
     cases x with
     | int n=>show px.elim
     | tri s y t =>
       cases s with
       | sign=>cases y<;>show px.elim
       | word =>
         cases y with
         | inr j=>show px.elim
         | inl w=>show vi (one (s:=.word) ⟨px.1.1,px.1.2.1⟩) hu
       | page =>
         cases y with
         | inr j=>show px.elim
         | inl w=>show vi (one (s:=.page) (qaX hs w)) hu
       | note =>
         cases y with
         | inl w=>show px.elim
         | inr j =>
           let hu:u∈lH (c7 fs sh false num kids st i) ((kids[j.toNat]?).getD 0):=hu
           unfold lH at hu
           cases el:(c7 fs sh false num kids st i).getLast? with
           | none=>rw[el]at hu;show ih u hu
           | some v =>
             rw[el]at hu
             rcases rE.mp hu with z | z
             · show ih u (by rw[List.dropLast_eq_take]at z;show yK z)
             · rw[rQ.mp z]
               show ih v (List.mem_of_getLast? el)
def qaZ{α β γ δ:Type}{F:γ->δ->Prop}{f:α->γ}{g:β->δ}{as:List α}{bs:List β}(h:Paired (λa b=>F (f a) (g b)) as bs):Paired F (as.map f) (bs.map g):=by
 induction h with
 | nil=>show .nil
 | cons q _ ih=>show .cons q ih
def iq(ds:List Nd)(fs:List cT)(sh:TK)(ls:TB):List (List Un):=(iQ ds fs sh false ls).map λr=>r.map j7
def qa0{sh:TK}{ls:TB}{n:Nat}(h:n<ds⁻¹):bu (iq ds fs sh ls) n=(mO ds fs sh false (aC ls n 0) n).map j7:=by
 unfold bu iq iQ;rw[qJ,qJ,xA h];rfl
def qa1{sh:TK}{ls:TB}:(iq ds fs sh ls)⁻¹=ds⁻¹:=by
 unfold iq iQ;rw[qA,qA,yJ]
section
variable{ds:List Nd}{fs:List cT}{sh:TK}{ls:TB}
def qa2(b:Book ds)(ne:fs≠[])(hf:∀f∈fs,oX f)(hs:∀p∈sh,qy p.2):∀r∈iq ds fs sh ls,r⁻¹<=100/\∀u∈r,Br.UOk u/\1<=u.h/\u.h<=100:=λr hr=>by
 let⟨r',ya,rfl⟩:=qO.mp hr;let⟨n,hn,rfl⟩:=qO.mp ya;let hn:=xC.mp hn;let ed:ds[n]?=!ds[n]:=qB hn;let ef:=(b.form ds[n] (rJ hn)).st;unfold mO;rw[ed];show((if ds[n].k=.text\/ds[n].k=.head\/ds[n].k=.note then _ else[]).map j7)⁻¹<=100/\∀u∈(if ds[n].k=.text\/ds[n].k=.head\/ds[n].k=.note then _ else[]).map j7,_
 split
 .rename_i hk;let h3:(∀x∈ds[n].st,gw x)/\(∃x r,ds[n].st=x::r/\gQ x=false)/\ds[n].st.length<=60:=by
   rcases hk with e | e | e<;>rw[e]at ef<;>show ef
  show⟨by rw[qA];show rK (Op _) (),λu hu=>?_⟩;let⟨v,hv,rfl⟩:=qO.mp hu;let⟨⟨w1,b1⟩,h1⟩:=OK ne hf hs h3.1 _ v hv;show⟨⟨w1.1,w1.2,b1.1,b1.2⟩,h1⟩
 .show⟨rL _,λu hu=>nomatch hu⟩
def qa3(b:Book ds){n:Nat}(ed:ds[n]?=!d)(hk:d.k=.text\/d.k=.head\/d.k=.note):bu (iq ds fs sh ls) n≠[]:=by
 let hn:=(qF.mp ed).1;let ef:=(b.form d (qL ed)).st;let h3:(∀x∈d.st,gw x)/\(∃x r,d.st=x::r/\gQ x=false)/\d.st⁻¹<=60:=by
  rcases hk with e | e | e<;>rw[e]at ef<;>show ef
 rw[qa0 hn];unfold mO;rw[ed];show(if d.k=.text\/d.k=.head\/d.k=.note then _ else[]).map j7≠[];rw[qZ hk];intro z;let z:=yQ.mp z;let⟨x,r,e,_⟩:=h3.2.1;let l1:d.st⁻¹=r⁻¹+1:=by rw[e];rfl
 rw[l1]at z;show FS h3.1 h3.2.1 r⁻¹ () z
end
def qa4(k:Gw.Kids 0 0 .body [bR] sub ks)(ne:ks≠[]):Book (bR::sub):=by
 show⟨⟨bR,sub,ks,O,O,O,k.fo,k.may,λ_=>ne,k.nx,λz=>by cases z⟩,λd hd=>?_,Gw.names_nodup k.nm⟩;rcases qN.mp hd with rfl | h
 .show⟨.inl O,⟨{},(λm hm=>nomatch hm),.nil⟩,O⟩
 .show k.fm d h
def qa5:∀n,n<64->gW (gB n+4000) n<=iT:=by
 unfold iT;ac_rfl
end Ins
namespace Bk
open L2
def Forest.swap{e i lv:Nat}(x:Forest e i lv l ks):∀{j:Nat} {d d':Nd},l[j]?=!d->d'.e=d.e->d'.k=d.k->du d'.st=du d.st->Forest e i lv (l.set j d') ks:=by
 induction x with
 | nil=>intro j d d' h;cases h
 | @cons e i lv c sub rest ks bZ h1 h2 h3 f1 h4 f2 jM gx =>
   intro j d d' h he hk hn
   cases j with
   | zero =>
     cases h
     rw[List.set_cons_zero,<-hk]
     show .cons (he.trans h1) h2 (by rw[hk];show h3) f1 (by unfold Holds at h4⊢;rw[hk,hn];show h4) f2
   | succ j =>
     rw[rT]at h
     rw[List.set_cons_succ,List.set_append]
     by_cases hs:j<sub⁻¹
     · rw[qZ hs]
       rw[rY hs]at h
       show .cons h1 h2 h3 (jM h he hk hn) h4 (by rw[uG];show f2)
     · rw[qX hs]
       rw[rG ()]at h
       show .cons h1 h2 h3 f1 h4 (gx h he hk hn)
def Book.swap{n:Nat}(b:Book ds)(h:ds[n]?=!d)(wj:d.k≠.body)(he:d'.e=d.e)(hk:d'.k=d.k)(hm:d'.nm=d.nm)(hn:du d'.st=du d.st)(fm:jL d'):Book (ds.set n d'):=by
 let⟨c,sub,ks,rfl,h1,h2,f,hh⟩:=b.tree;show⟨?_,λx hx=>?_,?_⟩
 .cases n with
  | zero=>cases h;show qT h2 wj
  | succ n=>show⟨c,sub.set n d',ks,O,h1,h2,f.swap h he hk hn,hh⟩
 .rcases List.mem_or_eq_of_mem_set hx with hx | rfl
  .show b.form x hx
  .show fm
 .let e:∀l:List Nd,(l.filter λd=>d.nm≠cD).map (·.nm)=(l.map (·.nm)).filter λx=>x≠cD:=λl=>by
   rw[List.filter_map];rfl
  let nb:=b.names;unfold Names at nb⊢;rw[e]at nb⊢;rw[List.map_set,hm];have:((c::sub).map (·.nm)).set n d.nm=(c::sub).map (·.nm):=by
   apply vD;intro i
   by_cases z:n=i
   .subst z;rw[y9 (by rw[qA];show(qF.mp h).1),qJ,h];rfl
   .rw[yY z]
  rw[this];show nb
def j8(ws:List (Str×Int)):List Th:=ws.map λp=>.tri .word (.inl p.1) p.2
def qa6(ws:List (Str×Int)):du (j8 ws)=[]:=by
 unfold du j8;rw[vU];show List.filterMap_eq_nil_iff.mpr λ_ _=>rfl
def qa7{ws:List (Str×Int)}(f:jL d)(hk:d.k=.text)(h:∀p∈ws,p7 p.1/\0<=p.2/\p.2<=3)(l1:1<=ws⁻¹)(l2:ws⁻¹<=60):jL {d with st:=j8 ws}:=by
 show⟨f.nm,f.mks,?_⟩;show Ej d.k (j8 ws);rw[hk];show⟨λx hx=>?_,?_,by unfold j8;rw[qA];show l2⟩
 .let⟨p,hp,rfl⟩:=qO.mp hx;show h p hp
 .cases ws with
  | nil=>cases l1
  | cons p r=>show⟨_,_,O,O⟩
end Bk
namespace Ins
open L2 Bk Gen
def cut_to{as:TQ}{n:Nat}(h:n<=as⁻¹):dU ↑as none (!(n:Int))=↑(as.take n):=by
 unfold dU;rw[HT.sIx_none,show HT.sIx (↑as)⁻¹ (↑as)⁻¹ (!(n:Int))=n from by
  show(if(n:Int)<0 then((n:Int)+(((↑as)⁻¹:Nat):Int)).toNat else min (n:Int).toNat (↑as)⁻¹)=n;rw[qX (),qA];omega]
 rw[wD,Nat.sub_zero,<-vA]
def cut_off{as:TQ}{n:Nat}:dU ↑as (!(n:Int)) none=↑(as.drop n):=by
 unfold dU;rw[show HT.sIx (↑as)⁻¹ 0 (!(n:Int))=min n as⁻¹ from by
  show(if(n:Int)<0 then((n:Int)+(((↑as)⁻¹:Nat):Int)).toNat else min (n:Int).toNat (↑as)⁻¹)=_;rw[qX (),qA,yR]]
 rw[HT.sIx_none,qA,<-vZ,<-vA]
 congr 1
 by_cases hn:n<=as⁻¹
 .rw[uH hn,qH (by rw[uL];show qG _)]
 .rw[List.drop_eq_nil_of_le (as:=as) (i:=n) (),List.drop_eq_nil_of_le (),List.take_nil]
inductive GU:List V->Hp->VK->XK->Prop
|m (p st:Addr) (ds:List Nd):vs=[.ref p,.ref st]->b8 (λb=>b≠st) H p ds->p≠st->Book ds->ds⁻¹<=100->StOk H st->(∀(p':Addr) (yb:List Nd) (H':Hp),b8 (λb=>b≠st) H' p' yb->p'≠st->Book yb->yb⁻¹=ds⁻¹->Keep1 st H H'->Q (.ref p') H')->GU vs H Q E
def qa8{x:Sum Str Int}{t:Int}(h:s≠.note):ve (.tri s x t)=none:=by
 cases s with
 | note=>show qT O h
 | _=>rfl
end Ins
namespace L2
open PyProof.Rows
end L2
namespace L2
open PyProof.Rows Builtin Builtin.Str
end L2
namespace L2
open Builtin Builtin.Str
end L2
namespace L2
open Builtin Builtin.Str StrLaws
end L2
namespace L2
end L2
namespace L2
open PyProof.Rows
end L2
namespace Bk
open L2 Gen
end Bk
namespace Gen
open L2 Bk
end Gen
namespace L2
end L2
namespace Gen
open L2 Bk
end Gen
namespace L2
open PyProof
section
variable{X:Cx}
inductive GV(neg:Bool):V->V->Hp->VK->Prop
|m (a b:Addr) (xs:List V):x=.ref a->y=.ref b->H a=!.lst xs->H b=!.lst []->Q (.bl (if neg then (Bool.not (xs.isEmpty)) else xs.isEmpty)) H->GV neg x y H Q
def qa9(hu:X.A.units+64<cLine):cf X (compareOp .Eq) (GV false):=by
 intro aa s σ H x y v u Q I rx ry h;let⟨a,b,xs,rfl,rfl,ha,hb,q⟩:=h;cases rx;cases ry;let⟨ah,rv,pl,hz⟩:=I.list (ag ha);let⟨fG,jh,yc,mJ⟩:=I.list (ag hb);let l1:ah⁻¹=xs⁻¹:=rv.length.symm;let l2:fG⁻¹=0:=jh.length.symm;rw[qX qU]at q;cases xs with
 | nil =>
   show SeqAt.eq_listAt (e:=λ_=>true) pl.isList yc.isList (by simp[l1,l2]) () (λj h1 h2=>qT h1 (by rw[qY,l1];show xP _)) ?_
   rw[qY,l1]
   show⟨.bl _,H,I,O,q⟩
 | cons z zs=>show SeqAt.eq_list_lengthsAt pl.isList yc.isList (by simp[l1,l2]) () ⟨.bl _,H,I,O,q⟩
def qba(hu:X.A.units+64<cLine):cf X (compareOp .NotEq) (GV true):=by
 intro aa s σ H x y v u Q I rx ry h;let⟨a,b,xs,rfl,rfl,ha,hb,q⟩:=h;cases rx;cases ry;let⟨ah,rv,pl,hz⟩:=I.list (ag ha);let⟨fG,jh,yc,mJ⟩:=I.list (ag hb);let l1:ah⁻¹=xs⁻¹:=rv.length.symm;let l2:fG⁻¹=0:=jh.length.symm;rw[qZ O]at q;cases xs with
 | nil =>
   show SeqAt.RcNeAt.lists (e:=λ_=>true) pl.isList yc.isList (by simp[l1,l2]) () (λj h1 h2=>qT h1 (by rw[qY,l1];show xP _)) _ _ _ _ ?_
   rw[qY,l1]
   show⟨.bl _,H,I,O,q⟩
 | cons z zs=>show SeqAt.RcNeAt.lists_lengths pl.isList yc.isList (by simp[l1,l2]) () _ _ _ _ ⟨.bl _,H,I,O,q⟩
end
end L2
namespace K31
open L2 Ins
open Bk hiding Names
open Gen
abbrev OL:=top 124
def qbb(F:Fu K "_law_long" OL f fd)(T:Bn mg)(bF:⋯ 1 "_law_take" ["_law_stream_here", "_law_most"] gV)(EN:⋯ 2 "_law_word" ["_law_stream_here", "_law_most"] Bq):(~~~0) 3 f fd ["_law_book_here", "_law_stream_here"] GU:=by
 rcases F.go ["_law_book_here", "_law_stream_here", "_law_many", "_law_node", "_law_elder", "_law_kind", "_law_name", "_law_marks", "_law_stuff", "_law_words"] with⟨p,st,ds,rfl,⟨as,hp,nd⟩,jp,bk,le,S,q⟩;let hu:=hr.units;show⟨_,(aw (sv 2 (aG bi ao (cF bF hr (a2 '1' ao))))
   (aw (fv (r1 T.range (ln T.len '0')) (nv 3)
   (aw (l7 (px aE '0' '3') (i6 (by rfl) (bD (nv 4) (bD (nv 5) (bD (nv 6) (bD (nv 7) (bD (nv 8) dQ)))))))
   (aA (a7 (PW.pt (iC (tc bv '5' aQ) (jH (tc (qa9 hu) (cm ["_law_piece"] [] [] (a6 '8') (nv 0) (iJ (tc bv (px (r:=bU K) aI '0' ao) aQ)) '0') (a0 bE))))) (aw (sm 9 ["_law_k"] ["_law_stream_here"] [1] (r1 T.range '2') (nv 0) bj (br (a3 aQ (cF EN hr (a2 '1' ao)) (cF bF hr (a2 '1' ao)))))
   (aA (aH (aG kM (aG kM (kJ nZ '0' nY (jc '3')) (a0 (E8 (br (aJ '4' (aJ '5' (a3 '6' '7' '9')))) bE))) (kJ nZ '0' (jc (aG bi '3' ao)) nY))))) bg))))
   (aA (aH '0')))),?_⟩
 let la:as⁻¹=ds⁻¹:=nd⁻¹;show-⟨st,31,O,S,{},{},λr H1 r0 r1 S1 K1=>⟨_,_,O,O,?_⟩⟩;dsimp only[aZ];let yd:=K1 _ _ jp hp;show-⟨p,_,O,.inl (ag yd),_,O,by rw[qA];omega,by rw[qA];omega,gp (λi σ G=>Same H1 G/\∃z3 z4 z5 z6 z7 z8,σ=[!.ref p,!.ref st,!.int (30+r),z3,z4,z5,z6,z7,z8,none]) ⟨Same.refl _,none,none,none,none,none,none,O⟩ ?_ ?_⟩
 .rintro i σ G hi ⟨s2,z3,z4,z5,z6,z7,z8,rfl⟩;rw[qA]at hi;let hn:i<ds⁻¹:=()
  rw[show(0:Int)+(i:Int)=(i:Int)from uE _];dsimp only[aZ];let K2:Keep1 st H G:=K1.trans s2.keep;let S2:=S1.same s2;let ed:ds[i]?=!ds[i]:=qB hn;generalize ds[i]=d at ed;let ndG:NdsAt (λb=>b≠st) G as ds:=nd.keep K2 λ_ z _=>z
  let⟨a,ea,na⟩:=ndG.get ed;let⟨nst,m,s',ha,nm,hm,ns,kf,hs,dz⟩:=na;let hpG:=s2 _ _ yd;show¬⟨p,_,_,_,O,O,ag hpG,aU ea,a,_,O,aD ha,O,_,_,O,_,_,O,_,_,O,_,_,O,_,_,O,O,?_⟩;dsimp only[aZ];show-⟨O,_,O,?_⟩
  by_cases hk:d.k=.text
  rotate_left
  .show fU (bB d.k .text) hk (ba ⟨s2,_,_,_,_,_,_,O⟩)
  show fT (bB d.k .text) hk ?_;let fm:=bk.form d (qL ed);let fs:=fm.st;rw[hk]at fs;let lv:=qS dz;show-⟨s',O,⟨_,ag hs⟩,bx (xs:=kf) (λj ys ae G'=>G'=G/\(∃z,ae=[z])/\ys⁻¹<=j/\(ys.isEmpty=true->∀x∈d.st.take j,ve x=none)) (aR (by rw[lv];have:=fs.2.2;omega)) ⟨O,⟨none,O⟩,qG _,λ_ x hx=>nomatch hx⟩ ?_ ?_ ?_⟩
  .ext j ys ae G' hj ⟨rfl,_,l,_⟩;show ag hs
  .rintro j y ys ae G' hy ⟨rfl,⟨z,rfl⟩,l,h⟩;let⟨x,ex,hx⟩:=bN dz hy;let ok:=fs.1 x (qL ex);cases x with
   | int n=>show ok.elim
   | tri so v t =>
     let⟨b,rfl,_,hb⟩:=hx
     let more:∀{P':Th->Prop},(∀x∈d.st.take j,P' x)->P' (.tri so v t)->∀x∈d.st.take (j+1),P' x:=λh1 h2 x hx=>by
       rw[qP,ex]at hx
       rcases rE.mp hx with hx | hx
       · show h1 x hx
       · rw[rQ.mp hx];show h2
     show-⟨b,_,_,_,O,O,aD hb,O,O,_,O,?_⟩
     rw[show decide (V.str so.s=V.str (s!"note"))=decide (so=.note)from E4 so .note]
     by_cases mR:so=.note
     · show gP mR ⟨_,O,O,⟨_,O⟩,by rw[qI];simp;omega,λz=>?_⟩
       simp at z
     · show iH mR ⟨O,⟨_,O⟩,(),λz=>more (h z) (qa8 mR)⟩
  ext ys ae G' ⟨rfl,_,_,OM⟩ Y hY;rw[qH ()]at OM;let s3:=ar hY (.lst ys);let ON:af G' Y (.lst ys) Y=!.lst ys:=aj;generalize af G' Y (.lst ys)=G1 at s3 ON⊢;show⟨aK,λZ hZ=>?_⟩;let s4:=ar hZ (.lst []);show⟨Y,Z,ys,O,O,s4 _ _ ON,aj,_,O,?_⟩;generalize af G1 Z (.lst [])=G2 at s4⊢;let jq:=s3.trans s4;rw[qX qU];cases ee:ys.isEmpty with
  | false=>show ba ⟨s2.trans jq,_,_,_,_,_,_,O⟩
  | true =>
    let qbc:du d.st=[]:=List.filterMap_eq_nil_iff.mpr (OM ee)
    let KG:Keep1 st H G2:=K2.trans jq.keep
    show bL ⟨_,O,_,O,(),(),jO (λj ys ae G'=>StOk G' st/\Keep1 st G2 G'/\(∃z,ae=[z,!.ref st])/\∃ws:List (Str×Int),ws⁻¹=j/\Paired (ItAt (λb=>b≠st) G') ys (j8 ws)/\∀p∈ws,p7 p.1/\0<=p.2/\p.2<=3) (aR ()) ⟨S2.same jq,KeepN.refl,⟨none,O⟩,[],O,.nil,λp hp=>nomatch hp⟩ ?_ ?_⟩
    · rintro j ys ae G' hj ⟨SG,KK,⟨z,rfl⟩,ws,lw,pw,GW⟩
      show-⟨st,4,O,SG,{},{},λx G3 wx _ S3 K3=>?_⟩
      show-⟨st,4,O,S3,{},{},λt G4 t0 t1 S4 K4=>⟨aK,λc hc=>?_⟩⟩
      let s5:=ar hc (.tup [.str (s!"word"),.str x,.int t])
      let K5:Keep1 st G' _:=(K3.trans K4).trans s5.keep
      show⟨S4.same s5,KK.trans K5,⟨_,O⟩,ws++[(x,t)],by rw[qI,lw];rfl,?_,λp hp=>?_⟩
      · unfold j8
        rw[qD]
        show(pw.mono λ_ _ z=>z.keep K5 λ_ z _=>z).snoc ⟨c,O,bM S4.some hc,aj⟩
      · rcases rE.mp hp with hp | hp
        · show GW p hp
        · rw[rQ.mp hp];show⟨wx,t0,()⟩
    ext oY ae G' ⟨SG,KK,_,ws,lw,pw,GW⟩ W hW
    let sW:=ar hW (.lst oY)
    let ir:af G' W (.lst oY) W=!.lst oY:=aj
    let SW:=SG.same sW
    let KW:Keep1 st H _:=(KG.trans KK).trans (sW.keep (N:=λb=>b≠st))
    let OO:Paired (ItAt (λb=>b≠st) (af G' W (.lst oY))) oY (j8 ws):=pw.mono λ_ _ z=>z.keep sW.keep λ_ z _=>z
    let nW:W≠st:=bM SG.some hW
    generalize af G' W (.lst oY)=G5 at sW ir SW KW OO⊢
    dsimp only[aZ]
    let mS:=KW _ _ jp hp
    let OP:NdsAt (λb=>b≠st) G5 as ds:=nd.keep KW λ_ z _=>z
    let⟨a5,OQ,nst5,m5,s5',ha5,nm5,hm5,_⟩:=OP.get ed
    rw[ea]at OQ
    cases OQ
    let em:m5=m:=by
      let e1:=KK _ _ nst (jq _ _ ha)
      let e2:=sW _ _ e1
      rw[ha5]at e2
      cases e2
      rfl
    subst em
    show¬⟨_,O,p,_,O,ag mS,λA1 Cs=>?_⟩
    rw[Ins.cut_to (as:=as) (n:=i) ()]
    let t1:=ar Cs (.lst ↑(as.take i))
    let mT:af G5 A1 (.lst ↑(as.take i)) A1=!.lst ↑(as.take i):=aj
    generalize af G5 A1 (.lst ↑(as.take i))=J1 at t1 mT⊢
    show¬⟨_,O,_,O,_,O,aK,λc hc=>⟨aK,λA2 OR=>?_⟩⟩
    let t2:=ar hc (.tup [.int d.e,.str d.k.s,.str d.nm,.ref m5,.ref W])
    let gM:af J1 c (.tup [.int d.e,.str d.k.s,.str d.nm,.ref m5,.ref W]) c=!.tup [.int d.e,.str d.k.s,.str d.nm,.ref m5,.ref W]:=aj
    let nc:c≠st:=bM (SW.same t1).some hc
    generalize af J1 c (.tup [.int d.e,.str d.k.s,.str d.nm,.ref m5,.ref W])=J2 at t2 gM OR⊢
    let t3:=ar OR (.lst [.ref c])
    let OS:af J2 A2 (.lst [.ref c]) A2=!.lst [.ref c]:=aj
    generalize af J2 A2 (.lst [.ref c])=J3 at t3 OS⊢
    let kg:∀n,n<=1000->n<=sizeLine:=λn h=>rX (aR h)
    show⟨A1,A2,_,_,O,O,(t2.trans t3) _ _ mT,OS,kg _ (by rw[qA,xO];show _+1<=1000;omega),λA3 hA3=>?_⟩
    let t4:=ar hA3 (.lst (↑(as.take i)++[.ref c]))
    let OT:af J3 A3 (.lst (↑(as.take i)++[.ref c])) A3=!.lst (↑(as.take i)++[.ref c]):=aj
    generalize af J3 A3 (.lst (↑(as.take i)++[.ref c]))=J4 at t4 OT⊢
    let GX:=((t1.trans t2).trans t3).trans t4
    show¬⟨_,_,O,O,_,O,p,_,O,ag (GX _ _ mS),λA4 hA4=>?_⟩
    rw[show(i:Int)+1=((i+1:Nat):Int)from rfl,Ins.cut_off (as:=as) (n:=i+1)]
    let t5:=ar hA4 (.lst ↑(as.drop (i+1)))
    let OU:af J4 A4 (.lst ↑(as.drop (i+1))) A4=!.lst ↑(as.drop (i+1)):=aj
    generalize af J4 A4 (.lst ↑(as.drop (i+1)))=J5 at t5 OU⊢
    show⟨A3,A4,_,_,O,O,t5 _ _ OT,OU,kg _ (by rw[qI,qA,qA,xO,uL];show _+1+_<=1000;omega),λR hR=>?_⟩
    let t6:=ar hR (.lst (↑(as.take i)++[.ref c]++↑(as.drop (i+1))))
    let ye:=(GX.trans t5).trans t6
    let t26:Same J2 _:=((t3.trans t4).trans t5).trans t6
    let el:↑(as.take i)++[.ref c]++↑(as.drop (i+1))=↑(as.set i c):=by
      rw[List.set_eq_take_append_cons_drop,qZ (),qD,xE]
      rfl
    let new:NdAt (λb=>b≠st) (af J5 R (.lst (↑(as.take i)++[.ref c]++↑(as.drop (i+1))))) c {d with st:=j8 ws}:=⟨nc,m5,W,t26 _ _ gM,nm5,ye _ _ hm5,nW,oY,ye _ _ ir,OO.mono λ_ _ z=>z.keep ye.keep λ_ z _=>z⟩
    show q R (ds.set i {d with st:=j8 ws}) _ ⟨as.set i c,by rw[aj,el],Paired.set (OP.keep ye.keep λ_ z _=>z) new i⟩ (bM ((SW.same GX).same t5).some hR) (bk.swap ed (by rw[hk];decide) O O O (by rw[qbc];show qa6 ws) (qa7 fm hk GW () ())) (by rw[uG]) (KW.trans ye.keep)
 .ext σ G ⟨s2,z3,z4,z5,z6,z7,z8,rfl⟩;let K2:Keep1 st H G:=K1.trans s2.keep;show-⟨q p ds G ⟨as,K2 _ _ jp hp,nd.keep K2 λ_ z _=>z⟩ jp bk O K2⟩
end K31
namespace L2
def tNo:TS:=λ_ _ _=>False
def OV:PSs X ss tNo:=λ_ _ _ _ _ _ h=>h.elim
end L2
namespace Bd
open L2 Bk Gen
inductive mU:List V->Hp->VK->XK->Prop
|m (p:Addr) (n:Nat) (ds:List Nd) (N:Addr->Prop):vs=[.ref p,.int n]->b8 N H p ds->ds⁻¹<=1000->n<ds⁻¹->(∀l H',H l=none->Same H H'->H' l=!.lst ⇑((ay ds n).map λ(j:Nat)=>(j:Int))->Q (.ref l) H')->mU vs H Q E
end Bd
namespace L2
def fal(i:Nat)(sp:Sp):Sp:=λvs H Q E=>vs[i]?=!.bl false/\sp vs H Q E
end L2
namespace K31
open L2 Bk Gen Gd Bd Fc
structure Ct(mg:TJ):Prop where
 high:∃t,mg "HIGH" = !.int 0 t
 blank:∃t,mg "BLANK" = !.int 1 t
 wide:∃t,mg "WIDE_faces" = !.int 2 t
 odd:∃t,mg "ODD" = !.int 3 t
structure Cu(mg:TJ):Prop extends Ct mg where
 sort:∃t,mg "SORT" = !.int 0 t
 thing:∃t,mg "THING" = !.int 1 t
 tone:∃t,mg "TONE" = !.int 2 t
 unshown:∃t,mg "UNSHOWN" = !.str (s!"?") t
 figheld:∃t,mg "FIGURES_HELD" = !.int 4 t
 figures:∃t,mg "FIGURES" = !.str (s!"0123456789") t
abbrev OW:=top 24
abbrev OX:=top 25
abbrev OY:=top 36
abbrev OZ:=top 35
def qbd(F:Fu K "word_width" OW f fd)(T:BnD mg)(U:Ct mg):(~~~0) 1 f fd ["face", "word"] FM:=by
 rcases F.go ["face", "word", "odd"] with⟨a,fc,x,rfl,⟨L,ha,as,hL,pr⟩,ok,xl,lo,q⟩;let⟨_,GY⟩:=U.wide;let⟨_,GZ⟩:=U.odd;show⟨_,(aw (sv 2 (dS (NM (by rfl)) (by rfl) T.dict NQ (a1 (px aI '0' (gi GZ)))))
  (aA (aH (cb (Y4 (by rfl)) T.sum fZ (a1 (cm ["sign"] ["odd", "face"] [2,0] (Np '1') (nv 0) bj (Zd K (by rfl) PySem.F.plainAttrs_dict PySem.F.slot_dict_get PySem.F.type_dict_get NP '1' (a2 '0' (px (r:=bU K) aI '2' (gi GY)))))))))),?_⟩
 show-⟨a,_,_,_,O,O,aD ha,O,L,as,fi fc.odd,O,ag hL,NS pr,λd hd=>?_⟩;rw[Zm ok.un];let s1:=ar hd (.dK (fi fc.odd));let hD:af H d (.dK (fi fc.odd)) d=!.dK (fi fc.odd):=aj;let yf:=s1 _ _ ha;generalize af H d (.dK (fi fc.odd))=H1 at s1 hD yf⊢;show-⟨x,O,lo,Nq (λi ys ae H'=>H'=H1/\ys=⇑((x.cps.toList.take i).map λc=>gG fc ⟨#[c]⟩)/\∃z,ae=[z,!.ref d,!.ref a]) (aR xl) ⟨O,O,none,O⟩ ?_ ?_⟩
 .ext i c ys ae H' hc ⟨rfl,rfl,z,rfl⟩;show-⟨.inr (.inr (.inl ⟨O,.inl ⟨_,hD⟩⟩)),_,O,_,O,a,_,_,_,O,O,aD yf,O,d,fi fc.odd,.inr ⟨#[c]⟩,_,O,O,.inl hD,O,?_,_,O⟩;rw[Zn,rZ,rZ,Xm (V.int∘λc=>gG fc ⟨#[c]⟩) ‹hc›];rfl
 .ext ys ae H' ⟨rfl,rfl,_⟩ D hD';let eT:x.cps.toList.take x.cps.size=x.cps.toList:=qH ∅;rw[eT];show⟨D,_,O,ag aj,by rw[qA];simpa using xl,?_,?_⟩
  .intro y hy;let⟨c,_,rfl⟩:=qO.mp hy;show Zo ok _
  .show q _ (s1.trans (ar hD' _))
def qbe(F:Fu K "face_at" OX f fd)(T:BnD mg)(U:Ct mg):(~~~0) 1 f fd ["faces", "number"] FN:=by
 rcases F.go ["faces", "number", "face"] with⟨FA,n,fs,rfl,⟨as,hF,pr⟩,ne,l1000,q⟩;let⟨_,He⟩:=U.high;let⟨_,Hf⟩:=U.blank;let⟨_,GY⟩:=U.wide;let⟨_,GZ⟩:=U.odd;let la:=qS pr;let pos:0<fs⁻¹:=List.length_pos_iff.mpr ne;let el:(((↑as)⁻¹:Nat):Int)=(fs⁻¹:Int):=by rw[qA,la]
 let m0:=uZ n (by omega:(fs⁻¹:Int)≠0);let m1:=uO n (by omega:(0:Int)<fs⁻¹);obtain⟨k,ek⟩:∃k:Nat,n % (fs⁻¹:Int)=(k:Int):=⟨(n % (fs⁻¹:Int)).toNat,()⟩;let kl:k<fs⁻¹:=()
 let ef:fs[k]?=!fs[k]:=qB kl;let⟨c,ec,L,hc,O0,hL,qz⟩:=eV pr ef;show⟨_,(aw (sv 2 (px aE '0' (aG mf '1' (ln T.len '0'))))
  (aA (aH (br (aJ (px aI '2' (gi He)) (a3 (px aI '2' (gi Hf)) (px aI '2' (gi GY)) (dS pU (by rfl) T.list jP (a1 (px aI '2' (gi GZ)))))))))),?_⟩
 show¬⟨_,O,FA,_,O,.inl (ag hF),_,_,O,O,(),FA,_,_,_,O,O,ag hF,by rw[el,ek];show aU ec,_,O,c,_,_,_,O,O,aD hc,O,_,O,c,_,_,_,O,O,aD hc,O,_,O,c,_,_,_,O,O,aD hc,O,_,O,c,_,_,_,O,O,aD hc,O,L,_,O,.inl (ag hL),λL' re=>?_⟩;let s1:=ar re (.lst (O0.map V.ref));show⟨aK,λt ht=>?_⟩;let s2:=ar ht (.tup [.int fs[k].hi,.int fs[k].bl,.int fs[k].wi,.ref L']);show q t _ fs[k] (by rw[ek];show ef) (s1.trans s2) ⟨L',aj,O0,s2 _ _ aj,qz.mono λ_ _ h=>OdAt.same (s1.trans s2) h⟩ (s1.free ht)
def qbf(F:Fu K "printed" OY f fd)(T:BnD mg)(U:Cu mg):(~~~0) 1 f fd ["piece", "shown"] FO:=by
 rcases F.go ["piece", "shown"] with⟨a,p,so,x,t,sh,rfl,ha,⟨as,hp,pr⟩,ok,q⟩;let⟨_,yg⟩:=U.sort;let⟨_,Cv⟩:=U.thing;let⟨_,qbg⟩:=U.unshown;show⟨_,(aw (a7 (tc bv (px aI '0' (gi yg)) aQ) (aA (aH (jK PySem.F.plainAttrs_dict PySem.F.slot_dict_get PySem.F.type_dict_get NP (dS (NM (by rfl)) (by rfl) T.dict NQ (a1 '1')) (a2 (px aI '0' (gi Cv)) (gs qbg))))) bg)
  (aA (aH (px aI '0' (gi Cv))))),?_⟩
 show-⟨a,_,_,_,O,O,aD ha,O,O,_,O,?_⟩;rw[show decide (V.str so.s=V.str (s!"page"))=decide (so=.page)from E4 so .page];unfold jX at q
 by_cases hs:so=.page
 .show gP hs ?_;rw[qZ hs]at q;show-⟨p,as,fj sh,O,ag hp,NU pr,λd hd=>?_⟩;rw[Zp ok.un];let s1:=ar hd (.dK (fj sh));let hD:af H d (.dK (fj sh)) d=!.dK (fj sh):=aj;let yf:=s1 _ _ ha;generalize af H d (.dK (fj sh))=H1 at s1 hD yf⊢;show⟨.inr (.inr (.inl ⟨O,.inl ⟨_,hD⟩⟩)),_,O,a,_,_,_,O,O,aD yf,O,d,fj sh,.inr x,V.str unshown,O,O,.inl hD,?_⟩;rw[Zq];show q _ s1
 .show iH hs ?_;rw[qX hs]at q;show-⟨a,_,_,_,O,O,aD ha,O,q _ (Same.refl _)⟩
def qbh(F:Fu K "piece_width" OZ f fd)(T:BnD mg)(U:Cu mg)(qbi:⋯ 1 "word_width" ["face", "word"] FM)(qbj:⋯ 1 "printed" ["piece", "shown"] FO):(~~~0) 2 f fd ["piece", "face", "shown", "held"] (fal 3 FP):=by
 rcases F.go ["piece", "face", "shown", "held", "wide"] with⟨hv,a,p,fa,held,so,x,t,sh,fc,rfl,ha,wx,hp,ok,hf,fok,q⟩;obtain rfl:held=false:=V.bl.inj (rD hv);let⟨_,yg⟩:=U.sort;show⟨_,(aw (sv 4 (cF qbi hr (a2 '1' (cF qbj hr (a2 '0' '2')))))
  (aw (a7 (PW.pt (iC (kD '3') (jH (tc bv (px aI '0' (gi yg)) aQ)))) OV bg)
  (aA (aH '4')))),?_⟩
 show¬⟨_,O,a,p,so,x,t,sh,O,ha,hp,ok,λH1 s1=>?_⟩;let pw:=Zs ok (s:=so) wx;show⟨fa,fc,jX sh so x,O,hf.same s1,fok,pw.1,pw.2,λH2 s2=>?_⟩;unfold ig at q;rw[qX (λz=>nomatch z.1)]at q;show¬⟨ba (ba ⟨_,O,q _ (s1.trans s2)⟩)⟩
abbrev O1:=top 14
abbrev O2:=top 18
abbrev O3:=top 34
def pieceKinds:TV:=[s!"text",s!"head",s!"note"]
def rf(k:Kd):mq (.str k.s) (pieceKinds.map V.str)=decide (k=.text\/k=.head\/k=.note):=by
 rw[Yy];cases k<;>ac_rfl
def qbk{n:Nat}(h:0<n):fR n (-1)=!n-1:=by
 unfold fR;rw[qX {},qZ ()]
 congr 1
 omega
def atI_last(as:TQ)(al:Addr):bI ↑(as++[al]) (-1)=!.ref al:=by
 unfold bI;rw[qbk ∅];simp
def qbl(F:Fu K "holds" O1 f fd)(T:Bn mg)(tE:∃t,mg "ELDER" = !.int 0 t):(~~~0) 1 f fd ["book", "node"] mU:=by
 rcases F.go ["book", "node"] with⟨p,n,ds,N,rfl,⟨as,hp,nd⟩,le,hn,q⟩;let⟨tE,rg⟩:=tE;show⟨_,(aw (a7 (nT (Vt DP mh ao '1' (ln T.len '0'))) OV bg)
  (aA (aH (cm ["number", "other"] ["node"] [1] (vg (by rfl) T.enumerate (a1 '0')) (mC K (n:=2) (by rfl) (by rfl) (bD (nv 0) (bD (nv 1) dQ))) (iJ (tc bv (px (r:=bU K) aI '1' (gi rg)) '2')) '0')))),?_⟩
 let kW:as⁻¹=ds⁻¹:=nd⁻¹;show-⟨_,_,O,O,_,O,?_⟩;show gP (show(0:Int)<=(n:Int) by omega) ⟨_,O,p,_,O,.inl (ag hp),_,_,O,O,_,O,?_⟩;rw[qQ (show(n:Int)<(((↑as)⁻¹:Nat):Int) by rw[qA];omega)];show ba ?_;show-⟨p,O,⟨_,ag hp⟩,Mn (xs:=↑as) (λi ys ae H'=>Same H H'/\ys=⇑(mD ds n i)/\∃a b,ae=[a,b,!.int n]) (by rw[qA];show aR ()) ⟨Same.refl H,O,none,none,O⟩ ?_ ?_ ?_⟩
 .ext i ys ae H' hi ⟨s1,rfl,_⟩;show ag (s1 _ _ hp)
 .ext i x ys ae H' t hx ht ⟨s1,rfl,a,b,rfl⟩;let⟨a',ea,rfl⟩:=cE hx;let⟨d,ed,nad⟩:=nd.at ea;let⟨m',s',hV,_⟩:=nad.ex;let s2:=s1.trans (ar ht (.tup [.int (i:Nat),.ref a']));show⟨t,_,O,aD aj,O,_,_,O,_,_,O,O,_,O,a',_,_,_,O,O,aD (s2 _ _ hV),O,_,O,O,_,O,?_⟩
  by_cases he:d.e=n
  .show gP (xJ V.int he) ⟨_,O,s2,?_,_,_,O⟩;rw[Yv ed he,qD];rfl
  .rw[rB λz=>he (V.int.inj z)];show ba ⟨s2,?_,_,_,O⟩;rw[Yw ed he]
 .ext ys ae H' ⟨s1,rfl,_⟩ D hD;show q D _ (s1.free hD) (s1.trans (ar hD _)) ?_;rw[aj,qA,kW,Ze]
def qbm(F:Fu K "look_at" O2 f fd)(qbn:mg "PROPERTIES" = !.ref O4)(PT:NG K O4):(~~~0) 1 f fd ["looks", "node", "word"] fK:=by
 rcases F.go ["looks", "node", "word"] with⟨p,n,j,y,ls,rfl,⟨as,hp,pr⟩,hn,cV,hj,ip,q⟩;let⟨o,ho1,ho2,ho3⟩:=PT.ob;let⟨a,ea,ha⟩:=eV pr (qB hn);let l13:=cV _ (rJ hn);let ej:ls[n][j]?=!ls[n][j]'(by omega):=qB ();let ev:aC ls n j=ls[n][j]'(by omega):=by
  unfold aC;rw[qB hn,Option.getD_some,qV,ej];rfl
 show⟨_,(aA (aH (px aE (px aE '0' '1') (jK PySem.F.plainAttrs_tuple PySem.F.slot_tuple_index PySem.F.type_tuple_index Y8 (gr qbn) (a1 '2'))))),?_⟩;rw[ev]at q;show¬⟨p,_,_,_,O,O,ag hp,aU ea,.inr (.inl ⟨O,o,ho1,ho2,ho3⟩),_,O,O4,xc,y,j,O,O,PT.tup _,ip.1,ip.2,a,_,_,_,O,O,ag ha,eQ (by rw[qJ,ej];rfl),q⟩
def qbo(F:Fu K "node_units" O3 f fd)(T:BnD mg)(U:Cu mg)(tK:∃t,mg "KIND" = !.int 1 t)(tS:∃t,mg "STUFF" = !.int 4 t)(tN:∃t,mg "UNIT_NOTES" = !.int 4 t)(lQ:mg "KINDS_OF_PIECES" = !.ref gI)(KP:∀H:Hp,SqT K H gI (pieceKinds.map V.str))(jr:⋯ 1 "holds" ["book", "node"] mU)(qbp:⋯ 1 "face_at" ["faces", "number"] FN)(qbq:⋯ 2 "piece_width" ["piece", "face", "shown", "held"] (fal 3 FP)):(~~~0) 3 f fd ["book", "number", "faces", "shown", "held", "node"] (fal 4 FU):=by
 rcases F.go ["book", "number", "faces", "shown", "held", "node", "notes", "units", "place", "piece", "face"] with⟨hvl,B,FA,p,num,held,n,ds,fs,sh,rfl,⟨ab,hB,nd⟩,hF,hp,hn,cx,q⟩;let⟨_,eY⟩:=tK;let⟨_,rh⟩:=tS;let⟨_,qbr⟩:=tN;let⟨_,yg⟩:=U.sort;let⟨_,Cv⟩:=U.thing;let⟨_,qbs⟩:=U.tone;let⟨_,Hf⟩:=U.blank;let⟨_,He⟩:=U.high;let le:=cx.le;let ed:ds[n]?=!ds[n]:=qB hn;let⟨c,ec,nc⟩:=nd.get ed;let⟨m',s',hc,_,_,_,kf,bw,dz⟩:=nc.ex;generalize ds[n]=d at ed hc dz nc;show⟨_,(aw (a7 (tc AZ (px aI (px aE '0' '5') (gi eY)) (gr lQ)) (aA (aH (a0 bE))) bg)
  (aw (sv 6 (cF jr hr (a2 '0' '5')))
  (aw (sv 7 (a0 bE))
  (aw (fv (vg (by rfl) T.enumerate (a1 (px aI (px aE '0' '5') (gi rh)))) (i6 (by rfl) (bD (nv 8) (bD (nv 9) dQ)))
  (aA (a7 (tc bv (px aI '9' (gi yg)) aQ) (aA (cq (ap (px aI (px aE '7' (dM dN ao)) (gi qbr)) (px aE '6' (px aI '9' (gi Cv)))))) (aw (sv 10 (cF qbp hr (a2 '2' (aG bi '1' (px aI '9' (gi qbs))))))
  (aA (cq (ap '7' (br (aJ (cF qbq hr (aJ '9' (a3 ':' '3' '4'))) (aJ (px aI ':' (gi Hf)) (a3 (px aI ':' (gi He)) '8' (a0 bE))))))))))))
  (aA (aH '7')))))),?_⟩
 show¬⟨B,_,_,_,O,O,ag hB,aU ec,c,_,_,_,O,O,aD hc,O,gI,_,O,.inr (KP _),O,qg _,_,O,?_⟩;rw[qZ O,rf]
 by_cases ht:d.k=.text\/d.k=.head\/d.k=.note
 rotate_left
 .rw[rB ht];show bL ⟨aK,λL hL=>?_⟩;show q L _ (ar hL _) ?_;unfold mO;rw[ed];show UsAt H _ L (if d.k=.text\/d.k=.head\/d.k=.note then _ else[]);rw[qX ht];show UsAt.nil hL aj
 rw[qQ ht];show ba ?_;let⟨lR,pne,p60,pnt⟩:=cx.pcs n d ed ht;let q2:∀(L:Addr) (H':Hp),Same H H'->UsAt H H' L (c7 fs sh held num ((ay ds n).map λ(j:Nat)=>(j:Int)) d.st d.st⁻¹)->Q (.ref L) H':=λL H' s u=>q L H' s (by
  unfold mO;rw[ed];show UsAt H _ L (if d.k=.text\/d.k=.head\/d.k=.note then _ else[]);rw[qZ ht];show u)
 clear q;show¬⟨B,n,ds,_,O,⟨ab,hB,nd⟩,(),hn,λK0 H1 hK s1 bX=>?_⟩;generalize qbt:((ay ds n).map λ(j:Nat)=>(j:Int))=kids at bX q2;let qbu:kids⁻¹=(ay ds n)⁻¹:=by rw[<-qbt,qA]
 show⟨aK,λL hL=>?_⟩;let sL:=ar hL (.lst []);let bG:af H1 L (.lst []) L=!.lst []:=aj;generalize af H1 L (.lst [])=H2 at sL bG⊢;let bo:=s1.trans sL;let lv:kf⁻¹=d.st⁻¹:=qS dz;show¬⟨B,_,_,_,O,O,ag (bo _ _ hB),aU ec,c,_,_,_,O,O,aD (bo _ _ hc),O,s',O,⟨_,ag (bo _ _ bw)⟩,Fi (xs:=kf) (λi σ H'=>Same H1 H'/\UsAt H1 H' L (c7 fs sh held num kids d.st i)/\(c7 fs sh held num kids d.st i)⁻¹<=i/\∃z8 z9 fu,σ=[!.ref B,!.int num,!.ref FA,!.ref p,!.bl held,!.int n,!.ref K0,!.ref L,z8,z9,fu]) ⟨sL,UsAt.nil hL bG,qG _,none,none,none,O⟩ ?_ ?_ ?_⟩
 .ext i σ H' hi ⟨s3,_⟩;show ag (s3 _ _ (s1 _ _ bw))
 .rintro i v σ H3 t hv ht3 ⟨s3,yh,yi,z8,z9,fu,rfl⟩;let⟨th,rj,it⟩:=bN dz hv;let il:i<d.st⁻¹:=(qF.mp rj).1;let po:=lR th (qL rj);let O5:c7 fs sh held num kids d.st (i+1)=jY fs sh held num kids i (c7 fs sh held num kids d.st i) th:=by rw[c7,rj]
  rw[O5];let nz:gQ th=true->c7 fs sh held num kids d.st i≠[]:=λhn=>by
   cases i with
   | zero =>
     let⟨x,r,e,nx⟩:=pne
     rw[e]at rj
     cases rj
     rw[nx]at hn
     cases hn
   | succ i=>show FS lR pne i ()
  let sT:=ar ht3 (.tup [.int (i:Nat),v]);let hT:af H3 t (.tup [.int (i:Nat),v]) t=!.tup [.int (i:Nat),v]:=aj;generalize af H3 t (.tup [.int (i:Nat),v])=H4 at sT hT⊢;let s4:=s3.trans sT;let Cw:=yh.same sT;clear yh s3 O5;let sm:=FV (fs:=fs) (sh:=sh) (held:=held) (num:=num) (kids:=kids) (st:=d.st) i;generalize c7 fs sh held num kids d.st i=acc at Cw yi nz sm⊢;show⟨t,_,O,aD hT,O,_,_,O,_,_,O,O,?_⟩;cases th with
  | int m=>show po.elim
  | tri so y tn =>
    let⟨a,rfl,_,ha0⟩:=it
    let ha:H4 a=_:=s4 _ _ (s1 _ _ ha0)
    show-⟨a,_,_,_,O,O,aD ha,O,O,_,O,?_⟩
    rw[show decide (V.str so.s=V.str (s!"note"))=decide (so=.note)from E4 so .note]
    by_cases mR:so=.note
    · rw[decide_eq_true mR]
      subst mR
      cases y with
      | inl x=>show po.elim
      | inr j =>
        let i0:acc≠[]:=nz O
        let⟨us,u,e1,e2⟩:=BZ i0 ((kids[j.toNat]?).getD 0)
        let jl:j.toNat<kids⁻¹:=by rw[qbu];show pnt tn j (qL rj)
        let j0:((j.toNat:Nat):Int)=j:=by have:=po.1;omega
        let ek:kids[j.toNat]?=!(kids[j.toNat]?).getD 0:=by rw[qB jl];rfl
        rw[show jY fs sh held num kids i acc (.tri .note (.inr j) tn)=lH acc ((kids[j.toNat]?).getD 0)from rfl,e2]
        rw[e1]at Cw
        let⟨ps,au,nl,yj,ut,nl0,us5⟩:=Cw.note ((kids[j.toNat]?).getD 0)
        let qbv:H4 L=!.lst ↑(ps.map Prod.fst++[au]):=by rw[yj,qD];rfl
        let ul5:u.ns⁻¹<=1000:=by
          have:=sm u (by rw[e1];simp)
          omega
        show bL ⟨_,O,_,O,L,_,_,_,O,O,ag qbv,atI_last _ _,au,_,_,_,O,O,aD ut.1,O,.inl ⟨O,_,ag ut.2⟩,_,O,_,O,a,_,_,_,O,O,aD ha,O,K0,_,_,_,O,O,ag (s4 _ _ bX),by show bI ⇑kids j=_;rw[<-j0];show eQ (by rw[qJ,ek];rfl),nl,_,_,O,O,ut.2,aR (by rw[qA];show ul5),?_⟩
        show⟨gZ s4 nl0,us5,?_,_,_,_,O⟩
        rw[qI]
        rw[e1,qI]at yi
        show yT yi
    · rw[decide_eq_false mR]
      have hx:∃x,y=.inl x/\Wd x/\0<=tn/\jY fs sh held num kids i acc (.tri so y tn)=acc++[⟨ig (dZ fs (num+tn)) sh held so x,(dZ fs (num+tn)).bl,(dZ fs (num+tn)).hi,i,[]⟩]:=by
        cases so<;>cases y<;>first
          | show po.elim
          | show qT rfl mR
          | show⟨_,rfl,ZH po.1,po.2.1,rfl⟩
          | show⟨_,rfl,ZI po.1,po.2.1,rfl⟩
      let⟨x,rfl,wx,_,kh⟩:=hx
      rw[kh]
      show ba ?_
      show¬⟨_,O,a,_,_,_,O,O,aD ha,O,_,_,O,O,FA,num+tn,fs,O,N4 (s1.trans s4) hF,cx.fne,cx.fl,λtf H5 fc ef s5 hf hf0=>?_⟩
      rw[ZJ ef]
      let kX:=s4.trans s5
      let fk:=cx.fok fc (qL ef)
      let⟨nL,ps,yj,O6,ndU⟩:=Cw
      show-⟨.inl ⟨O,_,ag (s5 _ _ yj)⟩,_,O,_,O,_,O,_,O,hvl,a,p,tf,held,so,x,tn,sh,fc,O,s5 _ _ ha,wx,N5 (s1.trans kX) hp,cx.sok,hf,fk,λH6 s6=>?_⟩
      let⟨Lf,O7,_⟩:=hf.same s6
      show-⟨tf,_,_,_,O,O,aD O7,O,_,O,tf,_,_,_,O,O,aD O7,O,_,O,aK,λnl oT=>?_⟩
      let s7:=ar oT (.lst [])
      let O8:af H6 nl (.lst []) nl=!.lst []:=aj
      generalize af H6 nl (.lst [])=H7 at s7 O8⊢
      show⟨aK,λau O9=>?_⟩
      let s8:=ar O9 (.tup [.int (ig fc sh held so x),.int fc.bl,.int fc.hi,.int (i:Nat),.ref nl])
      let O':af H7 au (.tup [.int (ig fc sh held so x),.int fc.bl,.int fc.hi,.int (i:Nat),.ref nl]) au=!.tup [.int (ig fc sh held so x),.int fc.bl,.int fc.hi,.int (i:Nat),.ref nl]:=aj
      generalize af H7 au (.tup [.int (ig fc sh held so x),.int fc.bl,.int fc.hi,.int (i:Nat),.ref nl])=H8 at s8 O'⊢
      let Hg:=((s5.trans s6).trans s7).trans s8
      let lps:ps⁻¹=acc⁻¹:=qS O6
      show⟨L,_,_,O,O,Hg _ _ yj,aR (by rw[qA,qA];omega),?_⟩
      show⟨gZ (s4.trans Hg) nL,UsAt.push nL yj O6 ndU Hg s4 ((s5.trans s6).free oT) (((s5.trans s6).trans s7).free O9) ⟨O',s8 _ _ O8⟩,?_,_,_,_,O⟩
      rw[qI]
      show yO yi
 .ext σ H3 ⟨s3,yh,yi,z8,z9,fu,rfl⟩;rw[lv]at yh;show-⟨q2 L _ (s1.trans s3) (yh.base s1)⟩
abbrev Pa:=top 37
def qbw(F:Fu K "rows_high" Pa f fd)(T:bO mg)(tH:∃t,mg "UNIT_HIGH" = !.int 2 t):(~~~0) 1 f fd ["units"] Bw.spRowsHigh:=by
 rcases F.go ["units"] with⟨a,us,rfl,⟨ps,ha,pr⟩,ne,l9,q⟩;let⟨_,qbx⟩:=tH;show⟨_,(aA (aH (cb (mK (by rfl)) T.max dP (a1 (cm ["unit"] [] [] (a6 '0') (nv 0) bj (px (r:=bU K) aI '0' (gi qbx))))))),?_⟩;let lp:=qS pr;show-⟨a,O,⟨_,ag ha⟩,bx (xs:=↑ps) (λi ys ae H'=>H'=H/\ys=⇑((us.take i).map Un.h)/\∃z,ae=[z]) (by rw[qA];show aR ()) ⟨O,O,none,O⟩ ?_ ?_ ?_⟩
 .ext i ys ae H' hi ⟨rfl,rfl,_⟩;show ag ha
 .ext i y ys ae H' hy ⟨rfl,rfl,z,rfl⟩;let⟨c,ec,rfl⟩:=cE hy;let⟨u,eu,_,hu,_⟩:=bN pr ec;show-⟨c,_,_,_,O,O,aD hu,O,O,?_,_,O⟩;rw[qP,eu,qD,qD];rfl
 .ext ys ae H' ⟨rfl,rfl,_⟩ D hD;rw[show us.take (↑ps)⁻¹=us from qH (by rw[qA];omega)];show⟨D,_,a9 (us.map Un.h),O,ag aj,gF ‹ne›,iO,q _ (ar hD _)⟩
abbrev mV:=top 33
def qby:iP (s!"face") 0:=⟨by ac_rfl,λi h=>nomatch h⟩
def qbz(F:FunD K "all_units" "all_units" mV f fd)(T:bO mg)(cA:⋯ 1 "look_at" ["looks", "node", "word"] fK)(qbA:⋯ 3 "node_units" ["book", "number", "faces", "shown", "held", "node"] (fal 4 FU)):(~~~0) 4 f fd ["book", "looks", "faces", "shown", "held"] (fal 4 spAllU):=by
 rcases F.go ["book", "looks", "faces", "shown", "held"] with⟨hv,B,p,FA,S,held,ds,fs,sh,ls,rfl,hB,hp,ll,l13,hF,hS,cx,q⟩;let le:=cx.le;let⟨ab,yk,nd⟩:=id hB;let lb:ab⁻¹=ds⁻¹:=qS nd;let lu:(iQ ds fs sh held ls)⁻¹=ds⁻¹:=by simp[iQ]
 let el:(((↑ab)⁻¹:Nat):Int).toNat=ds⁻¹:=by rw[qA];omega
 show⟨_,(aA (aH (cm ["node"] ["book", "faces", "shown", "held", "looks"] [0,2,3,4,1] (r1 T.range (ln T.len '0')) (nv 0) bj (cF qbA hr (aJ '1' (aJ (cF cA hr (a3 '5' '0' aQ)) (aJ '2' (a3 '3' '4' '0')))))))),_,O,B,_,O,.inl (ag yk),_,O,(),by rw[qA];omega,jO (n:=(((↑ab)⁻¹:Nat):Int).toNat) (λi ys ae H'=>Same H H'/\(∃z,ae=[z,!.ref B,!.ref FA,!.ref S,!.bl held,!.ref p])/\∃xs,ys=↑(xs.map Prod.fst)/\xs⁻¹=i/\Ux H H' xs ((iQ ds fs sh held ls).take i)) (by rw[el];show aR ()) ⟨Same.refl _,⟨none,O⟩,[],O,O,.nil,vV,λx hx=>nomatch hx⟩ ?_ ?_⟩
 .ext i ys ae H' hi ⟨s1,⟨z,rfl⟩,xs,rfl,lx,ux⟩;rw[el]at hi;let eu:(iQ ds fs sh held ls)[i]?=!mO ds fs sh held (aC ls i 0) i:=by
   unfold iQ;rw[qJ,xA hi];rfl
  show aZ 0 (V.int (0+(i:Int))) _ _ _;rw[uE];show¬⟨_,O,p,i,0,_,ls,O,cS s1 hp,(),l13,{},qby,_,O,_,O,_,O,_,O,hv,B,FA,S,aC ls i 0,held,i,ds,fs,sh,O,ZN s1 hB,N4 s1 hF,N5 s1 hS,hi,cx,λR H2 s2 us2=>?_⟩;let⟨ps,ux2⟩:=ux.step s1 s2 us2;show⟨s1.trans s2,⟨_,O⟩,xs++[(R,ps)],by rw[qD,qD];rfl,by rw[qI,lx];rfl,?_⟩;rw[qP,eu];show ux2
 ext ys ae H' ⟨s1,_,xs,rfl,lx,ux⟩ D hD;rw[el,qH ()]at ux;let so:=On ux.1;show q D xs _ (s1.free hD) (s1.trans (ar hD _)) aj (λx hx=>⟨λz=>?_,λp hp z=>?_⟩) (ux.same (ar hD _))
 .let⟨o,e⟩:=(so x hx).1;rw[z,hD]at e;cases e
 .let⟨o,e⟩:=(so x hx).2 p hp;rw[z,hD]at e;cases e
abbrev Pb:=top 120
def FcX(L:Addr)(H:Hp)(a:Addr)(f:cT):=∃M,M≠L/\H a=!.tup [.int f.hi,.int f.bl,.int f.wi,.ref M]/\LstAt OdAt H M f.odd
def FcX.at(h:FcX L H a f):FcAt H a f:=by
 let⟨M,_,e,l⟩:=h;show⟨M,e,l⟩
def kj{H:Hp}{L st:Addr}{as:TQ}(h:H L=!.lst ↑as)(S:StOk H st):L≠st:=λz=>by
 let⟨x,y,e,_⟩:=S;rw[z,e]at h;have:=HO.lst.inj (rD h);cases as with
 | nil=>cases this
 | cons a as=>cases this
def mW(h:H c=!.tup xs)(S:StOk H st):c≠st:=λz=>by
 let⟨x,y,e,_⟩:=S;rw[z,e]at h;cases h
def Cy(S:StOk H st)(k:Keep1 st H H'){od:List (Str×Int)}(h:Paired (OdAt H) as od):Paired (OdAt H') as od:=h.mono λ_ _ e=>k _ _ (mW e S) e
def FcX.keep(S:StOk H st)(k:Keep1 st H H')(h:FcX L H a f):FcX L H' a f:=by
 let⟨M,n,e,as,eM,p⟩:=h;show⟨M,n,k _ _ (mW e S) e,as,k _ _ (kj eM S) eM,Cy S k p⟩
def FcX.put(hL:H L=!.lst ys)(h:FcX L H a f):FcX L (af H L o) a f:=by
 let⟨M,n,e,as,eM,p⟩:=h;show⟨M,n,Tups.lst hL _ _ e,as,by rw[aF n];show eM,p.mono λ_ _ e=>Tups.lst hL _ _ e⟩
inductive Hh:List V->Hp->VK->XK->Prop
|m (st:Addr):vs=[.ref st]->StOk H st->(∀(F:Addr) (fs:List cT) (H':Hp),H F=none->LstAt FcAt H' F fs->fs≠[]->fs⁻¹<=4->(∀f∈fs,oP f)->(∀f∈fs,oX f)->StOk H' st->Keep1 st H H'->Q (.ref F) H')->Hh vs H Q E
def Hi:TV:=[s!"",s!"M",s!"Mi",s!"Mil"]
def mX(x:Str):TV:=x.cps.toList.map λc=>⟨#[c]⟩
def qbB:∀x∈Hi,(mX x).Nodup/\x.cps.size<=3/\x.cps.all (·< 128)=true/\∀y∈mX x,PyData.strOk y=true:=by ac_rfl
def qbC(F:Fu K "_law_faces" Pb f fd)(T:bO mg)(bF:⋯ 1 "_law_take" ["_law_stream_here", "_law_most"] gV):(~~~0) 2 f fd ["_law_stream_here"] Hh:=by
 rcases F.go ["_law_stream_here", "_law_found", "_law_k", "_law_odd"] with⟨st,rfl,S0,q⟩;show⟨_,(aw (sv 1 (a0 bE))
  (aw (fv (r1 T.range (aG bi ao (cF bF hr (a2 '0' ao)))) (nv 2)
  (aw (sm 3 ["_law_sign"] ["_law_stream_here"] [0] (Np (px aE (a0 (aJ aQ (a3 aQ aQ aQ))) (cF bF hr (a2 '0' ao)))) (nv 0) bj (br (a2 '0' (aG bi ao (cF bF hr (a2 '1' ao))))))
  (aA (cq (ap '1' (br (aJ (aG bi ao (cF bF hr (a2 '0' ao))) (a3 (cF bF hr (a2 '0' ao)) (aG bi ao (cF bF hr (a2 '0' ao))) '3'))))))))
  (aA (aH '1')))),?_⟩
 show⟨aK,λL hL=>?_⟩;let s1:=ar hL (.lst []);let bG:af H L (.lst []) L=!.lst ↑([]:TQ):=aj;generalize af H L (.lst [])=H1 at s1 bG⊢;let S1:=S0.same s1;show-⟨st,4,O,S1,{},{},λr1 H2 r10 r11 S2 K2=>⟨_,_,O,O,_,O,(),(),gp (λi σ H'=>(∃z3 z4,σ=[!.ref st,!.ref L,z3,z4])/\StOk H' st/\Keep1 st H H'/\∃as fs,H' L=!.lst ↑as/\Paired (FcX L H') as fs/\fs⁻¹=i/\(∀f∈fs,oP f)/\∀f∈fs,oX f) ⟨⟨_,_,O⟩,S2,s1.keep.trans K2,[],[],K2 _ _ (kj bG S1) bG,.nil,O,(λf hf=>nomatch hf),λf hf=>nomatch hf⟩ ?_ ?_⟩⟩
 .rintro i σ H' hi ⟨⟨z3,z4,rfl⟩,S3,K3,as,fs,cK,pr,lf,ok,Hj⟩;let i8:i<=8:=()
  show⟨aK,λu hu=>?_⟩;let sU:=ar hu (.lst (Hi.map V.str));show-⟨st,4,O,S3.same sU,{},{},λr4 H7 ot ou S7 K7=>?_⟩;let⟨x,ex,mx⟩:=EE (nms:=Hi) ot ou;let⟨nss,Cz,lo7,sso⟩:=qbB x mx;let K37:Keep1 st H' H7:=sU.keep.trans K7;show⟨u,_,_,_,O,O,ag (K7 _ _ (bM S3.some hu) aj),ex,x,O,lo7,Nq (x:=x) (λj ys ae H8=>∃bs od,ys=↑bs/\Paired (OdAt H8) bs od/\od.map Prod.fst=(mX x).take j/\(∀p∈od,1<=p.2/\p.2<=9)/\(∃z,ae=[z,!.ref st])/\StOk H8 st/\Keep1 st H7 H8) (aR ()) ⟨[],[],O,.nil,O,(λp hp=>nomatch hp),⟨none,O⟩,S7,KeepN.refl⟩ ?_ ?_⟩
  .rintro j c ys ae H8 hy ⟨bs,od,rfl,pb,eo,ob,⟨z,rfl⟩,S8,K8⟩;show¬⟨st,9,O,S8,{},{},λr9 H9 r90 r91 S9 K9=>⟨_,_,O,O,aK,λt ht=>?_⟩⟩;let Hk:=ar ht (.tup [.str ⟨#[c]⟩,.int (1+r9)]);show⟨bs++[t],od++[((⟨#[c]⟩:Str),1+r9)],by rw[qD];rfl,((Cy S8 K9 pb).mono λ_ _ h=>OdAt.same Hk h).snoc aj,?_,λp hp=>?_,⟨_,O⟩,S9.same Hk,(K8.trans K9).trans Hk.keep⟩
   .let ec:(mX x)[j]?=!⟨#[c]⟩:=by
     unfold mX;rw[qJ,vB,hy];rfl
    rw[qD,eo,qP,ec];rfl
   .rcases rE.mp hp with hp | hp
    .show ob p hp
    .rw[rQ.mp hp];show 1<=1+r9/\1+r9<=9;omega
  ext ys ae H8 ⟨bs,od,rfl,pb,eo,ob,_,S8,K8⟩ M hM;rw[qH (by unfold mX;rw[qA,xG];show qG _)]at eo;let sM:=ar hM (.lst ↑bs);let yl:LstAt OdAt (af H8 M (.lst ↑bs)) M od:=⟨bs,aj,pb.mono λ_ _ h=>OdAt.same sM h⟩;let K38:=K37.trans K8;let Pc:=K38 _ _ (kj cK S3) cK;let ML:M≠L:=λz=>by rw[z,Pc]at hM;cases hM
  generalize af H8 M (.lst ↑bs)=H9 at sM yl⊢;let S9:=S8.same sM;let K39:=K38.trans sM.keep;let hL9:=sM _ _ Pc;show-⟨.inl ⟨O,_,ag hL9⟩,_,O,st,12,O,S9,{},{},λra Ha ra0 ra1 Sa Ka=>⟨_,_,O,O,_,O,st,5,O,Sa,{},{},λrb Hb rb0 rb1 Sb Kb=>-⟨st,6,O,Sb,{},{},λrc Hc rc0 rc1 Sc Kc=>⟨_,_,O,O,_,O,aK,λt ht=>?_⟩⟩⟩⟩;let K9c:Keep1 st H9 Hc:=(Ka.trans Kb).trans Kc;let sT:=ar ht (.tup [.int (1+ra),.int rb,.int (1+rc),.ref M]);let fw:=aj (H:=Hc) (a:=t) (o:=.tup [.int (1+ra),.int rb,.int (1+rc),.ref M]);generalize af Hc t (.tup [.int (1+ra),.int rb,.int (1+rc),.ref M])=Hd at sT fw⊢;let Hl:Keep1 st H9 Hd:=K9c.trans sT.keep;let Sd:=Sc.same sT;let Hm:=K39.trans Hl;let CA:=Hm _ _ (kj cK S3) cK;let la:=qS pr;show⟨L,_,_,O,O,CA,aR (by rw[qA];omega),?_⟩;let Lst:=kj CA Sd;let⟨sx,sy,es,ez⟩:=Sd;let fx:FcX L Hd t ⟨1+ra,rb,1+rc,od⟩:=by
   let⟨mas,eM,pM⟩:=yl;show⟨M,ML,fw,mas,Hl _ _ (kj eM S9) eM,Cy S9 Hl pM⟩
  show⟨⟨_,_,O⟩,⟨sx,sy,by rw[aF (rV Lst)];show es,ez⟩,λb o n e=>by rw[aF (cB e hL)];show Hm b o n (K3 b o n e),as++[t],fs++[⟨1+ra,rb,1+rc,od⟩],by rw[aj,qD];rfl,(pr.mono λ_ _ h=>(h.keep S3 Hm).put CA).snoc (fx.put CA),by rw[qI,lf];rfl,λf hf=>?_,λf hf=>?_⟩
  rotate_left
  .rcases rE.mp hf with hf | hf
   .show Hj f hf
   .rw[rQ.mp hf];show⟨⟨by show 1<=1+ra;omega,by show 1+ra<=12;omega⟩,⟨rb0,by show rb<=4;omega⟩,⟨by show 1<=1+rc;omega,by show 1+rc<=9;omega⟩,ob⟩
  rcases rE.mp hf with hf | hf
  .show ok f hf
  .rw[rQ.mp hf];let lo:od⁻¹<=7:=by
    let lx:(mX x)⁻¹<=3:=by unfold mX;rw[qA,xG];show Cz
    have:=xJ List.length eo;rw[qA]at this;omega
   show⟨by show(od.map Prod.fst).Nodup;rw[eo];show nss,by show od⁻¹<=1000;omega,by show 0<=1+rc/\1+rc<=1000000;omega,λp hp=>by have:=ob p hp;omega⟩
 .ext σ H' ⟨⟨z3,z4,rfl⟩,S3,K3,as,fs,cK,pr,lf,ok,Hj⟩;show-⟨q L fs H' hL ⟨as,cK,pr.mono λ_ _ h=>h.at⟩ (λz=>by rw[z]at lf;have:(0:Nat)=(1+r1).toNat:=lf;omega) () ok Hj S3 K3⟩
end K31
namespace Bd
open L2 Bk Gen
def oZ:TC->TA
 | []=>iG
 | y::r=>dD (DR (dD (tC (.int y.1)) (dD (tC (.int y.2)) iG))) (oZ r)
def CB:Expr->Int->Bool
 | .Constant (.int a) _ _,y=>a == y
 | _,_=>false
def Pd{y:Int}(h:CB e y=true):∃j pos,e=.Constant (.int y) j pos:=by
 unfold CB at h
 split at h
 .rw[beq_iff_eq.mp h];show⟨_,_,O⟩
 .cases h
def Hn:Expr->Int×Int->Bool
 | .Tuple [a,b] _ _,y=>CB a y.1 && CB b y.2
 | _,_=>false
def qbD{y:Int×Int}(h:Hn e y=true):∃es x p,e=.Tuple es x p/\PE X (.Tuple es x p) (DR (dD (tC (.int y.1)) (dD (tC (.int y.2)) iG))):=by
 unfold Hn at h
 split at h
 .rename_i a b x p;rw[uC]at h;let⟨_,_,rfl⟩:=Pd h.1;let⟨_,_,rfl⟩:=Pd h.2;show⟨_,_,_,O,br (aJ ao (aJ ao bE (by rfl)) (by rfl))⟩
 .cases h
def rk:TW->List (Int×Int)->Bool
 | [],[]=>true
 | e::es,y::ys=>Hn e y && rk es ys
 | _,_=>false
theorem Pe:∀{es:TW} {ys:TC},rk es ys=true->PA X es (oZ ys)
 | [],[],_=>bE
 | e :: es, y :: ys, h => by
   rw[rk,uC]at h
   let⟨_,_,_,rfl,q⟩:=qbD (X:=X) h.1
   show aJ q (Pe h.2) (by rfl)
def Pf(ys:TC)(h:rk es ys=true):PE X (.List es pos) (pQ (oZ ys)):=a0 (Pe h)
theorem Pg:∀{ys:TC} {σ:St} {H:Hp} {Q:List V->Hp->Prop},Same H0 H->(∀(ts:TQ) (H':Hp),Same H H'->Paired (λt y=>PrAt H' t y) ts ys->Q ↑ts H')->oZ ys σ H Q
 | [],σ,H,Q,s,h=>h [] H (Same.refl _) .nil
 | y :: r, σ, H, Q, s, h => by
   show⟨by show 2<=sizeLine;decide,λt ht=>?_⟩
   let s1:=ar ht (.tup [.int y.1,.int y.2])
   show Pg (ys:=r) (s.trans s1) λts H' s2 p=>?_
   show h (t::ts) H' (s1.trans s2) (.cons (s2 _ _ aj) p)
def Ph{ys:TC}(le:ys⁻¹<=100)(h:∀(l:Addr) (ts:TQ) (H':Hp),H l=none->Same H H'->H' l=!.lst ↑ts->Paired (PrAt H') ts ys->Q (.ref l) H'):pQ (oZ ys) σ H Q:=by
 show Pg (H0:=H) (Q:=λxs H2=>xs⁻¹<=sizeLine/\∀l,H2 l=none->Q (.ref l) (af H2 l (.lst xs))) (Same.refl _) λts H' s p=>⟨?_,λl hl=>?_⟩
 .have:=qS p;rw[qA,this];show rK le {}
 .let s1:=ar hl (.lst ↑ts);show h l ts _ (s.free hl) (s.trans s1) aj (p.mono λ_ _ q=>s1 _ _ q)
end Bd
namespace K31
open L2 Bk Gen Gd Bd Fc
abbrev CC:=top 119
def ym:TC:=[(0,99),(0,3),(0,9),(0,9),(1,9),(0,60),(20,200)]
def yn:TC:=[(1,6),(1,6),(1,4),(0,1),(10,90),(0,1)]
def km:TC:=ym++yn
def LkTo(i:Nat)(l:TN):Prop:=l⁻¹=i/\∀(j:Nat) (v:Int) (b:Int×Int),l[j]?=!v->km[j]?=!b->b.1<=v/\v<=b.2
def LkTo.more{i:Nat}{l:TN}{v:Int}{b:Int×Int}(h:LkTo i l)(e:km[i]?=!b)(h1:b.1<=v)(h2:v<=b.2):LkTo (i+1) (l++[v]):=by
 show⟨by rw[qI,h.1];rfl,λj x c hx hc=>?_⟩
 by_cases z:j<l⁻¹
 .rw[rY z]at hx;show h.2 j x c hx hc
 .rw[rG ()]at hx;let j0:j-l⁻¹=0:=by
   have:=(qF.mp hx).1;simp at this;omega
  rw[j0]at hx;let ev:v=x:=‹hx›
  let ej:j=i:=by have:=h.1;omega
  rw[ej,e]at hc;cases hc;subst ev;show⟨h1,h2⟩
def LkTo.at{l:TN}(h:LkTo 13 l)(j:Nat){b:Int×Int}(e:km[j]?=!b):b.1<=l.getD j 0/\l.getD j 0<=b.2:=by
 let hj:j<l⁻¹:=by
  rw[h.1];show(qF.mp e).1
 rw[qV,qB hj];show h.2 j _ b (qB hj) e
def qbE:∀c∈km,0<=c.1/\c.1<=c.2/\c.2<=200:={}
inductive Ho:List V->Hp->VK->XK->Prop
|m (B st:Addr) (ds:List Nd):vs=[.ref B,.ref st]->b8 (λb=>b≠st) H B ds->B≠st->ds⁻¹<=100->StOk H st->(∀(p:Addr) (ls:TB) (H':Hp),H p=none->LstAt LkAt H' p ls->ls⁻¹=ds⁻¹->(∀l∈ls,LkTo 13 l)->StOk H' st->Keep1 st H H'->Q (.ref p) H')->Ho vs H Q E
def qbF:∃bQ p9 pa pb pc pd pe pf pg ph,cr CC=.Assign [.Name "_law_bounds" pa] (.List bQ pb) pc :: .Assign [.Name "_law_bounds" pd] (.BinOp (.Name "_law_bounds" pe) .Add (.List p9 pf) pg) ph::(cr CC).drop 2/\rk bQ ym=true/\rk p9 yn=true:=⟨_,_,_,_,_,_,_,_,_,_,O,by ac_rfl,by ac_rfl⟩
def qbG{ys:TC}{i:Nat}(le:ys⁻¹<=100)(h:∀(l:Addr) (ts:TQ) (H':Hp),H l=none->Same H H'->H' l=!.lst ↑ts->Paired (PrAt H') ts ys->u D (σ.set i (!.ref l)) H'):tI (l6 (pQ (oZ ys)) (aZ i)) u D σ H:=by
 show pQ (oZ ys) σ H (λv H1=>aZ i v σ H1 (u D));show Ph le h
def qbH(F:Fu K "_law_looks" CC f fd)(T:bO mg)(bF:⋯ 1 "_law_take" ["_law_stream_here", "_law_most"] gV):(~~~0) 2 f fd ["_law_book_here", "_law_stream_here"] Ho:=by
 rcases F.go ["_law_book_here", "_law_stream_here", "_law_bounds", "_law_found", "_law_node", "_law_look", "_law_low", "_law_great"] with⟨B,st,ds,rfl,⟨ab,hB,nd⟩,Pi,le,S0,q⟩;let eZ:ab⁻¹=ds⁻¹:=nd⁻¹;let⟨bQ,p9,pa,pb,pc,pd,pe,pf,pg,ph,eb,qbI,qbJ⟩:=qbF;rw[eb];show⟨_,(aw (sv 2 (Pf ym qbI))
  (aw (sv 2 (aG kM '2' (Pf yn qbJ)))
  (aw (sv 3 (a0 bE))
  (aw (fv (a6 '0') (nv 4)
  (aw (sv 5 (a0 bE))
  (aw (fv (a6 '2') (i6 (by rfl) (bD (nv 6) (bD (nv 7) dQ)))
  (aA (cq (ap '5' (aG bi '6' (cF bF hr (a2 '1' (aG bi (aG dC '7' '6') ao))))))))
  (aA (cq (ap '3' '5'))))))
  (aA (aH '3')))))),?_⟩
 show qbG (ys:=ym) {} λb1 t1 H1 f1 s1 e1 p1=>?_
 show-⟨Ph (ys:=yn) {} λb2 t2 H2 f2 s2 e2 p2=>?_⟩;let l1:=qS p1;let l2:=qS p2;let q1:ym⁻¹=7:=rfl;let q2:yn⁻¹=6:=rfl;show⟨b1,b2,_,_,O,O,s2 _ _ e1,e2,by rw[qA,qA];show rX (aR ()),λb hb=>?_⟩;let s3:=ar hb (.lst (↑t1++↑t2));let e3:af H2 b (.lst (↑t1++↑t2)) b=!.lst ↑(t1++t2):=by rw[aj,qD]
 let p3:Paired (PrAt (af H2 b (.lst (↑t1++↑t2)))) (t1++t2) km:=vt (p1.mono λ_ _ q=>s3 _ _ (s2 _ _ q)) (p2.mono λ_ _ q=>s3 _ _ q);let cH:Same H _:=(s1.trans s2).trans s3;let fb:H b=none:=(s1.trans s2).free hb;generalize af H2 b (.lst (↑t1++↑t2))=H3 at s3 e3 p3 cH⊢;let S3:=S0.same cH;let Pj:b≠st:=rV (cB S0.some.choose_spec fb);show⟨aK,λp hp=>?_⟩;let sp:=ar hp (.lst []);let Pk:af H3 p (.lst []) p=!.lst ↑([]:TQ):=aj;let BH:H p=none:=cH.free hp;let jp:p≠st:=bM S3.some hp;let bp:b≠p:=(bM ⟨_,e3⟩ hp).symm;let iu:=cH.trans sp;let S4:=S3.same sp;let e4:=sp _ _ e3;let p4:Paired (PrAt (af H3 p (.lst []))) (t1++t2) km:=p3.mono λ_ _ q=>sp _ _ q
 generalize af H3 p (.lst [])=H4 at sp Pk iu S4 e4 p4⊢;let Hq:=iu _ _ hB;show-⟨B,O,⟨_,ag Hq⟩,i9 (xs:=↑ab) (λi σ H'=>StOk H' st/\Keep1 st H H'/\H' b=!.lst ↑(t1++t2)/\Paired (PrAt H') (t1++t2) km/\(∃z4 z5 z6 z7,σ=[!.ref B,!.ref st,!.ref b,!.ref p,z4,z5,z6,z7])/\∃as ls,H' p=!.lst ↑as/\Paired (ZA (λb=>b≠st/\b≠p) H') as ls/\(∀l∈ls,LkTo 13 l)/\ls⁻¹=i) ⟨S4,iu.keep,e4,p4,⟨none,none,none,none,O⟩,[],[],Pk,.nil,(λl hl=>nomatch hl),O⟩ ?_ ?_ ?_⟩
 .ext i σ H' hi ⟨_,K3,_⟩;show ag (K3 _ _ Pi hB)
 .rintro i y σ H5 hy ⟨S5,K5,e5,p5,⟨z4,z5,z6,z7,rfl⟩,as,ls,mS,pr,cy,ll⟩;let hi:i<ds⁻¹:=by
   have:=(qF.mp hy).1;rw[qA,eZ]at this;show this
  let la:=qS pr;show⟨aK,λk hk=>?_⟩;let sk:=ar hk (.lst []);let Hr:af H5 k (.lst []) k=!.lst ⇑([]:TN):=aj;let wg:k≠st:=bM S5.some hk;let kp:k≠p:=bM ⟨_,mS⟩ hk;let kb:k≠b:=bM ⟨_,e5⟩ hk;let S6:=S5.same sk;let e6:=sk _ _ e5;let p6:Paired (PrAt (af H5 k (.lst []))) (t1++t2) km:=p5.mono λ_ _ q=>sk _ _ q
  generalize af H5 k (.lst [])=H6 at sk Hr S6 e6 p6⊢;show-⟨b,O,⟨_,ag e6⟩,i9 (xs:=↑(t1++t2)) (λj σ H'=>StOk H' st/\fW st k H6 H'/\(∃z6 z7,σ=[!.ref B,!.ref st,!.ref b,!.ref p,!y,!.ref k,z6,z7])/\∃l:TN,H' k=!.lst ⇑l/\LkTo j l) ⟨S6,KeepN.refl,⟨z6,z7,O⟩,[],Hr,O,λj v b h=>nomatch h⟩ ?_ ?_ ?_⟩
  .ext j σ H' hj ⟨_,K7,_⟩;show ag (K7 _ _ ⟨Pj,rV kb⟩ e6)
  .ext j x σ H7 hx ⟨S7,K7,⟨z6,z7,rfl⟩,l,hl,lk⟩;let⟨a,ea,rfl⟩:=cE hx;let⟨c,ec,hc⟩:=bN p6 ea;let ast:a≠st:=mW hc S6;let ak:a≠k:=λz=>by
    let eK:H6 a=!.tup [.int c.1,.int c.2]:=hc;rw[z,Hr]at eK;cases eK
   let ha7:=K7 _ _ ⟨ast,ak⟩ hc;let⟨c0,c1,c2⟩:=qbE c (qL ec);let j13:j<13:=(qF.mp ec).1;show⟨a,_,O,aD ha7,O,_,_,O,_,_,O,O,_,O,.inl ⟨O,_,ag hl⟩,_,O,_,O,_,O,_,O,_,_,O,O,_,_,O,O,st,c.2-c.1+1,O,S7,(),(),λr H8 r0 r1 S8 K8=>⟨_,_,O,O,?_⟩⟩;let gY:=K8 _ _ wg hl;show⟨k,_,_,O,O,gY,aR (by rw[qA];have:=lk.1;omega),?_⟩;let⟨sx,sy,es,ez⟩:=S8;show⟨⟨sx,sy,by rw[aF (rV wg)];show es,ez⟩,λx o n e=>by rw[aF n.2];show K8 _ _ n.1 (K7 _ _ n e),⟨_,_,O⟩,l++[c.1+r],by rw[aj,qD];rfl,lk.more ec () ()⟩
  .ext σ H7 ⟨S7,K7,⟨z6,z7,rfl⟩,l,hl,lk⟩;let qbK:LkTo 13 l:=by
    let e13:(↑(t1++t2))⁻¹=13:=by rw[qA,qI];omega
    rw[e13]at lk;show lk
   let BF:=K7 _ _ ⟨jp,rV kp⟩ (sk _ _ mS);let K57:Keep1 st H5 H7:=λx o n e=>K7 _ _ ⟨n,rV (bM ⟨_,e⟩ hk)⟩ (sk _ _ e)
   show-⟨.inl ⟨O,_,ag BF⟩,_,O,p,_,_,O,O,BF,aR (by rw[qA];omega),?_⟩;let⟨sx,sy,es,ez⟩:=S7;let pk:KeepN (λb=>b≠st/\b≠p) H5 (af H7 p (.lst (↑as++[V.ref k]))):=λx o n e=>by rw[aF n.2];show K57 _ _ n.1 e
   show⟨⟨sx,sy,by rw[aF (rV jp)];show es,ez⟩,λx o n e=>?_,?_,?_,⟨_,_,_,_,O⟩,as++[k],ls++[l],by rw[aj,qD];rfl,?_,?_,by rw[qI,ll];rfl⟩
   .rw[aF (cB e BH)];show K57 _ _ n (K5 _ _ n e)
   .rw[aF bp];show K57 _ _ Pj e5
   .show p5.mono λx y q=>pk _ _ ⟨mW q S5,λz=>?_⟩ q
    let q':H5 x=!.tup [.int y.1,.int y.2]:=q;rw[z,mS]at q';cases q'
   .show(pr.mono λx y q=>⟨q.1,pk _ _ q.1 q.2⟩).snoc ⟨⟨wg,kp⟩,by rw[aF kp];show hl⟩
   .intro l' hl';rcases rE.mp hl' with h | h
    .show cy l' h
    .rw[rQ.mp h];show qbK
 .ext σ H5 ⟨S5,K5,e5,p5,⟨z4,z5,z6,z7,rfl⟩,as,ls,mS,pr,cy,ll⟩;show-⟨q p ls H5 BH ⟨as,mS,pr.mono λ_ _ q=>q.2⟩ (by rw[ll,qA,eZ]) cy S5 K5⟩
abbrev Pm:=top 121
def Pn(x:Str):Bool:=decide (1<=x.cps.size/\x.cps.size<=4) && x.cps.all (·< 128)
def qbL:∀n∈List.range 2001,Pn (Str.ofString (toString (n:Int)))=true:=by ac_rfl
def qbM{i:Int}(h0:0<=i)(h1:i<=2000):qy (Str.ofString (toString i)):=by
 let h:=qbL i.toNat (xC.mpr ());rw[show((i.toNat:Nat):Int)=i by omega]at h;unfold Pn at h;rw[uC,decide_eq_true_eq]at h;show⟨⟨(),h.2⟩,h.1⟩
def qbN{i:Int}(h0:0<=i)(h1:i<=2000):i.natAbs.log2<1920:=by
 let h:i.natAbs<2 ^ 1920:=yB (show i.natAbs<=2000 by omega) (by ac_rfl)
 by_cases z:i.natAbs=0
 .rw[z];decide
 .show(Nat.log2_lt z).mpr h
def fN(ds:List Nd):TV:=(ds.filter λd=>d.nm≠cD).map (·.nm)
inductive Hs:List V->Hp->VK->XK->Prop
|m (B st:Addr) (ds:List Nd):vs=[.ref B,.ref st]->b8 (λb=>b≠st) H B ds->B≠st->ds⁻¹<=100->StOk H st->(∀(S:Addr) (sh:TK) (H':Hp),H S=none->LstAt ShAt H' S sh->(sh.map Prod.fst).Sublist (fN ds)->(∀p∈sh,qy p.2)->StOk H' st->Keep1 st H H'->Q (.ref S) H')->Hs vs H Q E
def qbO(F:Fu K "_law_shown" Pm f fd)(T:bO mg)(bF:⋯ 1 "_law_take" ["_law_stream_here", "_law_most"] gV):(~~~0) 2 f fd ["_law_book_here", "_law_stream_here"] Hs:=by
 rcases F.go ["_law_book_here", "_law_stream_here", "_law_names"] with⟨B,st,ds,rfl,⟨as,hp,nd⟩,Pi,le,S0,q⟩;let kW:as⁻¹=ds⁻¹:=nd⁻¹;show⟨_,(aw (sm 2 ["_law_node"] [] [] (a6 '0') (nv 0) (iJ (tc iE (px (r:=bU K) aI '0' ao) aQ)) (px (r:=bU K) aI '0' ao))
  (aA (aH (cm ["_law_name"] ["_law_stream_here"] [1] (a6 '2') (nv 0) (iJ (tc tQ (cF bF hr (a2 '1' ao)) ao)) (br (a2 '0' (dS Vu (by rfl) T.str W6 (a1 (aG bi ao (cF bF hr (a2 '1' ao))))))))))),?_⟩
 let zl:(↑as)⁻¹<sizeLine:=by rw[qA];show aR ()
 show-⟨B,O,⟨_,ag hp⟩,bx (λi ys ae H'=>H'=H/\ys=(fN (ds.take i)).map V.str/\∃z,ae=[z]) zl ⟨O,O,none,O⟩ ?_ ?_ ?_⟩
 .ext i ys ae H' hi ⟨rfl,rfl,_⟩;show ag hp
 .ext i x ys ae H' hx ⟨rfl,rfl,z,rfl⟩;let⟨a,ea,rfl⟩:=cE hx;let⟨d,ed,na,m,s',ha,_⟩:=nd.at ea;show-⟨a,_,_,_,O,O,aD ha,O,O,_,O,?_⟩;let et:ds.take (i+1)=ds.take i++[d]:=by rw[qP,ed];rfl
  by_cases hd:d.nm=cD
  .rw[qQ (show V.str d.nm=V.str (s!"")from xJ V.str hd)];show ba ?_;show⟨O,?_,_,O⟩;rw[et];unfold fN;rw[xB];simp[hd]
  .rw[rB (show¬V.str d.nm=V.str (s!"")from λz=>hd (V.str.inj z))];show bL ?_;show-⟨a,_,_,_,O,O,aD ha,O,O,?_,_,O⟩;rw[et];unfold fN;rw[xB];simp[hd]
 ext ys ae H' ⟨rfl,rfl,z,rfl⟩ N hN;rw[qA,kW,yN];let fl:(fN ds)⁻¹<=100:=by unfold fN;rw[qA];show rK (uB _ _) le
 let s1:=ar hN (.lst ((fN ds).map V.str));let gu:af H' N (.lst ((fN ds).map V.str)) N=!.lst ((fN ds).map V.str):=aj;let nst:N≠st:=bM S0.some hN;let S1:=S0.same s1;generalize af H' N (.lst ((fN ds).map V.str))=H1 at s1 gu S1⊢;show-⟨N,O,⟨_,ag gu⟩,bx (xs:=(fN ds).map V.str) (λi ys ae H2=>∃bs sh,ys=↑bs/\Paired (ShAt H2) bs sh/\(sh.map Prod.fst).Sublist ((fN ds).take i)/\(∀p∈sh,qy p.2)/\(∃z,ae=[z,!.ref st])/\StOk H2 st/\Keep1 st H1 H2) (by rw[qA];show aR ()) ⟨[],[],O,.nil,List.Sublist.refl _,(λp hp=>nomatch hp),⟨none,O⟩,S1,KeepN.refl⟩ ?_ ?_ ?_⟩
 .ext i ys ae H2 hi ⟨bs,sh,rfl,pb,sb,_,_,_,K2⟩;show ag (K2 _ _ nst gu)
 .rintro i x ys ae H2 hx ⟨bs,sh,rfl,pb,sb,wd,⟨z,rfl⟩,S2,K2⟩;rw[qJ]at hx;let⟨nm,en,rfl⟩:=xH.mp hx;let et:(fN ds).take (i+1)=(fN ds).take i++[nm]:=by rw[qP,en];rfl
  show-⟨st,3,O,S2,{},{},λr H3 r0 r1 S3 K3=>⟨_,_,O,O,_,O,?_⟩⟩;let Po:Paired (ShAt H3) bs sh:=pb.mono λ_ _ q=>K3 _ _ (mW q S2) q
  show cp (λc=>?_) (λc=>?_)
  .show¬⟨st,2000,O,S3,{},{},λr4 H4 ot ou S4 K4=>⟨_,_,O,O,?_⟩⟩;show-⟨qbN () (),aK,λt ht=>?_⟩;let sT:=ar ht (.tup [.str nm,.str (Str.ofString (toString (1+r4)))]);show⟨bs++[t],sh++[(nm,Str.ofString (toString (1+r4)))],by rw[qD];rfl,(Po.mono λ_ _ q=>sT _ _ (K4 _ _ (mW q S3) q)).snoc aj,?_,λp hp=>?_,⟨_,O⟩,S4.same sT,((K2.trans K3).trans K4).trans sT.keep⟩
   .rw[et,qD];show sb.append (List.Sublist.refl _)
   .rcases rE.mp hp with h | h
    .show wd p h
    .rw[rQ.mp h];show qbM () ()
  .show⟨bs,sh,O,Po,by rw[et];show sb.trans (List.sublist_append_left _ _),wd,⟨_,O⟩,S3,K2.trans K3⟩
 .ext ys ae H2 ⟨bs,sh,rfl,pb,sb,wd,_,S2,K2⟩ D hD;let sD:=ar hD (.lst ↑bs);let K02:Keep1 st H' H2:=s1.keep.trans K2;rw[qA,yN]at sb;show q D sh _ (K02.back (bM S2.some hD) hD) ⟨bs,aj,pb.mono λ_ _ q=>sD _ _ q⟩ sb wd (S2.same sD) (K02.trans sD.keep)
end K31
namespace L2
open PyProof.Rows
section
variable{prog:Program}{w:World}{A:Around}{E:TH}{s:Shared}
variable{I:Addr}{fp wr:TQ}{n:Nat}{P:Nat->Value->Prop}{St:Nat->Heap->Prop}{R:Result->Shared->Prop}{kw:List (Str×Value)}
abbrev rp(up:Bool):String:=cond up "max.loop" "min.loop"
def CD:(toString "max" ++ toString ".loop" : String)=rp true:={}
def CF:(toString "min" ++ toString ".loop" : String)=rp false:={}
abbrev Pp(up:Bool):CmpOp:=cond up .Gt .Lt
abbrev CG(up:Bool):Str:=cond up "max" "min"
abbrev yo(up:Bool):String:=cond up "max" "min"
def Ht:∀up,entryFor table (rp up)=!cond up Builtin.«max.loop» Builtin.«min.loop»
 | true=>F.entry_max_loop
 | false=>F.entry_min_loop
def qbP:∀up,entryFor table (yo up)=!cond up Builtin.max Builtin.min
 | true=>F.entry_max
 | false=>F.entry_min
def qbQ:∀up,builtinKind (yo up)=none
 | true=>F.kind_max
 | false=>F.kind_min
def qbR:∀up,plainId (yo up)=true
 | true=>F.plain_max
 | false=>F.plain_min
def qbS(a d:Value):∀up,argsOk (yo up) ⟨[a],[("default",d)]⟩
 | true=>by unfold argsOk;kernel_rfl
 | false=>by unfold argsOk;kernel_rfl
def CH:∀up,plainId (rp up)=true
 | true=>F.plain_max_loop
 | false=>F.plain_min_loop
theorem Hu(up:Bool)(W:Walks prog w A.in1 I fp wr n P St)(bt:Nat->Nat->Bool)(yp:CmpOf prog w A.in1 (Pp up) P bt)(S:Addr)(lT:S∉fp) :
  ∀(k j:Nat) (s:Shared) (vb:Value) (c:Nat),n-(j+1)=k->j+1<=n->St (j+1) s.heap->P (argBest bt j) vb->s.heap.get? S=!{cls:=.type "list",dict:=none,data:=.seq #[vb,vb] c,slots:=#[]} ->
   (∀v h' tk,P (argBest bt (n-1)) v->(∀b o,b∉wr->b≠S->s.heap.get? b=!o->h'.get? b=!o)->R (.ok (.ret v)) {s with heap:=h',toks:=tk}) ->
   codeAny (model prog w) A (.builtin (rp up) ⟨[.ref I,.none,.ref S],kw⟩) R s
 | 0, j, s, vb, c, hk, hj, cC, CI, hS, hR => by
   let Pq:j+1=n:=()
   let yq:S∉wr:=λh=>lT (W.sub _ h)
   let hp:=CH up
   cases up
   all_goals show xV (Ht _) (by
     rw[xI hp _]
     show wpAny _ A.in1 (seqItems? (.ref S)>>=_) _ _ s
     show qC (yL hS O (by
       show wpAny _ A.in1 (tryCatch (pyNext (.ref I)) _>>=_) _ _ s
       show qC (wpAny_tryCatch (W.done s _ _ (Pq ▸ cC) λh1 tk cQ=>?_));let iU:=cQ S _ yq hS
       show wpAny _ A.in1 (updateSeq S (λ_=>#[])>>=_) _ _ _
       show qC (u9 iU O (qC (wpAny_letGo (qM (hR vb _ tk (by rw[<-Pq];show CI) λb o iV lU e=>(yA _ _ (rV lU)).trans (cQ b o iV e)))))))))
 | k + 1, j, s, vb, c, hk, hj, cC, CI, hS, hR => by
   let aX:j+1<n:=()
   let yq:S∉wr:=λh=>lT (W.sub _ h)
   let hp:=CH up
   cases up
   all_goals show xV (Ht _) (by
     rw[xI hp _]
     show wpAny _ A.in1 (seqItems? (.ref S)>>=_) _ _ s
     refine qC (yL hS O (by
       show wpAny _ A.in1 (tryCatch (pyNext (.ref I)) _>>=_) _ _ s
       show qC (wpAny_tryCatch (W.item (j+1) s _ _ aX cC λv h1 tk hP mY cQ=>?_));let iU:=cQ S _ yq hS
       show wpAny _ A.in1 (tryCatch (holding [v,v] (richCompare _ v vb>>=_)) _>>=_) _ _ _
       show qC (wpAny_tryCatch (xZ (qC (yp (j+1) (argBest bt j) v vb _ _ _ hP CI (qC (xZ (yI (qC (wpAny_letGo (qM ?_))))))))))
       cases hb:bt (j+1) (argBest bt j)with
       | true =>
         let Hv:P (argBest bt (j+1)) v:=by simp only[argBest,hb,if_true];show hP
         simp only[if_true];show qC (u9 iU O (qC (wpAny_letGo ?_)));first | rw[CD] | rw[CF]
         show qM ⟨yV hp _,Hu _ W bt yp S lT k (j+1) _ v _ () aX (W.frame _ _ _ mY λb Hw o e=>(yA _ _ (λz:S=b=>lT (by rw[z];show Hw))).trans e) Hv (yE _ iU O) λv2 h2 yr yt gE=>?_⟩
         show hR v2 h2 yr yt λb o iV lU e=>gE b o iV lU ((yA _ _ (rV lU)).trans (cQ b o iV e))
       | false =>
         let Hv:P (argBest bt (j+1)) vb:=by simp only[argBest,hb,Bool.false_eq_true,if_false];show CI
         simp only[Bool.false_eq_true,if_false];show qC (wpAny_letGo ?_);first | rw[CD] | rw[CF]
         show qM ⟨yV hp _,Hu _ W bt yp S lT k (j+1) _ vb c () aX mY Hv iU λv2 h2 yr yt gE=>hR v2 h2 yr yt λb o iV lU e=>gE b o iV lU (cQ b o iV e)⟩)))
def qbT(up:Bool)(W:Walks prog w A.in1 I fp wr n P St)(bt:Nat->Nat->Bool)(yp:CmpOf prog w A.in1 (Pp up) P bt)(S:Addr)(lT:S∉fp){c:Nat}(cC:St 0 s.heap)(hS:s.heap.get? S=!{cls:=.type "list",dict:=none,data:=.seq #[] c,slots:=#[]})(hR:0<n->∀v h' tk,P (argBest bt (n-1)) v->(∀b o,b∉wr->b≠S->s.heap.get? b=!o->h'.get? b=!o)->R (.ok (.ret v)) {s with heap:=h',toks:=tk})(hE:n=0->∀h' tk,(∀b o,b∉wr->b≠S->s.heap.get? b=!o->h'.get? b=!o)->R (.ok (.ret d)) {s with heap:=h',toks:=tk}) :
  codeAny (model prog w) A (.builtin (rp up) ⟨[.ref I,.none,.ref S],[("default",d)]⟩) R s:=by
 let yq:S∉wr:=λh=>lT (W.sub _ h)
 let hp:=CH up;cases up
 all_goals show xV (Ht _) (by
  rw[xI hp _];show wpAny _ A.in1 (seqItems? (.ref S)>>=_) _ _ s;show qC (yL hS O (by
   show wpAny _ A.in1 (tryCatch (pyNext (.ref I)) _>>=_) _ _ s
   by_cases hn:0<n
   .show qC (wpAny_tryCatch (W.item 0 s _ _ hn cC λv h1 tk hP mY cQ=>?_));let iU:=cQ S _ yq hS;show wpAny _ A.in1 (updateSeq S (λ_=>#[v,v])>>=_) _ _ _;show qC (u9 iU O ?_);first | rw[CD] | rw[CF]
    show qM ⟨yV hp _,Hu _ W bt yp S lT _ 0 _ v _ O hn (W.frame _ _ _ mY λb Hw o e=>(yA _ _ (λz:S=b=>lT (by rw[z];show Hw))).trans e) hP (yE _ iU O) λv2 h2 yr yt gE=>?_⟩;show hR hn v2 h2 yr yt λb o iV lU e=>gE b o iV lU ((yA _ _ (rV lU)).trans (cQ b o iV e))
   .let h0:n=0:=()
    show qC (wpAny_tryCatch (W.done s _ _ (h0 ▸ cC) λh1 tk cQ=>?_));show qC (wpAny_rule (qM (hE h0 h1 tk λb o iV _ e=>cQ b o iV e))))))
end
def tMM(up:Bool)(K:W.Frag)(ta:TA)(td:TE):TE:=λσ H Q=>ta σ H λvs H1=>td σ H1 λy H2=>∃(a:Addr) (ns:TN) (r:V),vs=[.ref a]/\SqL K H2 a ⇑ns/\(ns=[]->y=r)/\(ns≠[]->∃m,m∈ns/\r=.int m/\∀z∈ns,cond up (z<=m) (m<=z))/\Q r H2
section
variable{X:Cx}{e d:Expr}{ta:TA}{td:TE}{p kp pos:Pos}
def yu(up:Bool)(hc:X.calm=true)(hg:Gl X (CG up))(hm:X.mg (CG up)=none)(hv:bootBuiltins (CG up)=!.builtin (yo up))(ha:PA X [e] ta)(hd:PE X d td)(he:starEach [e] X.env=[(false,eval e X.env)]:=by rfl):PE X (.Call (.Name (CG up) p) [e] [⟨!"default",d,kp⟩] pos) (tMM up X.K ta td):=by
 intro aa s σ H Q I h;show uP (i5 I hg hm hv ?_ (by cases up<;>decide) (by cases up<;>decide));show callWith_kw (aT (ha pos aa s σ H _ I h) λus s1 ⟨vs,H1,I1,r1,q1⟩=>kws_cons (aT (hd aa s1 σ H1 _ I1 q1) λdv s2 ⟨y,H2,I2,ry,a,ns,rr,e1,hp,q0,qn,q⟩=>kws_nil ?_)) (by rw[he];rfl) (by rw[he];rfl);subst e1;let⟨u,rfl,rx⟩:=vals1 r1;cases rx;let⟨ah,rv,pl,hz⟩:=I2.list hp;let hh:=I2.ok.hd hc;let lp:a< ~~~s2:=by
  let⟨o,e,_⟩:=pl.isList;show qK e
 let hn:ah.toArray.size=ns⁻¹:=by rw[qY,<-rv⁻¹,qA]
 cases up
 all_goals
  show Y5 (qbQ _) (qbR _) (qbP _) (qbS _ _ _) ?_;show wpAny _ X.A.in1 (Builtin.Builtins.bindParams _ ["key", "default"] 0 ⟨[],[("default",dv)]⟩>>=_) _ _ s2;show qC (wpAny_of_eq (show _=pure [none,!dv]from rfl) (qC (qM (qC (xS pl.isList (qC (yZ ?_)))))))
  first | rw[CD] | rw[CF]
  show qM ⟨yV (CH _) _,qbT _ (Walks.list ‹hh› (~~~s2) a (rC lp) ah.toArray) _ (by first | show CmpOf.ints_gt (λi=>ns.getD i 0) (k9 rv) | show CmpOf.ints_lt (λi=>ns.getD i 0) (k9 rv)) (s2.heap.push {cls:=.type "list_iterator",data:=.fields #[.ref a,.int 0 0]}).objs.size (λz=>?_) ?_ (qR _ O) (λh0 v h' tk hP k=>?_) (λh0 h' tk k=>?_)⟩
  .rw[rM]at z;rcases qN.mp z with z | z
   .show qT z (Nat.succ_ne_self _)
   .let z': ~~~s2+1=a:=‹z›
    show qT lp (by rw[<-z'];show xF (yS _))
  .show⟨⟨_,qE _ (qR _ O),O,O⟩,(pl.isList.push _).push _⟩
  .let⟨t,rfl⟩:=k9 rv _ _ hP;let⟨m,oI,rfl,le⟩:=qn (λz=>by rw[hn,z]at h0;cases h0)
   first | rw[Nv hn oI le] | rw[B3 hn oI le]
   show⟨.int m,H2,I2.kept λb o e=>k b o ‹rC (qK e)› (λz=>?_) (qE _ (qE _ e)),⟨t,O⟩,q⟩;have:=qK e;rw[z,rM]at this;show qT this (xF (yS _))
  .rw[hn]at h0;let e0:=q0 (rR h0);subst e0;show⟨y,H2,I2.kept λb o e=>k b o ‹rC (qK e)› (λz=>?_) (qE _ (qE _ e)),ry,q⟩;have:=qK e;rw[z,rM]at this;show qT this (xF (yS _))
end
end L2
namespace K31
open L2 Bk Gen Gd
open Bd
open Bw
abbrev Pr:=top 44
abbrev Ps:=top 45
abbrev Pu:=top 38
abbrev Pw:=top 46
abbrev Px:=top 47
abbrev Py:=top 48
abbrev Hx:=top 50
abbrev Pz:=top 49
abbrev PB:=top 51
def PD:iP (s!"inset") 3:=⟨by ac_rfl,by ac_rfl⟩
def B3:iP (s!"least") 5:=⟨by ac_rfl,by ac_rfl⟩
def qbU:iP (s!"most") 6:=⟨by ac_rfl,by ac_rfl⟩
def Hy:iP (s!"columns") 7:=⟨by ac_rfl,by ac_rfl⟩
def PF:iP (s!"span") 8:=⟨by ac_rfl,by ac_rfl⟩
def Hz:iP (s!"wide") 11:=⟨by ac_rfl,by ac_rfl⟩
def rq(u v:Int):(if v>u then v else u)=max u v:=by
 by_cases z:u<v
 .rw[qZ z];omega
 .rw[qX z];omega
def HB(u v:Int):(if v<u then v else u)=min u v:=by
 by_cases z:v<u
 .rw[qZ z];omega
 .rw[qX z];omega
def qbV(F:Fu K "with_insets" Pr f fd)(cA:⋯ 1 "look_at" ["looks", "node", "word"] fK):(~~~0) 2 f fd ["looks", "node", "low", "great"] FF:=by
 rcases F.go ["looks", "node", "low", "great", "both"] with⟨p,n,a,b,ls,rfl,lk,hn,cV,q⟩;show⟨_,(aw (sv 4 (aG fe ao (cF cA hr (a3 '0' '1' aQ))))
  (aA (aH (br (a2 (aG bi '2' '4') (aG bi '3' '4')))))),?_⟩
 show¬⟨p,n,3,_,ls,O,lk,hn,cV,{},PD,_,_,O,O,.inl ⟨{},{}⟩,_,O,_,O,_,_,O,O,_,O,_,O,_,_,O,O,aK,λt ht=>?_⟩;show q t _ (ar ht _) aj
def qbW(F:Fu K "units_low" Ps f fd)(T:bO mg)(U:NumsB mg):(~~~0) 1 f fd ["units"] GJ:=by
 rcases F.go ["units"] with⟨p,r,rfl,⟨as,hp,pr⟩,ne,kg,q⟩;let⟨_,HC⟩:=U.uw;let la:=qS pr;show⟨_,(aA (aH (cb (mK (by rfl)) T.max dP (a1 (cm ["unit"] [] [] (a6 '0') (nv 0) bj (px (r:=bU K) aI '0' (gi HC))))))),_,O,p,O,⟨_,ag hp⟩,bx (xs:=↑as) (λi ys ae H'=>H'=H/\ys=⇑((r.take i).map Un.w)/\∃z,ae=[z]) (by rw[qA];show aR ()) ⟨O,O,none,O⟩ ?_ ?_ ?_⟩
 .ext i ys ae H' hi ⟨rfl,rfl,_⟩;show ag hp
 .ext i y ys ae H' hy ⟨rfl,rfl,z,rfl⟩;let⟨c,ec,rfl⟩:=cE hy;let⟨u,eu,nl,hc,_⟩:=bN pr ec;show-⟨c,_,_,_,O,O,aD hc,O,O,?_,_,O⟩;rw[qP,eu,qD,qD];rfl
 .ext ys ae H' ⟨rfl,rfl,_⟩ D hD;rw[qH (by rw[qA];omega)];show⟨D,_,lB r,O,ag aj,gF ‹ne›,iO,?_⟩;show q _ (ar hD _)
def qbX(F:Fu K "row_length" Pu f fd)(T:bO mg)(U:NumsB mg):(~~~0) 1 f fd ["units"] Cp:=by
 rcases F.go ["units"] with⟨p,r,rfl,⟨as,hp,pr⟩,ne,kg,q⟩;let⟨_,HC⟩:=U.uw;let⟨_,qbY⟩:=U.ub;let la:=qS pr;show⟨_,(aA (aH (aG bi (cb (iN (by rfl)) T.sum fZ (a1 (cm ["unit"] [] [] (a6 '0') (nv 0) bj (px (r:=bU K) aI '0' (gi HC))))) (cb (iN (by rfl)) T.sum fZ (a1 (cm ["unit"] [] [] (a6 (kJ nZ '0' nY (jc (dM dN ao)))) (nv 0) bj (px (r:=bU K) aI '0' (gi qbY)))))))),_,O,p,O,⟨_,ag hp⟩,bx (xs:=↑as) (λi ys ae H'=>H'=H/\ys=⇑((r.take i).map Un.w)/\∃z,ae=[z]) (by rw[qA];show aR ()) ⟨O,O,none,O⟩ ?_ ?_ ?_⟩
 .ext i ys ae H' hi ⟨rfl,rfl,_⟩;show ag hp
 .ext i y ys ae H' hy ⟨rfl,rfl,z,rfl⟩;let⟨c,ec,rfl⟩:=cE hy;let⟨u,eu,nl,hc,_⟩:=bN pr ec;show-⟨c,_,_,_,O,O,aD hc,O,O,?_,_,O⟩;rw[qP,eu,qD,qD];rfl
 ext ys ae H' ⟨rfl,rfl,_⟩ D hD;rw[qH (by rw[qA];omega)];let sD:=ar hD (.lst ⇑(r.map Un.w));show⟨D,_,O,ag aj,?_⟩;generalize af H' D (.lst ⇑(r.map Un.w))=H1 at sD⊢;show¬⟨_,O,p,_,O,ag (sD _ _ hp),λS hS=>?_⟩;let ec:dU ↑as none (!-1)=↑(as.dropLast):=by
  unfold dU;rw[HT.sIx_none,show HT.sIx (↑as)⁻¹ (↑as)⁻¹ (!-1)=(↑as)⁻¹-1 from by
   show(if(-1:Int)<0 then((-1:Int)+(((↑as)⁻¹:Nat):Int)).toNat else min (-1:Int).toNat (↑as)⁻¹)=_;rw[qZ {}];omega]
  rw[wD,qA,Nat.sub_zero,<-vA,List.dropLast_eq_take]
 rw[ec];let sS:=ar hS (.lst ↑as.dropLast);let gJ:af H1 S (.lst ↑as.dropLast) S=!.lst ↑as.dropLast:=aj;let s2:=sD.trans sS;generalize af H1 S (.lst ↑as.dropLast)=H2 at sS gJ s2⊢;show⟨S,O,⟨_,ag gJ⟩,bx (xs:=↑as.dropLast) (λi ys ae H'=>H'=H2/\ys=⇑((r.dropLast.take i).map Un.b)/\∃z,ae=[z]) (by rw[qA,List.length_dropLast];show aR ()) ⟨O,O,none,O⟩ ?_ ?_ ?_⟩
 .ext i ys ae H3 hi ⟨rfl,rfl,_⟩;show ag gJ
 .ext i y ys ae H3 hy ⟨rfl,rfl,z,rfl⟩;let⟨c,pX,rfl⟩:=cE hy;let il:i<as⁻¹-1:=by
   have:=(qF.mp pX).1;rw[List.length_dropLast]at this;show this
  let ec2:as[i]?=!c:=by
   rw[List.dropLast_eq_take,List.getElem?_take_of_lt il]at pX;show pX
  let⟨u,eu,nl,hc,_⟩:=bN pr ec2;let eu2:r.dropLast[i]?=!u:=by rw[List.dropLast_eq_take,List.getElem?_take_of_lt ()];show eu
  show-⟨c,_,_,_,O,O,aD (s2 _ _ hc),O,O,?_,_,O⟩;rw[qP,eu2,qD,qD];rfl
 ext ys ae H3 ⟨rfl,rfl,_⟩ D2 js;rw[qH (by rw[qA,List.length_dropLast,List.length_dropLast];omega)];show⟨D2,_,O,ag aj,_,_,O,O,?_⟩;show q _ (s2.trans (ar js _))
def yw{bs:TC}{m:Nat}(h:m<bs⁻¹):bs[m]?=!aV bs m:=by
 unfold aV;rw[qB h];rfl
def qbZ(F:Fu K "floor_of" Pw f fd)(T:bO mg)(U:NumsB mg)(cA:⋯ 1 "look_at" ["looks", "node", "word"] fK):(~~~0) 2 f fd ["looks", "bounds", "one"] (jj cG):=by
 rcases F.go ["looks", "bounds", "one"] with⟨p,L,m,ls,bs,rfl,lk,⟨as,hL,pr⟩,ml,mb,cV,q⟩;let⟨_,CJ⟩:=U.low;let⟨a,ea,ha⟩:=eV pr (yw mb);show⟨_,(aA (aH (cb (mj (by rfl)) T.max dP (a2 (px aI (px aE '1' '2') (gi CJ)) (cF cA hr (a3 '0' '2' aQ)))))),_,O,_,O,L,_,_,_,O,O,ag hL,aU ea,a,_,_,_,O,O,aD ha,O,_,O,_,O,p,m,5,_,ls,O,lk,ml,cV,{},B3,_,_,O,?_⟩;rw[rq];show q
def qb0(F:Fu K "roof_of" Px f fd)(T:bO mg)(cA:⋯ 1 "look_at" ["looks", "node", "word"] fK)(o2:⋯ 2 "floor_of" ["looks", "bounds", "one"] (jj cG)):(~~~0) 3 f fd ["looks", "bounds", "one"] (jj gb):=by
 rcases F.go ["looks", "bounds", "one"] with⟨p,L,m,ls,bs,rfl,lk,lb,ml,mb,cV,q⟩;show⟨_,(aA (aH (cb (mj (by rfl)) T.max dP (a2 (cF cA hr (a3 '0' '2' aQ)) (cF o2 hr (a3 '0' '1' '2')))))),_,O,_,O,p,m,6,_,ls,O,lk,ml,cV,{},qbU,_,O,_,O,_,O,p,L,m,ls,bs,O,lk,lb,ml,mb,cV,_,_,O,?_⟩;rw[rq];show q
def qb1(F:Fu K "wish_of" Py f fd)(T:bO mg)(U:NumsB mg)(o2:⋯ 2 "floor_of" ["looks", "bounds", "one"] (jj cG))(HE:⋯ 3 "roof_of" ["looks", "bounds", "one"] (jj gb)):(~~~0) 4 f fd ["looks", "bounds", "one"] (jj mL):=by
 rcases F.go ["looks", "bounds", "one"] with⟨p,L,m,ls,bs,rfl,lk,⟨as,hL,pr⟩,ml,mb,cV,q⟩;let⟨_,CK⟩:=U.great;let⟨a,ea,ha⟩:=eV pr (yw mb);show⟨_,(aA (aH (cb (tX (by rfl)) T.min mI (a2 (cb (mj (by rfl)) T.max dP (a2 (px aI (px aE '1' '2') (gi CK)) (cF o2 hr (a3 '0' '1' '2')))) (cF HE hr (a3 '0' '1' '2')))))),_,O,_,O,L,_,_,_,O,O,ag hL,aU ea,a,_,_,_,O,O,aD ha,O,_,O,_,O,_,O,p,L,m,ls,bs,O,lk,⟨as,hL,pr⟩,ml,mb,cV,_,_,O,_,O,_,O,_,O,p,L,m,ls,bs,O,lk,⟨as,hL,pr⟩,ml,mb,cV,_,_,O,?_⟩;rw[rq,HB];show q
def qb2(F:Fu K "rounded_up" Hx f fd):(~~~0) 1 f fd ["length", "parts"] FG:=by
 rcases F.go ["length", "parts"] with⟨l,sp,rfl,s1,s6,q⟩;show⟨_,(aA (aH (dM dN (aG pY (dM dN '0') '1')))),?_⟩;show¬⟨_,O,_,_,O,O,⟨(),()⟩,_,O,q⟩
def qb3(F:Fu K "grid_width" Pz f fd)(T:bO mg)(cA:⋯ 1 "look_at" ["looks", "node", "word"] fK)(HF:⋯ 1 "rounded_up" ["length", "parts"] FG):(~~~0) 2 f fd ["looks", "columns", "held", "wides"] FH:=by
 rcases F.go ["looks", "columns", "held", "wides", "needed"] with⟨p,a,b,c,ls,zs,rfl,lk,ha,hb,ne,kg,c1,c6,cy,zl,q⟩;let cV:∀l∈ls,l⁻¹=13:=λl hl=>(cy l hl).len
 show⟨_,(aw (sm 4 ["one", "wide"] ["columns", "looks"] [1,0] (BM (by rfl) T.zip (a2 '2' '3')) (mC K (n:=2) (by rfl) (by rfl) (bD (nv 0) (bD (nv 1) dQ))) bj (cF HF hr (a2 '1' (cb (tX (by rfl)) T.min mI (a2 (cF cA hr (a3 '3' '0' aQ)) '2')))))
  (aA (aH (aG fe '1' (cb (mK (by rfl)) T.max dP (a1 '4')))))),?_⟩
 let lz:(zs.map λx=>V.int ((x.1:Nat):Int))⁻¹=(zs.map λx=>V.int x.2)⁻¹:=by rw[qA,qA]
 show¬⟨a,b,O,⟨_,ag ha⟩,⟨_,ag hb⟩,Fy (xs:=zs.map λx=>V.int ((x.1:Nat):Int)) (ys:=zs.map λx=>V.int x.2) lz (λi ys ae H'=>Same H H'/\ys=⇑((zs.take i).map λx=>eS x.2 (min (aC ls x.1 8) c))/\∃z1 z2,ae=[z1,z2,!.int c,!.ref p]) (by rw[qA];show aR ()) ⟨Same.refl _,O,none,none,O⟩ ?_ ?_ ?_⟩
 .ext i ys ae H' hi ⟨s1,rfl,_⟩;show⟨ag (s1 _ _ ha),ag (s1 _ _ hb)⟩
 .ext i x y ys ae H' T' hx hy hT ⟨s1,rfl,z1,z2,rfl⟩;rw[qJ]at hx hy;let⟨z,ez,rfl⟩:=xH.mp hx;rw[ez]at hy;obtain rfl:=(rD hy).symm;let zm:=zl z (qL ez);let s2:=s1.trans (ar hT (.tup [.int ((z.1:Nat):Int),.int z.2]));let fw:af H' T' (.tup [.int ((z.1:Nat):Int),.int z.2]) T'=!.tup [.int ((z.1:Nat):Int),.int z.2]:=aj;generalize af H' T' (.tup [.int ((z.1:Nat):Int),.int z.2])=H2 at s2 fw⊢;show⟨T',_,O,aD fw,O,_,_,O,_,_,O,O,?_⟩;let ok:=cy _ (rJ zm);let ev:aC ls z.1 8=ls[z.1].getD 8 0:=by
   unfold aC;rw[qB zm];rfl
  show¬⟨_,O,p,z.1,8,_,ls,O,cS s2 lk,zm,cV,{},PF,_,O,_,_,O,z.2,min (aC ls z.1 8) c,by show[V.int z.2,V.int (if c<aC ls z.1 8 then c else aC ls z.1 8)]=_;rw[HB],by have:=ok.span;omega,by have:=ok.span;omega,s2,?_,_,_,O⟩;rw[qP,ez,qD,qD];rfl
 .ext ys ae H' ⟨s1,rfl,z1,z2,rfl⟩ D hD;rw[qH (by rw[qA];show qG _)];show¬⟨D,_,a9 (zs.map λx=>eS x.2 (min (aC ls x.1 8) c)),O,ag aj,gF ‹ne›,iO,_,_,O,O,.inl ⟨(),()⟩,?_⟩;show q _ (s1.trans (ar hD _))
def qb4(F:Fu K "bounds_in_pile" PB f fd)(U:NumsB mg)(cA:⋯ 1 "look_at" ["looks", "node", "word"] fK):(~~~0) 2 f fd ["book", "looks", "bounds", "one"] FI:=by
 rcases F.go ["book", "looks", "bounds", "one"] with⟨B,p,L,m,ds,ls,bs,rfl,⟨bs',hB,nd⟩,lk,⟨as,hL,pr⟩,md,ml,mb,cV,q⟩;let⟨_,eY⟩:=U.kind;let⟨c,ec,nc⟩:=nd.get (qB md);let⟨m',s',hc,_⟩:=nc.ex;show⟨_,(aw (a7 (tc bv (px aI (px aE '0' '3') (gi eY)) aQ) (aA (aH (br (a2 (cF cA hr (a3 '1' '3' aQ)) (cF cA hr (a3 '1' '3' aQ)))))) bg)
  (aA (aH (px aE '2' '3')))),?_⟩
 show¬⟨B,_,_,_,O,O,ag hB,aU ec,c,_,_,_,O,O,aD hc,O,O,_,O,?_⟩;rw[show decide (V.str ds[m].k.s=V.str (s!"aside"))=decide (ds[m].k=.aside)from bB ds[m].k .aside];let ek:ds[m]?.map Nd.k=!ds[m].k:=by rw[qB md];rfl
 by_cases hk:ds[m].k=.aside
 .show gP hk ⟨_,O,_,O,p,m,11,_,ls,O,lk,ml,cV,{},Hz,_,O,_,O,p,m,11,_,ls,O,lk,ml,cV,{},Hz,aK,λt ht=>?_⟩;show q t _ (ar ht _) ?_;unfold cR;rw[ek,hk,qZ O];show aj
 .show iH hk ?_;let⟨a,ea,ha⟩:=eV pr (yw mb);show¬⟨L,_,_,_,O,O,ag hL,aU ea,?_⟩;show q a _ (Same.refl _) ?_;unfold cR;rw[ek,qX (λz=>hk (rD z))];show ha
abbrev PH:=top 43
abbrev PJ:=top 42
def qb5{ls:TB}{bs:TC}{n:Nat}(h:ds[n]?=!d)(hk:d.k=.text\/d.k=.head\/d.k=.note):fh ds ls us bs n=(lB (bu us n)+2*aC ls n 3,jW (bu us n)+2*aC ls n 3):=by
 unfold fh ji;rw[h];rcases hk with e | e | e<;>simp only[e]<;>rfl
def qb6{ls:TB}{bs:TC}{n:Nat}(h:ds[n]?=!d)(hk:d.k=.picture):fh ds ls us bs n=(lA d,lA d):=by
 unfold fh;rw[h];simp only[hk,if_true]
def qb7{ls:TB}{bs:TC}{n:Nat}(h:ds[n]?=!d)(hk:d.k=.shelf):fh ds ls us bs n=(((ay ds n).map (cG ls bs)).sum+2*aC ls n 3,((ay ds n).map (mL ls bs)).sum+2*aC ls n 3):=by
 unfold fh ji;rw[h];simp only[hk];rfl
def qb8{ls:TB}{bs:TC}{n:Nat}(h:ds[n]?=!d)(hk:d.k=.grid):fh ds ls us bs n=(lq ls (aC ls n 7) ((ay ds n).map λm=>(m,(aV bs m).1))+2*aC ls n 3,lq ls (aC ls n 7) ((ay ds n).map λm=>(m,(aV bs m).2))+2*aC ls n 3):=by
 unfold fh ji;rw[h];simp only[hk];rfl
def qb9{ls:TB}{bs:TC}{n:Nat}(h:ds[n]?=!d)(h1:d.k≠.picture)(h2:¬(d.k=.text\/d.k=.head\/d.k=.note))(h3:d.k≠.shelf)(h4:d.k≠.grid) :
  fh ds ls us bs n=(a9 ((ay ds n).map λm=>(cR ds ls bs m).1)+2*aC ls n 3,a9 ((ay ds n).map λm=>(cR ds ls bs m).2)+2*aC ls n 3):=by
 unfold fh ji;rw[h];cases e:d.k<;>simp_all
def yx{n i:Nat}(h:(⇑((ay ds n).map λ(j:Nat)=>(j:Int)))[i]?=!x):∃m,(ay ds n)[i]?=!m/\x=.int (m:Nat):=by
 rw[qJ,qJ]at h;cases e:(ay ds n)[i]? with
 | none=>rw[e]at h;cases h
 | some m=>rw[e]at h;show⟨m,O,(rD h).symm⟩
def qca(F:Fu K "node_bounds" PH f fd)(T:bO mg)(U:NumsB mg)(lQ:mg "KINDS_OF_PIECES" = !.ref gI)(KP:∀H:Hp,SqT K H gI (pieceKinds.map V.str))(cA:⋯ 1 "look_at" ["looks", "node", "word"] fK)(CL:⋯ 2 "with_insets" ["looks", "node", "low", "great"] FF)(qcb:⋯ 1 "units_low" ["units"] GJ)(HG:⋯ 1 "row_length" ["units"] Cp)(jr:⋯ 1 "holds" ["book", "node"] mU)(o2:⋯ 2 "floor_of" ["looks", "bounds", "one"] (jj cG))(qcc:⋯ 4 "wish_of" ["looks", "bounds", "one"] (jj mL))(PK:⋯ 2 "grid_width" ["looks", "columns", "held", "wides"] FH)(qcd:⋯ 2 "bounds_in_pile" ["book", "looks", "bounds", "one"] FI) :
  (~~~0) 5 f fd ["book", "looks", "units", "bounds", "node"] GK:=by
 rcases F.go ["book", "looks", "units", "bounds", "node", "kind", "held", "low", "columns", "inner"] with⟨B,p,Un,L,n,ds,ls,us,bs,rfl,I,lb,yy,hn,cx,q⟩;let⟨_,eY⟩:=U.kind;let⟨_,rh⟩:=U.stuff;let⟨_,CJ⟩:=U.low;let⟨_,CK⟩:=U.great;let cV:∀l∈ls,l⁻¹=13:=λl hl=>(cx.lk l hl).len
 let nl:n<ls⁻¹:=by rw[cx.ll];show hn
 let le:=cx.le;let⟨ab,hB,nd⟩:=I.bk;let ed:ds[n]?=!ds[n]:=qB hn;let⟨c,ec,nc⟩:=nd.get ed;let⟨m',s',hc,_,_,_,kf,bw,dz⟩:=nc.ex;generalize ds[n]=d at ed hc dz nc;show⟨_,(aw (sv 5 (px aI (px aE '0' '4') (gi eY)))
  (aw (a7 (tc bv '5' aQ) (aA (aH (br (a2 (px aE (px aI (px aE '0' '4') (gi rh)) ao) (px aE (px aI (px aE '0' '4') (gi rh)) ao))))) bg)
  (aw (a7 (tc AY '5' (gr lQ)) (aA (aH (cF CL hr (aJ '1' (a3 '4' (cF qcb hr (a1 (px aE '2' '4'))) (cF HG hr (a1 (px aE '2' '4')))))))) bg)
  (aw (sv 6 (cF jr hr (a2 '0' '4')))
  (aw (a7 (tc bv '5' aQ) (aw (sv 7 (cb (iN (by rfl)) T.sum fZ (a1 (cm ["one"] ["looks", "bounds"] [1,3] (a6 '6') (nv 0) bj (cF o2 hr (a3 '1' '2' '0'))))))
  (aA (aH (cF CL hr (aJ '1' (a3 '4' '7' (cb (iN (by rfl)) T.sum fZ (a1 (cm ["one"] ["looks", "bounds"] [1,3] (a6 '6') (nv 0) bj (cF qcc hr (a3 '1' '2' '0'))))))))))) bg)
  (aw (a7 (tc bv '5' aQ) (aw (sv 8 (cF cA hr (a3 '1' '4' aQ)))
  (aw (sv 7 (cF PK hr (aJ '1' (a3 '8' '6' (cm ["one"] ["bounds"] [3] (a6 '6') (nv 0) bj (px (r:=bU K) aI (px (r:=cI K) aE '1' '0') (gi CJ)))))))
  (aA (aH (cF CL hr (aJ '1' (a3 '4' '7' (cF PK hr (aJ '1' (a3 '8' '6' (cm ["one"] ["bounds"] [3] (a6 '6') (nv 0) bj (px (r:=bU K) aI (px (r:=cI K) aE '1' '0') (gi CK))))))))))))) bg)
  (aw (sm 9 ["one"] ["book", "looks", "bounds"] [0,1,3] (a6 '6') (nv 0) bj (cF qcd hr (aJ '1' (a3 '2' '3' '0'))))
  (aw (sv 7 (yu true (by rfl) (by rfl) T.max dP (a1 (cm ["one"] [] [] (a6 '9') (nv 0) bj (px (r:=bU K) aI '0' (gi CJ)))) ao))
  (aA (aH (cF CL hr (aJ '1' (a3 '4' '7' (yu true (by rfl) (by rfl) T.max dP (a1 (cm ["one"] [] [] (a6 '9') (nv 0) bj (px (r:=bU K) aI '0' (gi CK)))) ao)))))))))))))),?_⟩
 show¬⟨B,_,_,_,O,O,ag hB,aU ec,c,_,_,_,O,O,aD hc,O,_,O,O,_,O,?_⟩
 by_cases hp:d.k=.picture
 .show fT (bB d.k .picture) hp ?_;let⟨w1,h1,kh,_⟩:=cx.pic n d ed hp;let rz:kf[0]?=!.int w1:=by
   rw[kh]at dz;cases dz with
   | cons q1 _=>rw[show _=V.int w1 from q1];rfl
  show¬⟨B,_,_,_,O,O,ag hB,aU ec,c,_,_,_,O,O,aD hc,O,s',_,_,_,O,O,ag bw,eQ (j:=0) rz,_,O,_,O,B,_,_,_,O,O,ag hB,aU ec,c,_,_,_,O,O,aD hc,O,s',_,_,_,O,O,ag bw,eQ (j:=0) rz,aK,λt ht=>?_⟩;show q t _ (ar ht _) ?_;rw[qb6 ed hp];unfold lA PrAt;rw[kh,aj]
 show fU (bB d.k .picture) hp ⟨_,O,gI,_,O,.inr (KP _),O,qg _,_,O,?_⟩;rw[qX qU,rf]
 by_cases ht:d.k=.text\/d.k=.head\/d.k=.note
 .show gP ht ?_;let nu:n<us⁻¹:=by rw[cx.ul];show hn
  let⟨au,hU,pu⟩:=I.un;let⟨r,er,rr⟩:=eV pu (qB nu);let eu:bu us n=us[n]:=by unfold bu;rw[qB nu];rfl
  let eE:=cx.un n d ed ht;rw[eu]at eE;let ul:=(cx.pos _ (rJ nu)).1;show¬⟨_,O,_,O,Un,_,_,_,O,O,ag hU,aU er,r,us[n],O,rr,eE,ul,λH1 s1=>?_⟩;show¬⟨Un,_,_,_,O,O,ag (s1 _ _ hU),aU er,r,us[n],O,rr.same s1,eE,ul,λH2 s2=>?_⟩;show⟨p,n,_,_,ls,O,cS (s1.trans s2) I.lk,nl,cV,λt H3 s3 pt=>?_⟩;show q t H3 ((s1.trans s2).trans s3) ?_;rw[qb5 ed ht,eu];show pt
 show iH ht ⟨_,O,_,O,B,n,ds,_,O,⟨ab,hB,nd⟩,(),hn,λK0 H1 hK s1 bX=>?_⟩;let kl:=lE ds n;let kz:(⇑((ay ds n).map λ(j:Nat)=>(j:Int)))⁻¹<sizeLine:=by rw[qA,qA];show aR ()
 let yz:∀{i m:Nat},(ay ds n)[i]?=!m->m<ds⁻¹:=λe=>cZ (qL e)
 dsimp only[aZ];show-⟨O,_,O,?_⟩
 by_cases hs:d.k=.shelf
 .show fT (bB d.k .shelf) hs ⟨_,O,K0,O,⟨_,ag bX⟩,bx (xs:=⇑((ay ds n).map λ(j:Nat)=>(j:Int))) (λi ys ae H'=>H'=H1/\ys=⇑(((ay ds n).take i).map (cG ls bs))/\∃z,ae=[z,!.ref p,!.ref L]) kz ⟨O,O,none,O⟩ ?_ ?_ ?_⟩
  .ext i ys ae H' hi ⟨rfl,rfl,_⟩;show ag bX
  .ext i y ys ae H' hy ⟨rfl,rfl,z,rfl⟩;let⟨m,em,rfl⟩:=yx hy;let gg:=yz em;show¬⟨_,O,p,L,m,ls,bs,O,cS s1 I.lk,ge s1 lb,by rw[cx.ll];show gg,by rw[yy];show gg,cV,O,?_,_,O⟩;rw[qP,em,qD,qD];rfl
  ext ys ae H' ⟨rfl,rfl,_⟩ D hD;rw[qH (by rw[qA,qA];show qG _)];let sD:=s1.trans (ar hD (.lst ⇑((ay ds n).map (cG ls bs))));let fz:=(ar hD (.lst ⇑((ay ds n).map (cG ls bs)))) _ _ bX;show⟨D,_,O,ag aj,?_⟩;generalize af H' D (.lst ⇑((ay ds n).map (cG ls bs)))=H2 at sD fz⊢;show¬⟨_,O,_,O,K0,O,⟨_,ag fz⟩,bx (xs:=⇑((ay ds n).map λ(j:Nat)=>(j:Int))) (λi ys ae H'=>H'=H2/\ys=⇑(((ay ds n).take i).map (mL ls bs))/\∃z,ae=[z,!.ref p,!.ref L]) kz ⟨O,O,none,O⟩ ?_ ?_ ?_⟩
  .ext i ys ae H' hi ⟨rfl,rfl,_⟩;show ag fz
  .ext i y ys ae H' hy ⟨rfl,rfl,z,rfl⟩;let⟨m,em,rfl⟩:=yx hy;let gg:=yz em;show¬⟨_,O,p,L,m,ls,bs,O,cS sD I.lk,ge sD lb,by rw[cx.ll];show gg,by rw[yy];show gg,cV,O,?_,_,O⟩;rw[qP,em,qD,qD];rfl
  ext ys ae H' ⟨rfl,rfl,_⟩ D2 js;rw[qH (by rw[qA,qA];show qG _)];let PL:=sD.trans (ar js (.lst ⇑((ay ds n).map (mL ls bs))));show⟨D2,_,O,ag aj,p,n,_,_,ls,O,cS PL I.lk,nl,cV,λt H3 s3 pt=>?_⟩;show q t H3 (PL.trans s3) ?_;rw[qb7 ed hs];show pt
 show fU (bB d.k .shelf) hs ⟨_,O,O,_,O,?_⟩
 by_cases hg:d.k=.grid
 .show fT (bB d.k .grid) hg ?_;let jt:=cx.gr n d ed hg;let lV:=(cx.lk _ (rJ nl)).cols;let ecol:aC ls n 7=ls[n].getD 7 0:=by unfold aC;rw[qB nl];rfl
  show¬⟨p,n,7,_,ls,O,cS s1 I.lk,nl,cV,{},Hy,?_⟩;let part:∀(g:Int×Int->Int) (H2:Hp),Same H1 H2->∀(i:Nat) (m:Nat),(ay ds n)[i]?=!m->⇑(((ay ds n).take (i+1)).map λm=>g (aV bs m))=⇑(((ay ds n).take i).map λm=>g (aV bs m))++[V.int (g (aV bs m))]:=λg H2 _ i m em=>by
   rw[qP,em,qD,qD];rfl
  show¬⟨_,O,_,O,K0,O,⟨_,ag bX⟩,bx (xs:=⇑((ay ds n).map λ(j:Nat)=>(j:Int))) (λi ys ae H'=>H'=H1/\ys=⇑(((ay ds n).take i).map λm=>(aV bs m).1)/\∃z,ae=[z,!.ref L]) kz ⟨O,O,none,O⟩ ?_ ?_ ?_⟩
  .ext i ys ae H' hi ⟨rfl,rfl,_⟩;show ag bX
  .ext i y ys ae H' hy ⟨rfl,rfl,z,rfl⟩;let⟨m,em,rfl⟩:=yx hy;let gg:=yz em;let⟨al,hL,pl⟩:=ge s1 lb;let⟨a,ea,ha⟩:=eV pl (yw (m:=m) (by rw[yy];show gg));show¬⟨L,_,_,_,O,O,ag hL,aU ea,a,_,_,_,O,O,aD ha,O,O,(part Prod.fst H' (Same.refl _) i m em).symm ▸ rfl,_,O⟩
  ext ys ae H' ⟨rfl,rfl,_⟩ D hD;rw[qH (by rw[qA,qA];show qG _)];let sD:=s1.trans (ar hD (.lst ⇑((ay ds n).map λm=>(aV bs m).1)));let fz:=(ar hD (.lst ⇑((ay ds n).map λm=>(aV bs m).1))) _ _ bX;let dL:af H' D (.lst ⇑((ay ds n).map λm=>(aV bs m).1)) D=!.lst ⇑((ay ds n).map λm=>(aV bs m).1):=aj;generalize af H' D (.lst ⇑((ay ds n).map λm=>(aV bs m).1))=H2 at sD fz dL⊢;let zk:∀(g:Int×Int->Int),(((ay ds n).map λm=>(m,g (aV bs m))).map λx=>V.int ((x.1:Nat):Int))=⇑((ay ds n).map λ(j:Nat)=>(j:Int)):=λg=>by rw[rZ,rZ];rfl
  let zv:∀(g:Int×Int->Int),(((ay ds n).map λm=>(m,g (aV bs m))).map λx=>V.int x.2)=⇑((ay ds n).map λm=>g (aV bs m)):=λg=>by rw[rZ,rZ];rfl
  let zl:∀(g:Int×Int->Int),∀x∈(ay ds n).map λm=>(m,g (aV bs m)),x.1<ls⁻¹:=λg x hx=>by
   let⟨m,hm,rfl⟩:=qO.mp hx;rw[cx.ll];show cZ hm
  show⟨p,K0,D,aC ls n 7,ls,(ay ds n).map λm=>(m,(aV bs m).1),O,cS sD I.lk,by rw[zk Prod.fst];show fz,by rw[zv Prod.fst];show dL,‹jt›,by rw[List.length_map];omega,(),(),cx.lk,zl Prod.fst,λH3 s3=>?_⟩;let ju:=sD.trans s3;let HH:=s3 _ _ fz;show¬⟨_,O,_,O,_,O,_,O,_,O,K0,O,⟨_,ag HH⟩,bx (xs:=⇑((ay ds n).map λ(j:Nat)=>(j:Int))) (λi ys ae H'=>H'=H3/\ys=⇑(((ay ds n).take i).map λm=>(aV bs m).2)/\∃z,ae=[z,!.ref L]) kz ⟨O,O,none,O⟩ ?_ ?_ ?_⟩
  .ext i ys ae H' hi ⟨rfl,rfl,_⟩;show ag HH
  .ext i y ys ae H' hy ⟨rfl,rfl,z,rfl⟩;let⟨m,em,rfl⟩:=yx hy;let gg:=yz em;let⟨al,hL,pl⟩:=ge ju lb;let⟨a,ea,ha⟩:=eV pl (yw (m:=m) (by rw[yy];show gg));show¬⟨L,_,_,_,O,O,ag hL,aU ea,a,_,_,_,O,O,aD ha,O,O,(part Prod.snd _ (Same.refl _) i m em).symm ▸ rfl,_,O⟩
  ext ys ae H' ⟨rfl,rfl,_⟩ D2 js;rw[qH (by rw[qA,qA];show qG _)];let sE:=ju.trans (ar js (.lst ⇑((ay ds n).map λm=>(aV bs m).2)));let PM:=(ar js (.lst ⇑((ay ds n).map λm=>(aV bs m).2))) _ _ HH;let se:af H' D2 (.lst ⇑((ay ds n).map λm=>(aV bs m).2)) D2=!.lst ⇑((ay ds n).map λm=>(aV bs m).2):=aj;generalize af H' D2 (.lst ⇑((ay ds n).map λm=>(aV bs m).2))=H4 at sE PM se⊢;show⟨p,K0,D2,aC ls n 7,ls,(ay ds n).map λm=>(m,(aV bs m).2),O,cS sE I.lk,by rw[zk Prod.snd];show PM,by rw[zv Prod.snd];show se,‹jt›,by rw[List.length_map];omega,(),(),cx.lk,zl Prod.snd,λH5 s5=>?_⟩;show⟨p,n,_,_,ls,O,cS (sE.trans s5) I.lk,nl,cV,λt H6 s6 pt=>?_⟩;show q t H6 ((sE.trans s5).trans s6) ?_;rw[qb8 ed hg];show pt
 show fU (bB d.k .grid) hg ?_;show-⟨K0,O,⟨_,ag bX⟩,bx (xs:=⇑((ay ds n).map λ(j:Nat)=>(j:Int))) (λi ys ae H'=>Same H1 H'/\(∃as,ys=↑as/\Paired (PrAt H') as (((ay ds n).take i).map (cR ds ls bs)))/\∃z,ae=[z,!.ref B,!.ref p,!.ref L]) kz ⟨Same.refl _,⟨[],O,.nil⟩,none,O⟩ ?_ ?_ ?_⟩
 .ext i ys ae H' hi ⟨s2,⟨as,rfl,pa⟩,_⟩;show ag (s2 _ _ bX)
 .ext i y ys ae H' hy ⟨s2,⟨as,rfl,pa⟩,z,rfl⟩;let⟨m,em,rfl⟩:=yx hy;let gg:=yz em;let iw:=s1.trans s2;show¬⟨_,O,_,O,B,p,L,m,ds,ls,bs,O,(I.same iw).bk,cS iw I.lk,ge iw lb,gg,by rw[cx.ll];show gg,by rw[yy];show gg,cV,λt H3 s3 pt=>?_⟩;show⟨s2.trans s3,⟨as++[t],by rw[qD];rfl,?_⟩,_,O⟩;rw[qP,em,qD];show(pa.mono λ_ _ h=>PrAt.same s3 h).snoc pt
 ext ys ae H2 ⟨s2,⟨as,rfl,pa⟩,_⟩ I0 hI0;rw[qH (by rw[qA,qA];show qG _)]at pa;let lpa:=qS pa;rw[qA]at lpa;let sI:=ar hI0 (.lst ↑as);let zc:af H2 I0 (.lst ↑as) I0=!.lst ↑as:=aj;let PN:Paired (PrAt (af H2 I0 (.lst ↑as))) as ((ay ds n).map (cR ds ls bs)):=pa.mono λ_ _ h=>PrAt.same sI h
 let s3:=(s1.trans s2).trans sI;generalize af H2 I0 (.lst ↑as)=H3 at sI zc PN s3⊢;let az:(↑as)⁻¹<sizeLine:=by rw[qA];show aR ()
 let one:∀(H4:Hp),Same H3 H4->∀{i:Nat} {y:V},(↑as)[i]?=!y->∃(a:Addr) (m:Nat),y=.ref a/\(ay ds n)[i]?=!m/\PrAt H4 a (cR ds ls bs m):=λH4 s4 i y hy=>by
  let⟨a,ea,rfl⟩:=cE hy;let⟨b,eb,hb⟩:=bN PN ea;rw[qJ]at eb;let⟨m,em,rfl⟩:=xH.mp eb;show⟨a,m,O,em,hb.same s4⟩
 let m0:∀(g:Int×Int->Int),((ay ds n).map λm=>g (cR ds ls bs m))=[]->V.int 0=V.int (a9 ((ay ds n).map λm=>g (cR ds ls bs m))):=λg e=>by rw[e];rfl
 show-⟨I0,O,⟨_,ag zc⟩,bx (xs:=↑as) (λi ys ae H'=>H'=H3/\ys=⇑(((ay ds n).take i).map λm=>(cR ds ls bs m).1)/\∃z,ae=[z]) az ⟨O,O,none,O⟩ ?_ ?_ ?_⟩
 .ext i ys ae H' hi ⟨rfl,rfl,_⟩;show ag zc
 .ext i y ys ae H' hy ⟨rfl,rfl,z,rfl⟩;let⟨a,m,rfl,em,ha⟩:=one _ (Same.refl _) hy;show-⟨a,_,_,_,O,O,aD ha,O,O,?_,_,O⟩;rw[qP,em,qD,qD];rfl
 ext ys ae H' ⟨rfl,rfl,_⟩ D hD;rw[qH (by rw[qA];omega)];let sD:=ar hD (.lst ⇑((ay ds n).map λm=>(cR ds ls bs m).1));show⟨D,_,.int (a9 ((ay ds n).map λm=>(cR ds ls bs m).1)),O,ag aj,m0 Prod.fst,λz=>⟨_,gF z,O,iO⟩,?_⟩;generalize af H' D (.lst ⇑((ay ds n).map λm=>(cR ds ls bs m).1))=H4 at sD⊢;show¬⟨_,O,_,O,I0,O,⟨_,ag (sD _ _ zc)⟩,bx (xs:=↑as) (λi ys ae H'=>H'=H4/\ys=⇑(((ay ds n).take i).map λm=>(cR ds ls bs m).2)/\∃z,ae=[z]) az ⟨O,O,none,O⟩ ?_ ?_ ?_⟩
 .ext i ys ae H5 hi ⟨rfl,rfl,_⟩;show ag (sD _ _ zc)
 .ext i y ys ae H5 hy ⟨rfl,rfl,z,rfl⟩;let⟨a,m,rfl,em,ha⟩:=one _ sD hy;show-⟨a,_,_,_,O,O,aD ha,O,O,?_,_,O⟩;rw[qP,em,qD,qD];rfl
 ext ys ae H5 ⟨rfl,rfl,_⟩ D2 js;rw[qH (by rw[qA];omega)];let sE:=(s3.trans sD).trans (ar js (.lst ⇑((ay ds n).map λm=>(cR ds ls bs m).2)));show⟨D2,_,.int (a9 ((ay ds n).map λm=>(cR ds ls bs m).2)),O,ag aj,m0 Prod.snd,λz=>⟨_,gF z,O,iO⟩,p,n,_,_,ls,O,cS sE I.lk,nl,cV,λt H6 s6 pt=>?_⟩;show q t H6 (sE.trans s6) ?_;rw[qb9 ed hp ht hs hg];show pt
def qce(F:Fu K "all_bounds" PJ f fd)(T:bO mg)(qcf:⋯ 5 "node_bounds" ["book", "looks", "units", "bounds", "node"] GK):(~~~0) 6 f fd ["book", "looks", "units"] spAll:=by
 rcases F.go ["book", "looks", "units", "bounds", "node"] with⟨B,p,U,ds,ls,us,rfl,I,cx,q⟩;let le:=cx.le;let⟨ab,hB,nd⟩:=I.bk;let eZ:ab⁻¹=ds⁻¹:=nd⁻¹;show⟨_,(aw (sm 3 ["node"] [] [] (a6 '0') (nv 0) bj (br (a2 ao ao)))
  (aw (fv (Fz (by rfl) T.range (a3 (aG dC (ln T.len '0') ao) (dM dN ao) (dM dN ao))) (nv 4)
  (aA (l7 (cF qcf hr (aJ '0' (aJ '1' (a3 '2' '3' '4')))) (tM '3' '4' pS))))
  (aA (aH '3')))),?_⟩
 show-⟨B,O,⟨_,ag hB⟩,bx (xs:=↑ab) (λi ys ae H'=>Same H H'/\(∃as,ys=↑as/\Paired (PrAt H') as (List.replicate i (0,0)))/\∃z,ae=[z]) (by rw[qA];show aR ()) ⟨Same.refl _,⟨[],O,.nil⟩,none,O⟩ ?_ ?_ ?_⟩
 .ext i ys ae H' hi ⟨s1,⟨as,rfl,pa⟩,_⟩;show ag (s1 _ _ hB)
 .ext i y ys ae H' hy ⟨s1,⟨as,rfl,pa⟩,z,rfl⟩;show⟨aK,λt ht=>?_⟩;let s2:=ar ht (.tup [.int 0,.int 0]);show⟨s1.trans s2,⟨as++[t],by rw[qD];rfl,?_⟩,_,O⟩;rw[List.replicate_succ'];show(pa.mono λ_ _ h=>PrAt.same s2 h).snoc aj
 ext ys ae H1 ⟨s1,⟨as,rfl,pa⟩,_⟩ L zd;rw[qA,eZ]at pa;let sL:=ar zd (.lst ↑as);let bG:af H1 L (.lst ↑as) L=!.lst ↑as:=aj;let PP:Paired (PrAt (af H1 L (.lst ↑as))) as (List.replicate ds⁻¹ (0,0)):=pa.mono λ_ _ h=>PrAt.same sL h
 let s2:=s1.trans sL;let hL:H L=none:=s1.free zd;generalize af H1 L (.lst ↑as)=H2 at sL bG PP s2⊢;let qcg:∀{H':Hp} {o:HO} {ys:List V},H' L=!.lst ys->∀a x,PrAt H' a x->PrAt (af H' L o) a x:=λh a x hx=>by
  unfold PrAt;rw[aF (λz=>by unfold PrAt at hx;rw[z,h]at hx;cases hx)];show hx
 show-⟨B,_,O,.inl (ag (s2 _ _ hB)),_,_,O,O,_,O,_,O,_,_,O,⟨(),by rw[qA,eZ];omega,{},{}⟩,FC (λk σ H'=>Same H H'/\(∃z,σ=[!.ref B,!.ref p,!.ref U,!.ref L,z])/\LstAt PrAt H' L (dY ds ls us k)) ⟨s2,⟨none,O⟩,as,bG,PP⟩ ?_ ?_⟩
 .ext k σ H' hk ⟨s3,⟨z,rfl⟩,al,cK,pl⟩;let jR:k<ds⁻¹:=by rw[qA,eZ]at hk;omega
  let en:(((↑ab)⁻¹:Nat):Int)-1-(k:Int)=((ds⁻¹-1-k:Nat):Int):=by rw[qA,eZ];omega
  show aZ 4 (V.int ((((↑ab)⁻¹:Nat):Int)-1-(k:Int))) _ _ _;rw[en];let lal:al⁻¹=ds⁻¹:=by rw[qS pl,qp]
  show¬⟨_,O,_,O,_,O,B,p,U,L,ds⁻¹-1-k,ds,ls,us,dY ds ls us k,O,I.same s3,⟨al,cK,pl⟩,qp k,(),cx,λt H4 s4 pt=>?_⟩;let dA:=s4 _ _ cK;let lx:(↑al)⁻¹=ds⁻¹:=by rw[qA,lal]
  show¬⟨L,_,_,ds⁻¹-1-k,O,O,dA,?_,?_⟩
  .unfold fR;rw[lx];simp;omega
  show⟨gZ (s3.trans s4) hL,⟨_,O⟩,al.set (ds⁻¹-1-k) t,by rw[aj,List.map_set],?_⟩;rw[dY];show(Paired.set (F:=PrAt H4) (pl.mono λ_ _ h=>PrAt.same s4 h) pt _).mono (qcg dA)
 .ext σ H' ⟨s3,⟨z,rfl⟩,lb⟩;let ek:((((↑ab)⁻¹:Nat):Int)-1-(-1)).toNat=ds⁻¹:=by rw[qA,eZ];omega
  rw[ek]at lb;show-⟨q L H' hL s3 lb⟩
end K31
namespace K31
open L2 Bk Gen Gd
abbrev PQ:=top 78
abbrev PR:=top 77
abbrev PU:=top 76
def qch(F:Fu K "spots_of" PQ f fd)(T:mH mg)(U:BL mg):(~~~0) 1 f fd ["place"] BK:=by
 rcases F.go ["place", "spots", "row"] with⟨t,p,rfl,ht,d4,s6,r0,c0,q⟩;let⟨_,mZ⟩:=U.row;let⟨_,si⟩:=U.column;let⟨_,HI⟩:=U.span;let⟨_,HJ⟩:=U.deep;show⟨_,(aw (sv 1 (a0 bE))
  (aw (fv (DJ (by rfl) T.range (a2 (px aI '0' (gi mZ)) (aG bi (px aI '0' (gi mZ)) (px aI '0' (gi HJ))))) (nv 2)
  (aA (cq (jK xX v3 v5 Lr '1' (a1 (cm ["column"] ["row"] [2] (DJ (by rfl) T.range (a2 (px aI '0' (gi si)) (aG bi (px aI '0' (gi si)) (px aI '0' (gi HI))))) (nv 0) bj (br (a2 '1' '0'))))))))
  (aA (aH '1')))),?_⟩
 show⟨aK,λL hL=>?_⟩;let s1:=ar hL (.lst []);let t1:=s1 _ _ ht;show-⟨t,_,_,_,O,O,aD t1,O,_,O,t,_,_,_,O,O,aD t1,O,_,O,t,_,_,_,O,O,aD t1,O,_,_,O,O,_,_,O,⟨(),(),(),()⟩,gp (λi σ H'=>Same H H'/\(∃z,σ=[!.ref t,!.ref L,z])/\LstAt TupAt H' L (jV p i)) ⟨s1,⟨none,O⟩,[],aj,.nil⟩ ?_ ?_⟩
 .ext i σ H' hi ⟨s2,⟨z,rfl⟩,as,eF,pr⟩;let bW:i<p.d:=()
  let t2:=s2 _ _ ht;let l1:=qS pr;let l3:=Fe (p:=p) (n:=i) () s6;show-⟨.inl ⟨O,_,ag eF⟩,_,O,t,_,_,_,O,O,aD t2,O,_,O,t,_,_,_,O,O,aD t2,O,_,O,t,_,_,_,O,O,aD t2,O,_,_,O,O,_,_,O,⟨(),(),(),()⟩,jO (λj ys ae H3=>Same H' H3/\(∃z,ae=[z,!.int ((p.r:Int)+i)])/\∃bs,ys=↑bs/\Paired (TupAt H3) bs ((mE p i).take j)) (aR ()) ⟨Same.refl _,⟨none,O⟩,[],O,.nil⟩ ?_ ?_⟩
  .ext j ys ae H3 hj ⟨s3,⟨z,rfl⟩,bs,rfl,m7⟩;let CM:j<p.s:=()
   show¬⟨aK,λt' ze=>?_⟩;let s4:=ar ze (.tup [.int ((p.r:Int)+i),.int ((p.c:Int)+j)]);show⟨s3.trans s4,⟨_,O⟩,bs++[t'],by rw[qD];rfl,?_⟩;let e:(mE p i)[j]?=!(p.r+i,p.c+j):=by simp[mE,CM]
   rw[qP,e];show(mG (.of s4) m7).snoc aj
  .ext ys ae H3 ⟨s3,⟨z,rfl⟩,bs,rfl,m7⟩ D hD;rw[qH (by rw[Fd];omega)]at m7;let l2:=qS m7;rw[Fd]at l2;let s4:=ar hD (.lst ↑bs);let cK:=s4 _ _ (s3 _ _ eF);show⟨L,D,_,_,O,O,cK,aj,by rw[qA,qA];show rX (aR ()),?_⟩;let tt:=Tups.lst (o:=.lst (↑as++↑bs)) cK;show⟨gZ ((s2.trans s3).trans s4) hL,⟨_,O⟩,as++bs,by rw[aj,qD],?_⟩;rw[Nk];show vt (mG ((Tups.of (s3.trans s4)).trans tt) pr) (mG ((Tups.of s4).trans tt) m7)
 .ext σ H' ⟨s2,⟨z,rfl⟩,la⟩;let en:((p.r:Int)+p.d-p.r).toNat=p.d:=()
  rw[en]at la;show-⟨q L H' hL s2 la⟩
def qci(F:Fu K "first_place" PR f fd)(T:mH mg)(HK:⋯ 1 "spots_of" ["place"] BK):(~~~0) 2 f fd ["columns", "taken", "span", "deep"] Fg:=by
 rcases F.go ["columns", "taken", "span", "deep", "row", "column", "place"] with⟨tk,cols,sp,d,n,ps,rfl,⟨ax,AV,qi,hv⟩,ok,pl,s1,s2,c6,d1,d4,q⟩;let oJ:=Lz hr;show⟨_,(aw (sv 4 ao)
  (aA (AR vK (kD jG) (aw (fv (r1 T.range (aG bi (aG dC '0' '2') ao)) (nv 5)
  (aw (sv 6 (br (aJ '4' (a3 '5' '2' '3'))))
  (aA (a7 (nT (kD (cb (YO (by rfl)) T.any YR (a1 (cm ["spot"] ["taken"] [1] (a6 (cF HK hr (a1 '6'))) (nv 0) bj (UO (YI oJ '0' '1'))))))) (aA (aH '6')) bg))))
  (aA (av 4 ao DH)))))),?_⟩
 show⟨λm σ H'=>Same H H'/\∃(r:Nat) (z1 z2:Option V),σ=[!.int cols,!.ref tk,!.int sp,!.int d,!.int r,z1,z2]/\r<=4*ps⁻¹/\m=4*ps⁻¹-r/\(∀r',r'<r->∀c,c+sp<=cols->free ps ⟨r',c,sp,d⟩=false),⟨_,Same.refl H,0,none,none,O,rL _,O,λ_ h=>qT h (xP _)⟩,?_⟩;ext m σ H' ⟨sm,r,z1,z2,rfl,rl,rfl,nr⟩;show-⟨bL ⟨λae gK=>Same H gK/\∃(z1 z2:Option V),ae=[!.int cols,!.ref tk,!.int sp,!.int d,!.int ((r+1:Nat):Int),z1,z2]/\r+1<=4*ps⁻¹/\(∀r',r'<r+1->∀c,c+sp<=cols->free ps ⟨r',c,sp,d⟩=false),?_,?_⟩⟩
 .ext ae gK ⟨s3,z1,z2,rfl,HL,nr'⟩;show⟨4*ps⁻¹-(r+1),(),s3,r+1,z1,z2,O,HL,O,nr'⟩
 show¬⟨_,_,O,O,_,_,O,O,_,O,(),(),gp (λk σ H2=>Same H H2/\(∃(z1 z2:Option V),σ=[!.int cols,!.ref tk,!.int sp,!.int d,!.int r,z1,z2])/\∀c,c<k->free ps ⟨r,c,sp,d⟩=false) ⟨sm,⟨_,_,O⟩,λ_ h=>qT h (xP _)⟩ ?_ ?_⟩
 .rintro k σ H2 hk ⟨sH,⟨y1,y2,rfl⟩,nc⟩;let jR:k+sp<=cols:=()
  rw[show(0:Int)+(k:Int)=(k:Int)from uE _];show¬⟨_,O,_,O,aK,λt ht=>?_⟩;let sT:=ar ht (.tup [.int r,.int k,.int sp,.int d]);let hT:PlAt (af H2 t (.tup [.int r,.int k,.int sp,.int d])) t ⟨r,k,sp,d⟩:=aj;generalize af H2 t (.tup [.int r,.int k,.int sp,.int d])=H3 at sT hT⊢;show-⟨t,⟨r,k,sp,d⟩,O,hT,d4,by show sp<=6;omega,by show r<=1000;omega,by show k<=1000;omega,λL H4 hL s4 la=>?_⟩;let⟨as,dA,pr⟩:=la;let fJ:=sT.trans s4;let HM:=sH.trans fJ;let tk4:=HM _ _ AV;let le:=Fe (p:=⟨r,k,sp,d⟩) (n:=d) d4 (by show sp<=6;omega);let l1:as⁻¹=(jV ⟨r,k,sp,d⟩ d)⁻¹:=qS pr;show⟨L,O,⟨_,ag dA⟩,bx (xs:=↑as) (λi ys ae H5=>H5=H4/\ys=(((fY ⟨r,k,sp,d⟩).take i).map λx=>V.bl (ps.any λp=>iM p x))/\∃z,ae=[z,!.ref tk]) (by rw[qA];show aR ()) ⟨O,O,none,O⟩ ?_ ?_ ?_⟩
  .ext i ys ae H5 hi ⟨rfl,rfl,_⟩;show ag dA
  .ext i y ys ae H5 hy ⟨rfl,rfl,z,rfl⟩;let⟨b,eb,rfl⟩:=cE hy;let⟨x,ex,hb⟩:=bN pr eb;show¬⟨tk,_,O,DGet.t (k:=[.inl x.1,.inl x.2]) tk4 hb,O,?_,_,O⟩;rw[qP,ex,qD,hv];rfl
  .rintro ys ae H5 ⟨rfl,rfl,_⟩ D hD;let el:(((fY ⟨r,k,sp,d⟩).take (↑as)⁻¹).map λx=>V.bl (ps.any λp=>iM p x))=((fY ⟨r,k,sp,d⟩).map λx=>ps.any λp=>iM p x).map V.bl:=by
    rw[qH (by rw[qA];show Nat.le_of_eq l1.symm),rZ];rfl
   rw[el];let sD:=ar hD (.lst (((fY ⟨r,k,sp,d⟩).map λx=>ps.any λp=>iM p x).map V.bl));let dL:af H5 D (.lst (((fY ⟨r,k,sp,d⟩).map λx=>ps.any λp=>iM p x).map V.bl)) D=!.lst (((fY ⟨r,k,sp,d⟩).map λx=>ps.any λp=>iM p x).map V.bl):=aj;generalize af H5 D (.lst (((fY ⟨r,k,sp,d⟩).map λx=>ps.any λp=>iM p x).map V.bl))=H6 at sD dL⊢;let ea:((fY ⟨r,k,sp,d⟩).map λx=>ps.any λp=>iM p x).any id=(Bool.not (free ps ⟨r,k,sp,d⟩)):=by
    rw[List.any_map];show YN ok.one s1 d1
   show⟨D,_,O,ag dL,_,O,?_⟩;rw[ea];cases hf:free ps ⟨r,k,sp,d⟩with
   | true =>
     show bL ⟨_,O,?_⟩
     show q t _ ⟨r,k,sp,d⟩ ⟨O,O,jR,hf,nc,nr⟩ ((s4.trans sD) _ _ hT) (HM.trans sD)
   | false =>
     show ba ⟨HM.trans sD,⟨_,_,O⟩,λc hc=>?_⟩
     rcases yD.mp hc with h | h
     · show nc c h
     · rw[h];show hf
 .ext σ H2 ⟨sH,⟨y1,y2,rfl⟩,nc⟩;let PV:∀c,c+sp<=cols->free ps ⟨r,c,sp,d⟩=false:=λc hc=>nc c ()
  let HL:r+1<=4*ps⁻¹:=by
   show Nat.lt_of_le_of_ne rl λz=>?_
   have:=PV 0 ();rw[Nm ok ()]at this;cases this
  show-⟨_,_,O,O,sH,_,_,O,HL,λr' ya c hc=>?_⟩;rcases yD.mp ya with h | h
  .show nr r' h c hc
  .rw[h];show PV c hc
def qcj(F:Fu K "grid_places" PU f fd)(T:mH mg)(HK:⋯ 1 "spots_of" ["place"] BK)(qck:⋯ 2 "first_place" ["columns", "taken", "span", "deep"] Fg):(~~~0) 3 f fd ["columns", "cells"] ww:=by
 rcases F.go ["columns", "cells", "places", "taken", "span", "deep", "place", "spot"] with⟨cl,cols,cs,rfl,⟨as,eR,pr⟩,lV,c20,c1,c6,q⟩;let oJ:=Lz hr;show⟨_,(aw (sv 2 (a0 bE))
  (aw (sv 3 YM)
  (aw (fv (a6 '1') (i6 (by rfl) (bD (nv 4) (bD (nv 5) dQ)))
  (aw (sv 6 (cF qck hr (aJ '0' (a3 '3' (cb (tX (by rfl)) T.min mI (a2 '4' '0')) '5'))))
  (aw (cq (ap '2' '6'))
  (aA (fv (a6 (cF HK hr (a1 '6'))) (nv 7)
  (aA (YJ oJ '3' '7' jG (by rfl))))))))
  (aA (aH '2'))))),?_⟩
 show⟨aK,λL hL=>?_⟩;let sL:=ar hL (.lst []);let bG:af H L (.lst []) L=!.lst ↑([]:TQ):=aj;generalize af H L (.lst [])=H1 at sL bG⊢;intro D hD;let sD:=ar hD (.dT []);let dL:af H1 D (.dT []) D=!.dT []:=aj;let PX:=sD _ _ bG;let DL:D≠L:=λz=>by rw[z,bG]at hD;cases hD
 let hD0:H D=none:=sL.free hD;let s1:=sL.trans sD;generalize af H1 D (.dT [])=H2 at sD dL PX s1⊢;let l0:as⁻¹=cs⁻¹:=qS pr;show-⟨cl,O,⟨_,ag (s1 _ _ eR)⟩,i9 (xs:=↑as) (λi σ H'=>Same H H'/\(∃z4 z5 z6 z7,σ=[!.int cols,!.ref cl,!.ref L,!.ref D,z4,z5,z6,z7])/\∃ps,LstAt PlAt H' L ps/\Tk H' D ps (24*i)/\Placed cols (cs.take i) ps/\PsOk cols ps/\ps⁻¹=i) ⟨s1,⟨none,none,none,none,O⟩,[],⟨[],PX,.nil⟩,⟨[],dL,qG _,λ_=>rfl⟩,.nil,(λp hp=>nomatch hp),O⟩ ?_ ?_ ?_⟩
 .ext i σ H' hi ⟨s2,_⟩;show ag (s2 _ _ eR)
 .rintro i y σ H' hy ⟨s2,⟨z4,z5,z6,z7,rfl⟩,ps,⟨bs,hLb,pb⟩,tk,pd,ok,pl⟩;let⟨b,eb,rfl⟩:=cE hy;let⟨x,ex,hb⟩:=bN pr eb;let⟨x1,x2,x3,x4⟩:=lV x (qL ex);let hi:i<cs⁻¹:=(qF.mp ex).1;let Bg:=s2 _ _ hb;show⟨b,_,O,aD Bg,O,_,_,O,_,_,O,O,_,O,_,O,_,O,_,O,_,_,O,_,O,?_⟩;let em:(if(cols:Int)<(x.1:Int)then(cols:Int)else(x.1:Int))=((min x.1 cols:Nat):Int):=by
   by_cases z:cols<x.1
   .rw[qZ (),Nat.min_eq_right ()]
   .rw[qX (),uH ()]
  show⟨D,cols,min x.1 cols,x.2,24*i,ps,by show[V.int cols,V.ref D,V.int (if(cols:Int)<(x.1:Int)then(cols:Int)else(x.1:Int)),V.int x.2]=_;rw[em],tk,ok,(),(),(),c6,x3,x4,λt H3 pq fq hq s3=>?_⟩;let cK:=s3 _ _ hLb;let lb:=qS pb;show-⟨.inl ⟨O,_,ag cK⟩,_,O,L,_,_,O,O,cK,aR (by rw[qA];omega),?_⟩;let tL:=Tups.lst (o:=.lst (↑bs++[.ref t])) cK;let HN:PlAt (af H3 L (.lst (↑bs++[.ref t]))) t pq:=hq.keep tL;let dA:af H3 L (.lst (↑bs++[.ref t])) L=!.lst ↑(bs++[t]):=by rw[aj,qD];rfl
  let PY:Paired (PlAt (af H3 L (.lst (↑bs++[.ref t])))) (bs++[t]) (ps++[pq]):=(Nn ((Tups.of s3).trans tL) pb).snoc HN;let⟨ax,hkv,qi,hv⟩:=tk;let se:af H3 L (.lst (↑bs++[.ref t])) D=!.dT ax:=by rw[aF DL];show s3 _ _ hkv
  let s4:Same H (af H3 L (.lst (↑bs++[.ref t]))):=gZ (s2.trans s3) hL;generalize af H3 L (.lst (↑bs++[.ref t]))=H4 at HN dA PY se s4⊢;let qr:=fq.row ok ();let qs:=fq.es;let qd:=fq.ed;let qc:=fq.ec;show-⟨t,pq,O,HN,(),(),(),(),λS H5 hS s5 la=>?_⟩;let⟨ss,gJ,PZ⟩:=la;let SD:S≠D:=λz=>by rw[z,se]at hS;cases hS
  let ls:ss⁻¹=(fY pq)⁻¹:=qS PZ;let le:=Fe (p:=pq) (n:=pq.d) () ();let le':(fY pq)⁻¹<=24:=le;show⟨S,O,⟨_,ag gJ⟩,i9 (xs:=↑ss) (λj σ H6=>Same H H6/\(∃z4 z5 z6 z7,σ=[!.int cols,!.ref cl,!.ref L,!.ref D,z4,z5,z6,z7])/\H6 L=!.lst ↑(bs++[t])/\Tups H5 H6/\H6 S=!.lst ↑ss/\∃ax,H6 D=!.dT ax/\ax⁻¹<=24*i+j/\∀x:Nat×Nat,(cw ax [.inl x.1,.inl x.2]).isSome=((ps.any λp=>iM p x) || decide (x∈(fY pq).take j))) ⟨s4.trans s5,⟨_,_,_,_,O⟩,s5 _ _ dA,(λ_ _ e=>e),gJ,ax,s5 _ _ se,qi,λx=>by rw[hv];simp⟩ ?_ ?_ ?_⟩
  .ext j σ H6 hj ⟨_,_,_,_,h6,_⟩;show ag h6
  .rintro j y σ H6 hy ⟨s6,⟨y4,y5,y6,y7,rfl⟩,kq,t6,lW,HP,o3,P0,HQ⟩;let⟨b',P1,rfl⟩:=cE hy;let⟨x',tu,hb'⟩:=bN PZ P1;let hj:j<ss⁻¹:=(qF.mp P1).1;let HR:TupAt H6 b' x':=t6 _ _ hb';show¬⟨D,_,O,DPut.t (k:=[.inl x'.1,.inl x'.2]) o3 HR (yB (show _<=3000 by omega) (by show 3000<sizeLine;decide)),gZ s6 hD0,⟨_,_,_,_,O⟩,by rw[aF (rV DL)];show kq,t6.trans (Tups.dct o3),by rw[aF SD];show lW,_,aj,by have:=E9 HP [Sum.inl (x'.1:Int),Sum.inl (x'.2:Int)] (V.bl true);omega,λz=>?_⟩;rw[YA,qP,tu]
   by_cases e:z=x'
   .subst e;simp
   .let ne:¬([Sum.inl (z.1:Int),Sum.inl (z.2:Int)]:List aW)=[Sum.inl (x'.1:Int),Sum.inl (x'.2:Int)]:=λh=>e (by
     let h1:=(vX h).1;let h2:=(vX (vX h).2).1;let h3:=Sum.inl.inj h1;let h4:=Sum.inl.inj h2;show Prod.ext () ())
    rw[qX ne,HQ];simp[e]
  .ext σ H6 ⟨s6,⟨y4,y5,y6,y7,rfl⟩,kq,t6,lW,HP,o3,P0,HQ⟩;show⟨s6,⟨_,_,_,_,O⟩,ps++[pq],⟨bs++[t],kq,Nn ((Tups.of s5).trans t6) PY⟩,⟨HP,o3,by rw[qA]at P0;omega,λz=>?_⟩,?_,ok.snoc fq () () c6 x3 x4,by rw[qI,pl];rfl⟩
   .rw[HQ,qH (by rw[qA];omega),List.any_append,vJ,List.any_nil,Bool.or_false]
    congr 1
    rw[uA,decide_eq_true_iff];show Ff
   .rw[qP,ex];show pd.snoc fq
 .ext σ H' ⟨s2,⟨z4,z5,z6,z7,rfl⟩,ps,lp,tk,pd,ok,pl⟩;rw[qH (by rw[qA];omega)]at pd;show-⟨q L H' ps hL s2 lp pd ok⟩
end K31
namespace K31
open L2 Bk Gen Gd Bd Shr Sp0
structure zf(mg:TJ):Prop where
 kind:∃t,mg "KIND" = !.int 1 t
 low:∃t,mg "LOW" = !.int 0 t
 left:∃t,mg "LEFT" = !.int 0 t
 wide:∃t,mg "WIDE_spans" = !.int 1 t
 column:∃t,mg "COLUMN" = !.int 1 t
 span:∃t,mg "SPAN" = !.int 2 t
def qcl:iP (s!"weight") 4:=⟨by ac_rfl,by ac_rfl⟩
def qcm:iP (s!"deep") 9:=⟨by ac_rfl,by ac_rfl⟩
def qcn:iP (s!"side") 10:=⟨by ac_rfl,by ac_rfl⟩
abbrev P2:=top 75
abbrev P3:=top 91
abbrev P4:=top 92
abbrev P5:=top 93
abbrev P6:=top 94
abbrev P7:=top 95
abbrev P8:=top 97
abbrev P9:=top 96
abbrev Qa:=top 98
def qco(F:Fu K "cells_of" P2 fn fd)(cA:⋯ 1 "look_at" ["looks", "node", "word"] fK):(~~~0) 2 fn fd ["looks", "held"] Cg:=by
 rcases F.go ["looks", "held"] with⟨p,k,ks,ls,rfl,lk,hk,kg,kin,cy,q⟩;show⟨_,(aA (aH (cm ["one"] ["looks"] [0] (a6 '1') (nv 0) bj (br (a2 (cF cA hr (a3 '1' '0' aQ)) (cF cA hr (a3 '1' '0' aQ))))))),_,O,k,O,⟨_,ag hk⟩,bx (xs:=⇑(ks.map λ(j:Nat)=>(j:Int))) (λi ys ae H'=>Same H H'/\(∃z,ae=[z,!.ref p])/\∃as,ys=↑as/\Paired (TupAt H') as ((bP ls ks).take i)) (by rw[qA,qA];show aR ()) ⟨Same.refl H,⟨none,O⟩,[],O,.nil⟩ ?_ ?_ ?_⟩
 .ext i ys ae H' hi ⟨s1,_,as,rfl,pr⟩;show ag (s1 _ _ hk)
 .ext i y ys ae H' hy ⟨s1,⟨z,rfl⟩,as,rfl,pr⟩;let⟨m,em,rfl⟩:=eD hy;let hm:=kin m (qL em);let l13:∀l∈ls,l⁻¹=13:=λl h=>(cy l h).len
  let lo:=cy _ (rJ hm);let lv:∀i,aC ls m i=ls[m].getD i 0:=λi=>by unfold aC;rw[qB hm];rfl
  let b1:=lo.span;let b2:=lo.deep;rw[<-lv]at b1 b2;show¬⟨p,m,8,_,ls,O,cS s1 lk,hm,l13,{},PF,_,O,_,O,p,m,9,_,ls,O,cS s1 lk,hm,l13,{},qcm,aK,λt ht=>?_⟩;let s2:=ar ht (.tup [.int (aC ls m 8),.int (aC ls m 9)]);show⟨s1.trans s2,⟨_,O⟩,as++[t],by rw[qD];rfl,?_⟩;let ec:(bP ls ks)[i]?=!((aC ls m 8).toNat,(aC ls m 9).toNat):=by unfold bP;rw[qJ,em];rfl
  rw[qP,ec];show(mG (.of s2) pr).snoc ?_;show af H' t _ t=!.tup [.int (((aC ls m 8).toNat:Nat):Int),.int (((aC ls m 9).toNat:Nat):Int)];rw[aj,Int.toNat_of_nonneg (),Int.toNat_of_nonneg ()]
 .ext ys ae H' ⟨s1,_,as,rfl,pr⟩ D hD;rw[qH (by rw[xy,qA,qA];show qG _)]at pr;show q D _ (s1.free hD) (s1.trans (ar hD _)) ⟨as,aj,mG (.of (ar hD _)) pr⟩
def qcp(F:Fu K "room_of" P3 fn fd)(T:bO mg)(U:zf mg)(cA:⋯ 1 "look_at" ["looks", "node", "word"] fK):(~~~0) 2 fn fd ["looks", "spans", "node"] Cf:=by
 rcases F.go ["looks", "spans", "node", "inset"] with⟨p,S,n,ls,sp,rfl,lk,⟨as,hS,pr⟩,hn,hs,l13,q⟩;let⟨_,m9⟩:=U.left;let⟨_,iW⟩:=U.wide;let⟨a,ea,ha⟩:=eV pr (Ci hs);show⟨_,(aw (sv 3 (cF cA hr (a3 '0' '2' aQ)))
  (aA (aH (br (a2 (aG bi (px aI (px aE '1' '2') (gi m9)) '3') (cb (mj (by rfl)) T.max dP (a2 (aG dC (px aI (px aE '1' '2') (gi iW)) (aG fe ao '3')) ao))))))),?_⟩
 show¬⟨p,n,3,_,ls,O,lk,hn,l13,{},PD,_,O,_,O,S,_,_,_,O,O,ag hS,aU ea,a,_,_,_,O,O,aD ha,O,_,O,_,_,O,O,_,O,_,O,S,_,_,_,O,O,ag hS,aU ea,a,_,_,_,O,O,aD ha,O,_,O,_,_,O,O,.inl ⟨{},{}⟩,_,_,O,O,_,_,O,aK,λt ht=>?_⟩;show q t _ ht (ar ht _) ?_;show af H t _ t=_;rw[aj,rq];unfold dI;rw[show max 0 ((aV sp n).2-2*aC ls n 3)=max ((aV sp n).2-2*aC ls n 3) 0 by omega]
def qcq(F:Fu K "floors_of" P4 fn fd)(o2:⋯ 2 "floor_of" ["looks", "bounds", "one"] (jj cG)):(~~~0) 3 fn fd ["looks", "bounds", "held"] (xx cG):=by
 rcases F.go ["looks", "bounds", "held"] with⟨p,L,k,ks,ls,bs,rfl,lk,lb,hk,kg,kin,l13,q⟩;show⟨_,(aA (aH (cm ["one"] ["looks", "bounds"] [0,1] (a6 '2') (nv 0) bj (cF o2 hr (a3 '1' '2' '0'))))),_,O,k,O,⟨_,ag hk⟩,bx (xs:=⇑(ks.map λ(j:Nat)=>(j:Int))) (λi ys ae H'=>H'=H/\(∃z,ae=[z,!.ref p,!.ref L])/\ys=⇑((ks.map (cG ls bs)).take i)) (by rw[qA,qA];show aR ()) ⟨O,⟨none,O⟩,O⟩ ?_ ?_ ?_⟩
 .ext i ys ae H' hi ⟨rfl,_,rfl⟩;show ag hk
 .ext i y ys ae H' hy ⟨rfl,⟨z,rfl⟩,rfl⟩;let⟨m,em,rfl⟩:=eD hy;let⟨m1,m2⟩:=kin m (qL em);show¬⟨_,O,p,L,m,ls,bs,O,lk,lb,m1,m2,l13,O,⟨_,O⟩,?_⟩;let ec:(ks.map (cG ls bs))[i]?=!cG ls bs m:=by rw[qJ,em];rfl
  rw[qP,ec,qD];rfl
 .ext ys ae H' ⟨rfl,_,rfl⟩ D hD;rw[qH (by rw[qA,qA,qA];show qG _)];show q D _ hD (ar hD _) aj
def qcr(F:Fu K "roofs_of" P5 fn fd)(HE:⋯ 3 "roof_of" ["looks", "bounds", "one"] (jj gb)):(~~~0) 4 fn fd ["looks", "bounds", "held"] (xx gb):=by
 rcases F.go ["looks", "bounds", "held"] with⟨p,L,k,ks,ls,bs,rfl,lk,lb,hk,kg,kin,l13,q⟩;show⟨_,(aA (aH (cm ["one"] ["looks", "bounds"] [0,1] (a6 '2') (nv 0) bj (cF HE hr (a3 '1' '2' '0'))))),_,O,k,O,⟨_,ag hk⟩,bx (xs:=⇑(ks.map λ(j:Nat)=>(j:Int))) (λi ys ae H'=>H'=H/\(∃z,ae=[z,!.ref p,!.ref L])/\ys=⇑((ks.map (gb ls bs)).take i)) (by rw[qA,qA];show aR ()) ⟨O,⟨none,O⟩,O⟩ ?_ ?_ ?_⟩
 .ext i ys ae H' hi ⟨rfl,_,rfl⟩;show ag hk
 .ext i y ys ae H' hy ⟨rfl,⟨z,rfl⟩,rfl⟩;let⟨m,em,rfl⟩:=eD hy;let⟨m1,m2⟩:=kin m (qL em);show¬⟨_,O,p,L,m,ls,bs,O,lk,lb,m1,m2,l13,O,⟨_,O⟩,?_⟩;let ec:(ks.map (gb ls bs))[i]?=!gb ls bs m:=by rw[qJ,em];rfl
  rw[qP,ec,qD];rfl
 .ext ys ae H' ⟨rfl,_,rfl⟩ D hD;rw[qH (by rw[qA,qA,qA];show qG _)];show q D _ hD (ar hD _) aj
def qcs(F:Fu K "weights_of" P6 fn fd)(cA:⋯ 1 "look_at" ["looks", "node", "word"] fK):(~~~0) 2 fn fd ["looks", "held"] Gg:=by
 rcases F.go ["looks", "held"] with⟨p,k,ks,ls,rfl,lk,hk,kg,kin,l13,q⟩;show⟨_,(aA (aH (cm ["one"] ["looks"] [0] (a6 '1') (nv 0) bj (cF cA hr (a3 '1' '0' aQ))))),_,O,k,O,⟨_,ag hk⟩,bx (xs:=⇑(ks.map λ(j:Nat)=>(j:Int))) (λi ys ae H'=>H'=H/\(∃z,ae=[z,!.ref p])/\ys=⇑((ks.map λm=>aC ls m 4).take i)) (by rw[qA,qA];show aR ()) ⟨O,⟨none,O⟩,O⟩ ?_ ?_ ?_⟩
 .ext i ys ae H' hi ⟨rfl,_,rfl⟩;show ag hk
 .ext i y ys ae H' hy ⟨rfl,⟨z,rfl⟩,rfl⟩;let⟨m,em,rfl⟩:=eD hy;let m1:=kin m (qL em);show¬⟨p,m,4,_,ls,O,lk,m1,l13,{},qcl,O,⟨_,O⟩,?_⟩;let ec:(ks.map λm=>aC ls m 4)[i]?=!aC ls m 4:=by rw[qJ,em];rfl
  rw[qP,ec,qD];rfl
 .ext ys ae H' ⟨rfl,_,rfl⟩ D hD;rw[qH (by rw[qA,qA,qA];show qG _)];show q D _ hD (ar hD _) aj
def qct(F:Fu K "one_behind_the_other" P7 fn fd)(T:bO mg):(~~~0) 1 fn fd ["left", "wides"] Gh:=by
 rcases F.go ["left", "wides"] with⟨left,a,x,rfl,ha,kg,q⟩;show⟨_,(aA (aH (cm ["place", "wide"] ["left", "wides"] [0,1] (vg (by rfl) T.enumerate (a1 '1')) (mC K (n:=2) (by rfl) (by rfl) (bD (nv 0) (bD (nv 1) dQ))) bj (br (a2 (aG bi '2' (cb (r:=xa K) (Gm K (by rfl) (by rfl)) T.sum fZ (a1 (kJ (r:=pT K) (Fv K (by rfl)) '3' nY (jc '0'))))) '1'))))),_,O,a,O,⟨_,ag ha⟩,Mn (xs:=⇑x) (λi ys ae H'=>Same H H'/\(∃z0 z1,ae=[z0,z1,!.int left,!.ref a])/\∃as,ys=↑as/\Paired (PrAt H') as ((lJ left x).take i)) (by rw[qA];show aR ()) ⟨Same.refl H,⟨none,none,O⟩,[],O,.nil⟩ ?_ ?_ ?_⟩
 .ext i ys ae H' hi ⟨s1,_,as,rfl,pr⟩;show ag (s1 _ _ ha)
 .ext i y ys ae H' T' hy hT ⟨s1,⟨z0,z1,rfl⟩,as,rfl,pr⟩;let⟨v,ev,rfl⟩:=oV hy;let hi:i<x⁻¹:=(qF.mp ev).1;let s2:=ar hT (.tup [.int (i:Int),.int v]);let bo:=s1.trans s2;let qz:Paired (PrAt (af H' T' (.tup [.int (i:Int),.int v]))) as ((lJ left x).take i):=pr.mono λ_ _ z=>s2 _ _ z
  show⟨T',_,O,aD aj,O,_,_,O,_,_,O,O,?_⟩;generalize af H' T' (.tup [.int (i:Int),.int v])=H2 at bo qz⊢;show¬⟨_,O,(i:Int),O,a,_,O,ag (bo _ _ ha),λS hS=>?_⟩;rw[Gk];let s3:=ar hS (.lst ⇑(x.take i));show⟨S,_,O,ag aj,_,_,O,O,_,O,aK,λt ht=>?_⟩;let s4:=s3.trans (ar ht (.tup [.int (left+(x.take i).sum),.int v]));show⟨bo.trans s4,⟨_,_,O⟩,as++[t],by rw[qD];rfl,?_⟩;let ec:(lJ left x)[i]?=!(left+(x.take i).sum,v):=by
   unfold lJ;rw[qJ,xA hi];show some (left+(x.take i).sum,x.getD i 0)=_;rw[at_getD ev]
  rw[qP,ec];show(qz.mono λ_ _ z=>s4 _ _ z).snoc aj
 .ext ys ae H' ⟨s1,_,as,rfl,pr⟩ D hD;rw[qH (by rw[OC,qA];show qG _)]at pr;show q D _ (s1.free hD) (s1.trans (ar hD _)) ⟨as,aj,pr.mono λ_ _ z=>ar hD _ _ _ z⟩
def qcu(F:Fu K "even_columns" P8 fn fd)(T:bO mg):(~~~0) 1 fn fd ["wide", "columns"] Gi:=by
 rcases F.go ["wide", "columns", "each", "rest"] with⟨wd,cols,rfl,c1,c6,q⟩;show⟨_,(aw (sv 2 (aG pY '0' '1'))
  (aw (sv 3 (aG dC '0' (aG fe '2' '1')))
  (aA (aH (cm ["column"] ["each", "rest"] [2,3] (r1 T.range '1') (nv 0) bj (kE (tc mh '0' '2') (aG bi '1' ao) '1')))))),?_⟩
 show¬⟨_,_,O,O,⟨(),()⟩,_,O,_,O,_,O,_,_,O,O,.inr ⟨(),()⟩,_,_,O,O,_,O,_,O,(),(),jO (n:=cols.toNat) (λi ys ae H'=>H'=H/\(∃z,ae=[z,!.int (wd / cols),!.int (wd-wd / cols*cols)])/\ys=⇑((c9 wd cols).take i)) (aR ()) ⟨O,⟨none,O⟩,O⟩ ?_ ?_⟩
 .ext i ys ae H' hi ⟨rfl,⟨z,rfl⟩,rfl⟩;rw[show(0:Int)+(i:Int)=(i:Int)from uE _];let ec:(c9 wd cols)[i]?=!(if(i:Int)<wd-wd / cols*cols then wd / cols+1 else wd / cols):=by
   unfold c9;rw[qJ,xA hi];rfl
  show¬⟨_,_,O,O,_,O,?_⟩;show cp (λc=>?_) (λc=>?_)
  .show-⟨_,_,O,O,O,⟨_,O⟩,?_⟩;rw[qP,ec,qZ (rH c),qD];rfl
  .show-⟨O,⟨_,O⟩,?_⟩;rw[qP,ec,qX (λz=>c (qQ z)),qD];rfl
 .ext ys ae H' ⟨rfl,_,rfl⟩ D hD;rw[qH (by rw[Gf];show qG _)];show q D _ hD (ar hD _) aj
def qcv(F:Fu K "cell_spans" P9 fn fd)(T:bO mg)(U:zf mg)(qcw:⋯ 1 "even_columns" ["wide", "columns"] Gi)(zg:⋯ 3 "grid_places" ["columns", "cells"] ww):(~~~0) 4 fn fd ["room", "columns", "cells"] Gx:=by
 rcases F.go ["room", "columns", "cells", "wides", "spans", "place", "left"] with⟨r,C,rm,cols,cs,rfl,hR,r0,lC,lV,qcx,c1,c6,q⟩;let⟨_,m9⟩:=U.left;let⟨_,iW⟩:=U.wide;let⟨_,si⟩:=U.column;let⟨_,HI⟩:=U.span;show⟨_,(aw (sv 3 (cF qcw hr (a2 (px aI '0' (gi iW)) '1')))
  (aw (sv 4 (a0 bE))
  (aw (fv (a6 (cF zg hr (a2 '1' '2'))) (nv 5)
  (aw (sv 6 (aG bi (px aI '0' (gi m9)) (cb (iN (by rfl)) T.sum fZ (a1 (kJ nZ '3' nY (jc (px aI '5' (gi si))))))))
  (aA (cq (ap '4' (br (a2 '6' (cb (iN (by rfl)) T.sum fZ (a1 (kJ nZ '3' (jc (px aI '5' (gi si))) (jc (aG bi (px aI '5' (gi si)) (px aI '5' (gi HI))))))))))))))
  (aA (aH '4'))))),?_⟩
 show-⟨r,_,_,_,O,O,aD hR,O,_,O,rm.2,cols,O,c1,c6,λW H1 hW s1 ir=>?_⟩;show⟨aK,λL hL=>?_⟩;let s2:=ar hL (.lst []);let bG:af H1 L (.lst []) L=!.lst ↑([]:TQ):=aj;let L0:H L=none:=s1.free hL;let bo:=s1.trans s2;let CN:LI (af H1 L (.lst [])) W (c9 rm.2 cols):=s2 _ _ ir;generalize af H1 L (.lst [])=H2 at s2 bG bo CN⊢;obtain⟨cn,rfl⟩:∃cn:Nat,cols=(cn:Int):=⟨cols.toNat,()⟩;show¬⟨C,cn,cs,O,lC.tup bo,lV,qcx,(),(),λM H3 ps hM s3 lM pd lR=>?_⟩;let cH:=bo.trans s3;let lp:=pd.len;let⟨as,yl,pr⟩:=lM;let la:=qS pr;let LM:M≠L:=λz=>by rw[z]at hM;rw[bG]at hM;cases hM
 show⟨M,O,⟨_,ag yl⟩,i9 (xs:=↑as) (λi σ H'=>Keep1 L H3 H'/\(∃z5 z6,σ=[!.ref r,!.int (cn:Int),!.ref C,!.ref W,!.ref L,z5,z6])/\∃z,LstAt PrAt H' L z/\z⁻¹=i/\SpB (6*rm.2+6) z) ⟨KeepN.refl,⟨none,none,O⟩,[],⟨[],s3 _ _ bG,.nil⟩,O,λs hs=>nomatch hs⟩ ?_ ?_ ?_⟩
 .ext i σ H' hi ⟨k1,_⟩;show ag (k1 _ _ LM yl)
 .ext i y σ H' hy ⟨k1,⟨z5,z6,rfl⟩,zz,⟨bs,re,kr⟩,lz,zb⟩;let⟨a,ea,rfl⟩:=cE hy;let⟨p,pe,ha⟩:=bN pr ea;let pk:=lR p (qL pe);let nL:∀{b:Addr} {xs:List V},H3 b=!.tup xs->b≠L:=λe z=>by rw[z,s3 _ _ bG]at e;cases e
  let hV:PlAt H' a p:=k1 _ _ (nL ha) ha;let hR':PrAt H' r rm:=k1 _ _ (nL (cH _ _ hR)) (cH _ _ hR);let WL:W≠L:=λz=>by
   rw[z]at ir;rw[show H1 L=_ from ir]at hL;cases hL
  let Qb:LI H' W (c9 rm.2 cn):=k1 _ _ WL (s3 _ _ CN);let cle:p.c+p.s<=cn:=pk.2.2.2.2.2;let cn0:(0:Int)<(cn:Int):=()
  show-⟨r,_,_,_,O,O,aD hR',O,_,O,_,O,a,_,_,_,O,O,aD hV,O,(p.c:Int),O,W,_,O,ag Qb,λS hS=>?_⟩;rw[Gk];let s4:=ar hS (.lst ⇑((c9 rm.2 cn).take p.c));show⟨S,_,O,ag aj,_,_,O,O,?_⟩;show aZ 6 (V.int (rm.1+((c9 rm.2 cn).take p.c).sum)) _ _ _;generalize rm.1+((c9 rm.2 cn).take p.c).sum=x1;let k4:=k1.trans s4.keep;let CO:PlAt (af H' S (.lst ⇑((c9 rm.2 cn).take p.c))) a p:=s4 _ _ hV;let Qc:LI (af H' S (.lst ⇑((c9 rm.2 cn).take p.c))) W (c9 rm.2 cn):=s4 _ _ Qb;let dA:=s4 _ _ re;let Qd:Paired (PrAt (af H' S (.lst ⇑((c9 rm.2 cn).take p.c)))) bs zz:=kr.mono λ_ _ z=>s4 _ _ z
  generalize af H' S (.lst ⇑((c9 rm.2 cn).take p.c))=H4 at k4 CO Qc dA Qd⊢;show-⟨.inl ⟨O,_,ag dA⟩,_,O,_,O,_,O,a,_,_,_,O,O,aD CO,O,(p.c:Int),O,_,O,a,_,_,_,O,O,aD CO,O,_,O,a,_,_,_,O,O,aD CO,O,_,_,O,O,((p.c+p.s:Nat):Int),by show V.int ((p.c:Int)+(p.s:Int))=_;rw[show((p.c+p.s:Nat):Int)=(p.c:Int)+(p.s:Int) by omega],W,_,O,ag Qc,λS2 zh=>?_⟩;rw[qaq () (by rw[Gf];omega),show p.c+p.s-p.c=p.s by omega];let s5:=ar zh (.lst ⇑(((c9 rm.2 cn).drop p.c).take p.s));show⟨S2,_,O,ag aj,aK,λt ht=>?_⟩;let sb:=sum_b (B:=rm.2+1) () (l:=((c9 rm.2 cn).drop p.c).take p.s) (n:=6) (by rw[xO,uL,Gf];omega) λv hv=>qaO r0 cn0 v (uS (yK hv))
  generalize (((c9 rm.2 cn).drop p.c).take p.s).sum=x2 at sb⊢;let s6:=s5.trans (ar ht (.tup [.int x1,.int x2]));let zi:af (af H4 S2 (.lst ⇑(((c9 rm.2 cn).drop p.c).take p.s))) t (.tup [.int x1,.int x2]) t=!.tup [.int x1,.int x2]:=aj;let k6:=k4.trans s6.keep;let kq:=s6 _ _ dA;let Qe:Paired (PrAt (af (af H4 S2 (.lst ⇑(((c9 rm.2 cn).drop p.c).take p.s))) t (.tup [.int x1,.int x2]))) bs zz:=Qd.mono λ_ _ z=>s6 _ _ z
  generalize af (af H4 S2 (.lst ⇑(((c9 rm.2 cn).drop p.c).take p.s))) t (.tup [.int x1,.int x2])=H6 at zi k6 kq Qe⊢;let sj:=qS kr;let hi:i<as⁻¹:=(qF.mp ea).1;show⟨L,_,_,O,O,kq,aR (by rw[qA,sj,lz];omega),?_⟩;let tl:=Tups.lst (o:=.lst (↑bs++[.ref t])) kq;show⟨λb o n e=>by rw[aF n];show k6 b o n e,⟨_,_,O⟩,zz++[(x1,x2)],⟨bs++[t],by rw[aj,qD];rfl,?_⟩,by rw[qI,lz];rfl,λs hs=>?_⟩
  rotate_left
  .rcases rE.mp hs with z | z
   .show zb s z
   .rw[rQ.mp z];show⟨sb.1,by show x2<=_;omega⟩
  show(Qe.mono λ_ _ z=>tl _ _ z).snoc (tl _ _ zi)
 .ext σ H' ⟨k1,⟨z5,z6,rfl⟩,z,lL,lz,zb⟩;show-⟨q L z H' L0 (λb o e=>k1 _ _ (λz=>by rw[z,L0]at e;cases e) (cH _ _ e)) (by rw[lz,qA,la,lp]) zb lL⟩
def qcy(F:Fu K "aside_span" Qa fn fd)(T:bO mg)(U:zf mg)(cA:⋯ 1 "look_at" ["looks", "node", "word"] fK):(~~~0) 2 fn fd ["looks", "room", "aside"] Gj:=by
 rcases F.go ["looks", "room", "aside", "wide"] with⟨p,r,m,ls,rm,rfl,lk,hR,hm,cy,q⟩;let⟨_,m9⟩:=U.left;let⟨_,iW⟩:=U.wide;let l13:∀l∈ls,l⁻¹=13:=λl h=>(cy l h).len
 let lv:aC ls m 10=ls[m].getD 10 0:=by unfold aC;rw[qB hm];rfl
 let sd:=(cy _ (rJ hm)).side;rw[<-lv]at sd;show⟨_,(aw (sv 3 (cb (tX (by rfl)) T.min mI (a2 (cF cA hr (a3 '0' '2' aQ)) (aG DO (px aI '1' (gi iW)) ao))))
  (aw (a7 (tc bv (cF cA hr (a3 '0' '2' aQ)) ao) (aA (aH (br (a2 (px aI '1' (gi m9)) '3')))) bg)
  (aA (aH (br (a2 (aG dC (aG bi (px aI '1' (gi m9)) (px aI '1' (gi iW))) '3') '3')))))),?_⟩
 show¬⟨p,m,11,_,ls,O,lk,hm,l13,{},Hz,_,O,r,_,_,_,O,O,aD hR,O,_,_,O,O,⟨{},{}⟩,_,_,O,?_⟩;rw[HB];show¬⟨p,m,10,_,ls,O,lk,hm,l13,{},qcn,O,_,O,?_⟩;rcases sd with e | e
 .rw[qQ (show V.int (aC ls m 10)=V.int 0 by rw[e])];show bL ⟨_,O,r,_,_,_,O,O,aD hR,O,_,O,aK,λt ht=>q t _ ht (ar ht _) ?_⟩;show af H t _ t=_;rw[aj,e,Int.zero_mul,Int.add_zero];rfl
 .show iH (show¬V.int (aC ls m 10)=V.int 0 from λz=>by have:=V.int.inj z;omega) ⟨_,O,r,_,_,_,O,O,aD hR,O,_,O,r,_,_,_,O,O,aD hR,O,_,_,O,O,_,O,_,_,O,O,_,O,aK,λt ht=>q t _ ht (ar ht _) ?_⟩;show af H t _ t=_;rw[aj,e,Int.one_mul];unfold j6;rw[show rm.1+(rm.2-min (aC ls m 11) (rm.2 / 2))=rm.1+rm.2-min (aC ls m 11) (rm.2 / 2) by omega]
end K31
namespace K31
open L2 Bk Gen Gd Shr
abbrev Qf:=top 85
abbrev Qg:=top 83
abbrev Qh:=top 84
abbrev Qi:=top 82
def qcz(F:Fu K "had_below" Qf f fd)(T:BnS mg):(~~~0) 1 f fd ["level", "floors", "roofs", "weights", "multiple"] Cn:=by
 rcases F.go ["level", "floors", "roofs", "weights", "multiple", "told", "floor", "roof", "weight"] with⟨lev,M,Bd,f,r,w,F,R,W,rfl,hf,hR,hw,ok,iF,iR,M0,M9,q⟩;show⟨_,(aw (sv 5 (a0 bE))
  (aw (fv (qaE (by rfl) T.zip (a3 '1' '2' '3')) (i6 (by rfl) (bD (nv 6) (bD (nv 7) (bD (nv 8) dQ))))
  (aA (cq (ap '5' (cb (tX (by rfl)) T.min mI (a2 (cb (mj (by rfl)) T.max dP (a2 (dM dN (aG pY (aG fe (dM dN '0') '8') '4')) '6')) '7'))))))
  (aA (aH '5')))),?_⟩
 show⟨aK,λL hL=>?_⟩;let s1:=ar hL (.lst []);let bG:LI (af H L (.lst [])) L []:=aj;generalize af H L (.lst [])=H1 at s1 bG⊢;let n9:=ok.n;show¬⟨_,O,f,r,w,O,⟨_,ag (s1 _ _ hf)⟩,⟨_,ag (s1 _ _ hR)⟩,⟨_,ag (s1 _ _ hw)⟩,qaG (xs:=F.map V.int) (ys:=R.map V.int) (zs:=W.map V.int) (by rw[qA,qA,ok.lr]) (by rw[qA,qA,ok.lw])
  (λi σ H'=>Same H H'/\(∃z6 z7 z8,σ=[!.int lev,!.ref f,!.ref r,!.ref w,!.int M,!.ref L,z6,z7,z8])/\∃x:TN,LI H' L x/\x⁻¹=i/\InB Bd x) ⟨s1,⟨none,none,none,O⟩,[],bG,O,λv hv=>nomatch hv⟩ ?_ ?_ ?_⟩
 .ext i σ H' hi ⟨s2,_⟩;show⟨ag (s2 _ _ hf),ag (s2 _ _ hR),ag (s2 _ _ hw)⟩
 .rintro i x y z σ H' T' hx hy hz hT ⟨s2,⟨z6,z7,z8,rfl⟩,l,h2,ll,il⟩;let⟨a,ea,rfl⟩:=oV hx;let⟨b,eb,rfl⟩:=oV hy;let⟨c,ec,rfl⟩:=oV hz;let hi:i<F.length:=(qF.mp ea).1;let wi:=ok.w i;rw[at_getD ec 1]at wi;let s3:=s2.trans (ar hT (.tup [.int a,.int b,.int c]));let fw:af H' T' (.tup [.int a,.int b,.int c]) T'=!.tup [.int a,.int b,.int c]:=aj;let h3:LI (af H' T' (.tup [.int a,.int b,.int c])) L l:=ar hT _ _ _ h2;generalize af H' T' (.tup [.int a,.int b,.int c])=H3 at s3 fw h3⊢;show⟨T',_,O,aD fw,O,_,_,O,_,_,O,_,_,O,O,_,O,.inl ⟨O,_,ag h3⟩,_,O,_,O,_,O,_,_,O,O,.inr ⟨(),()⟩,_,O,_,_,O,O,⟨M0,()⟩,_,O,_,O,_,_,O,_,O,_,_,O,L,_,_,O,O,h3,?_,?_⟩
  .rw[qA,ll];show aR ()
  .show⟨gZ s3 hL,⟨_,_,_,O⟩,l++[if b<(if a > -(-lev*c / M)then a else -(-lev*c / M))then b else(if a > -(-lev*c / M)then a else -(-lev*c / M))],?_,by rw[qI,ll];rfl,il.snoc ?_ ?_⟩;show af H3 L _ L=_;rw[aj,qD];rfl
   .let ia:=iF.at ea;let ib:=iR.at eb
    split<;>split<;>omega
   .let ia:=iF.at ea;let ib:=iR.at eb
    split<;>split<;>omega
 .ext σ H' ⟨s2,⟨z6,z7,z8,rfl⟩,l,h2,ll,il⟩;show-⟨q L l H' hL s2 h2 (by rw[ll,qA]) il⟩
def qcA(F:Fu K "common_multiple" Qg f fd):(~~~0) 1 f fd ["weights"] Gp:=by
 rcases F.go ["weights", "multiple", "weight", "step"] with⟨w,W,rfl,hw,ok,q⟩;show⟨_,(aw (sv 1 ao)
  (aw (fv (a6 '0') (nv 2)
  (aw (sv 3 '1')
  (aA (AR vK (tc iE (aG mf '1' '2') ao) (aA (av 1 '3' DH))))))
  (aA (aH '1')))),?_⟩
 show-⟨w,O,⟨_,ag hw⟩,i9 (xs:=W.map V.int) (λi σ H'=>H'=H/\∃(M:Int) (z2 z3:Option V),σ=[!.ref w,!.int M,z2,z3]/\0<M/\M∣2520) ⟨O,1,none,none,O,{},⟨2520,O⟩⟩ ?_ ?_ ?_⟩
 .ext i σ H' hi ⟨rfl,_⟩;show ag hw
 .rintro i x σ H' hx ⟨rfl,M,z2,z3,rfl,M0,M9⟩;let⟨c,ec,rfl⟩:=oV hx;let wi:=ok i;rw[at_getD ec 1]at wi;show-⟨λm σ H2=>H2=H'/\∃t:Nat,m=c.toNat-t/\σ=[!.ref w,!.int (M*((t:Int)+1)),!.int c,!.int M]/\∀s:Nat,s<t->M*((s:Int)+1) % c≠0,-⟨0,O,by rw[show M*(((0:Nat):Int)+1)=M by omega];rfl,λs hs=>qT hs (xP _)⟩,?_⟩;ext m σ H2 ⟨rfl,t,rfl,rfl,ne⟩;let te:=M8 M0 () ne;show¬⟨_,_,O,O,(show 0<c by omega),O,_,O,?_⟩
  by_cases c0:M*((t:Int)+1) % c=0
  .rw[qQ (show V.int (M*((t:Int)+1) % c)=V.int 0 by rw[c0])];show ba ⟨O,M*((t:Int)+1),_,_,O,Int.mul_pos M0 (),qaK M0 M9 (qaL wi.1 wi.2) ne c0⟩
  .rw[rB (show¬V.int (M*((t:Int)+1) % c)=V.int 0 from λz=>c0 (V.int.inj z))];let Qj:∀s:Nat,s<t+1->M*((s:Int)+1) % c≠0:=λs hs=>by
    rcases yD.mp hs with h | h
    .show ne s h
    .rw[h];show c0
   let te':=M8 M0 () Qj;show bL ⟨λσ H3=>H3=H2/\σ=[!.ref w,!.int (M*(((t+1:Nat):Int)+1)),!.int c,!.int M],?_,?_⟩
   .ext σ H3 ⟨rfl,rfl⟩;show⟨c.toNat-(t+1),(),O,t+1,O,O,Qj⟩
   .show¬⟨_,_,O,O,O,?_⟩;let e:M*((t:Int)+1)+M=M*(((t+1:Nat):Int)+1):=by
     rw[show(((t+1:Nat):Int)+1)=((t:Int)+1)+1 by omega,Int.mul_add M ((t:Int)+1) 1,Int.mul_one]
    rw[<-e];rfl
 .ext σ H' ⟨rfl,M,z2,z3,rfl,M0,M9⟩;show-⟨q M M0 (Int.le_of_dvd {} M9)⟩
def qcB(F:Fu K "last_level" Qh f fd)(T:BnS mg)(HS:⋯ 1 "had_below" ["level", "floors", "roofs", "weights", "multiple"] Cn):(~~~0) 2 f fd ["width", "floors", "roofs", "weights", "multiple"] Gq:=by
 rcases F.go ["width", "floors", "roofs", "weights", "multiple", "low", "high", "middle"] with⟨wd,M,Bd,f,r,w,F,R,W,rfl,hf,hR,hw,ok,iF,iR,M0,M9,ne,q⟩;obtain⟨top,ht,hm⟩:∃top,top∈R/\∀x∈R,x<=top:=OB ne;show⟨_,(aw (sv 5 ao)
  (aw (sv 6 (aG fe (cb (mK (by rfl)) T.max dP (a1 '2')) '4'))
  (aw (AR vK (tc tQ (aG dC '6' '5') ao) (aw (sv 7 (aG DO (aG bi '5' '6') ao))
  (aA (a7 (tc DP (cb (iN (by rfl)) T.sum fZ (a1 (cF HS hr (aJ '7' (aJ '1' (a3 '2' '3' '4')))))) '0') (aA (sv 5 '7')) (aA (sv 6 '7'))))))
  (aA (aH '5'))))),?_⟩
 show-⟨r,R,top,O,ag hR,ht,hm,_,O,_,_,O,O,.inr ⟨(),()⟩,λm σ H'=>Same H H'/\∃(lo hi:Int) (z:Option V),σ=[!.int wd,!.ref f,!.ref r,!.ref w,!.int M,!.int lo,!.int hi,z]/\m=(hi-lo).toNat,⟨_,Same.refl H,0,top*M,none,O,O⟩,?_⟩;ext m σ H' ⟨s1,lo,hi,z,rfl,rfl⟩;show¬⟨_,_,O,O,_,_,O,O,_,O,?_⟩;show cp (λc=>?_) (λc=>?_)
 .let c':hi-lo>1:=rH c;show⟨λσ H'=>Same H H'/\∃(zn bW:Int) (z:Option V),σ=[!.int wd,!.ref f,!.ref r,!.ref w,!.int M,!.int zn,!.int bW,z]/\bW-zn<hi-lo,?_,?_⟩
  .ext σ H' ⟨s2,zn,bW,z,rfl,d⟩;show⟨(bW-zn).toNat,(),s2,zn,bW,z,O,O⟩
  show¬⟨_,_,O,O,_,_,O,O,⟨{},{}⟩,_,O,_,O,_,O,_,O,_,O,_,M,Bd,f,r,w,F,R,W,O,s1 _ _ hf,s1 _ _ hR,s1 _ _ hw,ok,iF,iR,M0,M9,λt x H2 oF s2 h2 _ _=>?_⟩;show⟨t,_,O,ag h2,_,O,_,_,O,O,_,O,?_⟩;show cp (λd=>?_) (λd=>?_)
  .show-⟨s1.trans s2,(lo+hi) / 2,hi,_,O,()⟩
  .show-⟨s1.trans s2,lo,(lo+hi) / 2,_,O,()⟩
 .show-⟨q lo H' s1⟩
def qcC(F:Fu K "shares" Qi f fd)(T:BnS mg)(qcD:⋯ 1 "common_multiple" ["weights"] Gp)(qcE:⋯ 2 "last_level" ["width", "floors", "roofs", "weights", "multiple"] Gq)(HS:⋯ 1 "had_below" ["level", "floors", "roofs", "weights", "multiple"] Cn):(~~~0) 3 f fd ["width", "floors", "roofs", "weights"] Gr:=by
 rcases F.go ["width", "floors", "roofs", "weights", "multiple", "level", "told", "left", "place", "weight"] with⟨wd,Bd,f,r,w,F,R,W,rfl,hf,hR,hw,ok,iF,iR,q⟩;show⟨_,(aw (a7 (tc KR (cb (iN (by rfl)) T.sum fZ (a1 '1')) '0') (aA (aH (dS pU (by rfl) T.list jP (a1 '1')))) bg)
  (aw (a7 (tc DP (cb (iN (by rfl)) T.sum fZ (a1 '2')) '0') (aA (aH (dS pU (by rfl) T.list jP (a1 '2')))) bg)
  (aw (sv 4 (cF qcD hr (a1 '3')))
  (aw (sv 5 (cF qcE hr (aJ '0' (aJ '1' (a3 '2' '3' '4')))))
  (aw (sv 6 (cF HS hr (aJ '5' (aJ '1' (a3 '2' '3' '4')))))
  (aw (sv 7 (aG dC '0' (cb (iN (by rfl)) T.sum fZ (a1 '6'))))
  (aw (fv (vg (by rfl) T.enumerate (a1 '3')) (i6 (by rfl) (bD (nv 8) (bD (nv 9) dQ)))
  (aA (a7 (PW.pt (iC (tc tQ '7' ao) (iC (tc mh (px aE '6' '8') (px aE '2' '8')) (jH (tc bv (aG fe (px aE '6' '8') '4') (aG fe '5' '9')))))) (aw (U9 '6' '8' qaI ao DH pS)
  (aA (av 7 ao Vb))) bg)))
  (aA (aH '6'))))))))),?_⟩
 show-⟨f,F,O,ag hf,_,O,_,_,O,O,_,O,?_⟩;show cp (λc=>?_) (λc=>?_)
 .show-⟨f,_,O,.inl (ag hf),λt ht=>q t F _ ht (ar ht _) aj O iF⟩
 let c':¬F.sum≥wd:=λz=>c (qQ z)
 show-⟨r,R,O,ag hR,_,O,_,_,O,O,_,O,?_⟩;show cp (λd=>?_) (λd=>?_)
 .show-⟨r,_,O,.inl (ag hR),λt ht=>q t R _ ht (ar ht _) aj ok.lr iR⟩
 let d':¬R.sum<=wd:=λz=>d (qQ z)
 let ne:R≠[]:=λz=>by
  let l:=ok.lr;rw[z]at l d';have:F=[]:=rR l.symm;rw[this]at c';let e:([]:TN).sum=0:=rfl;omega
 show-⟨w,W,O,hw,ok.w,λM M0 M9=>?_⟩;show¬⟨_,O,_,O,_,O,wd,M,Bd,f,r,w,F,R,W,O,hf,hR,hw,ok,iF,iR,M0,M9,ne,λlev H1 s1=>?_⟩;show¬⟨_,O,_,O,_,O,lev,M,Bd,f,r,w,F,R,W,O,s1 _ _ hf,s1 _ _ hR,s1 _ _ hw,ok,iF,iR,M0,M9,λt x H2 ht s2 h3 lx ix=>?_⟩;let t0:H t=none:=s1.free ht;let bo:=s1.trans s2;show¬⟨t,_,O,ag h3,_,_,O,O,_,O,w,O,⟨_,ag (bo _ _ hw)⟩,Fi (xs:=W.map V.int) (λk σ H'=>Same H H'/\(∃(u:Int) (z8 z9:Option V),σ=[!.int wd,!.ref f,!.ref r,!.ref w,!.int M,!.int lev,!.ref t,!.int u,z8,z9])/\∃y:TN,LI H' t y/\y⁻¹=F.length/\InB Bd y) ⟨bo,⟨_,none,none,O⟩,x,h3,lx,ix⟩ ?_ ?_ ?_⟩
 .ext i σ H' hi ⟨s3,_⟩;show ag (s3 _ _ hw)
 .ext k z σ H' T' hx hT ⟨s3,⟨u,z8,z9,rfl⟩,y,h4,ly,iy⟩;let⟨c,ec,rfl⟩:=oV hx;let hk:k<F.length:=by rw[<-ok.lw];show(qF.mp ec).1
  let wk:=ok.w k;rw[at_getD ec 1]at wk;let s4:=s3.trans (ar hT (.tup [.int (k:Int),.int c]));let fw:af H' T' (.tup [.int (k:Int),.int c]) T'=!.tup [.int (k:Int),.int c]:=aj;let h5:LI (af H' T' (.tup [.int (k:Int),.int c])) t y:=ar hT _ _ _ h4;generalize af H' T' (.tup [.int (k:Int),.int c])=H3 at s4 fw h5⊢;let gy:y[k]?=!y.getD k 0:=by rw[qV,qB (by rw[ly];show hk)];rfl
  let gR:R[k]?=!R.getD k 0:=by rw[qV,qB (by rw[ok.lr];show hk)];rfl
  let gk:(⇑y)[k]?=!.int (y.getD k 0):=by
   rw[qJ,qV,qB (by rw[ly];show hk)];rfl
  let Qk:bI ⇑y (k:Int)=!.int (y.getD k 0):=eQ gk;let at2:bI (R.map V.int) (k:Int)=!.int (R.getD k 0):=qaJ (by rw[ok.lr];show hk) 0;show⟨T',_,O,aD fw,O,_,_,O,_,_,O,O,_,O,_,_,O,O,_,O,?_⟩;show cp (λe1=>?_) (λe1=>ba ⟨s4,⟨_,_,_,O⟩,y,h5,ly,iy⟩);show¬⟨t,_,_,_,O,O,ag h5,Qk,_,O,_,O,r,_,_,_,O,O,ag (s4 _ _ hR),at2,_,_,O,O,_,O,?_⟩;show cp (λe2=>?_) (λe2=>ba ⟨s4,⟨_,_,_,O⟩,y,h5,ly,iy⟩);show¬⟨t,_,_,_,O,O,ag h5,Qk,_,O,_,_,O,O,.inr ⟨(),()⟩,_,O,_,O,_,_,O,O,.inr ⟨(),()⟩,O,_,O,?_⟩;show cp (λe3=>?_) (λe3=>⟨s4,⟨_,_,_,O⟩,y,h5,ly,iy⟩);show¬⟨t,_,k,_,O,O,ag h5,gk,_,_,O,O,t,_,k,k,O,O,h5,?_,?_⟩
  .rw[qA,ly];show Gc hk
  .show-⟨_,_,O,O,gZ s4 t0,⟨_,_,_,O⟩,y.set k (y.getD k 0+1),?_,by rw[uG,ly],iy.set k ?_ ?_⟩;show af H3 t _ t=_;rw[aj,List.map_set]
   .let i1:=iy.at gy;omega
   .let uz:y.getD k 0<R.getD k 0:=rH e2;let i2:=iR.at gR;omega
 .ext σ H' ⟨s3,⟨u,z8,z9,rfl⟩,y,h4,ly,iy⟩;show-⟨q t y H' t0 s3 h4 ly iy⟩
end K31
namespace K31
open L2 Bk Gen Gd Bd Shr Sp0
abbrev Ql:=top 90
abbrev Qm:=top 89
def qcF(F:Fu K "held_spans" Ql fn fd)(T:bO mg)(U:zf mg)(lQ:mg "KINDS_OF_PIECES" = !.ref gI)(KP:∀H:Hp,SqT K H gI (pieceKinds.map V.str))(jr:⋯ 1 "holds" ["book", "node"] mU)(cA:⋯ 1 "look_at" ["looks", "node", "word"] fK)(CP:⋯ 2 "room_of" ["looks", "spans", "node"] Cf)(qcG:⋯ 3 "floors_of" ["looks", "bounds", "held"] (xx cG))(qcH:⋯ 4 "roofs_of" ["looks", "bounds", "held"] (xx gb))(qcI:⋯ 2 "weights_of" ["looks", "held"] Gg)(qcJ:⋯ 3 "shares" ["width", "floors", "roofs", "weights"] Gr)(qcK:⋯ 1 "one_behind_the_other" ["left", "wides"] Gh)(HU:⋯ 2 "cells_of" ["looks", "held"] Cg)(qcL:⋯ 4 "cell_spans" ["room", "columns", "cells"] Gx)(qcM:⋯ 2 "aside_span" ["looks", "room", "aside"] Gj) :
  (~~~0) 5 fn fd ["book", "looks", "bounds", "spans", "node"] Gy:=by
 rcases F.go ["book", "looks", "bounds", "spans", "node", "kind", "held", "room", "wides"] with⟨M,Bd,B,p,L,S,n,ds,ls,bs,sp,rfl,I,lS,jv,hn,cx,hM,sb,q⟩;let⟨_,eY⟩:=U.kind;let⟨_,m9⟩:=U.left;let⟨_,iW⟩:=U.wide;let le:=cx.le;let l13:=cx.l13;let nl:n<ls⁻¹:=by rw[cx.ll];show hn
 let ns:n<sp⁻¹:=by rw[jv];show hn
 let rb:∀m,m<ds⁻¹->0<=(dI ls sp m).2/\(dI ls sp m).2<=Bd:=λm hm=>by
  let⟨l,_,ok,lv⟩:=cx.look hm;show Gu (by rw[lv];show ok.ins) (sb.at (by rw[jv];show hm))
 let rn:=rb n hn;let⟨ab,hB,nd⟩:=I.bk;obtain⟨d,ed⟩:∃d,ds[n]?=!d:=⟨_,qB hn⟩;let⟨c,ec,nc⟩:=nd.get ed;let⟨m',s',hc,_⟩:=nc.ex;show⟨_,(aw (sv 5 (px aI (px aE '0' '4') (gi eY)))
  (aw (sv 6 (cF jr hr (a2 '0' '4')))
  (aw (a7 (tc AY '5' (gr lQ)) (aA (aH (cm ["one"] ["looks", "spans"] [1,3] (a6 '6') (nv 0) bj (cF CP hr (a3 '1' '2' ao))))) bg)
  (aw (sv 7 (cF CP hr (a3 '1' '3' '4')))
  (aw (a7 (tc bv '5' aQ) (aw (sv 8 (cF qcJ hr (aJ (px aI '7' (gi iW)) (a3 (cF qcG hr (a3 '1' '2' '6')) (cF qcH hr (a3 '1' '2' '6')) (cF qcI hr (a2 '1' '6'))))))
  (aA (aH (cF qcK hr (a2 (px aI '7' (gi m9)) '8'))))) bg)
  (aw (a7 (tc bv '5' aQ) (aA (aH (cF qcL hr (a3 '7' (cF cA hr (a3 '1' '4' aQ)) (cF HU hr (a2 '1' '6')))))) bg)
  (aA (aH (cm ["one"] ["room", "looks", "book"] [7,1,0] (a6 '6') (nv 0) bj (kE (tc bv (px (r:=bU K) aI (px (r:=cI K) aE '3' '0') (gi eY)) aQ) (cF qcM hr (a3 '2' '1' '0')) '1')))))))))),?_⟩
 show¬⟨B,_,_,_,O,O,ag hB,aU ec,c,_,_,_,O,O,aD hc,O,_,O,_,O,B,n,ds,_,O,⟨ab,hB,nd⟩,(),hn,λK0 H1 hK s1 bX=>?_⟩;let kl:=lE ds n;let kz:(⇑((ay ds n).map λ(j:Nat)=>(j:Int)))⁻¹<sizeLine:=by rw[qA,qA];show aR ()
 let kin:∀m∈ay ds n,m<ls⁻¹:=λm hm=>by rw[cx.ll];show cZ hm
 let Qn:∀m∈ay ds n,m<ls⁻¹/\m<bs⁻¹:=λm hm=>⟨kin m hm,by rw[cx.bl];show cZ hm⟩
 dsimp only[aZ];show-⟨gI,_,O,.inr (KP _),O,qg _,_,O,?_⟩;rw[qX qU,rf]
 by_cases cM:d.k=.text\/d.k=.head\/d.k=.note
 .show gP cM ⟨_,O,K0,O,⟨_,ag bX⟩,bx (xs:=⇑((ay ds n).map λ(j:Nat)=>(j:Int))) (λi ys ae H'=>Same H1 H'/\(∃z,ae=[z,!.ref p,!.ref S])/\∃as,ys=↑as/\Paired (PrAt H') as (((ay ds n).map λ_=>dI ls sp 0).take i)) kz ⟨Same.refl _,⟨none,O⟩,[],O,.nil⟩ ?_ ?_ ?_⟩
  .ext i ys ae H' hi ⟨s2,_,as,rfl,pr⟩;show ag (s2 _ _ bX)
  .ext i y ys ae H' hy ⟨s2,⟨z,rfl⟩,as,rfl,pr⟩;let⟨m,em,rfl⟩:=eD hy;let bo:=s1.trans s2;show¬⟨p,S,0,ls,sp,O,cS bo I.lk,ge bo lS,by rw[cx.ll];show cx.pos,by rw[jv];show cx.pos,l13,λt gK ht s3 pt=>?_⟩;show⟨s2.trans s3,⟨_,O⟩,as++[t],by rw[qD];rfl,?_⟩;let e2:((ay ds n).map λ_=>dI ls sp 0)[i]?=!dI ls sp 0:=by rw[qJ,em];rfl
   rw[qP,e2];show(pr.mono λ_ _ z=>s3 _ _ z).snoc pt
  .ext ys ae H' ⟨s2,_,as,rfl,pr⟩ D hD;rw[qH (by rw[qA,qA,qA];show qG _)]at pr;show q D _ _ ((s1.trans s2).free hD) ((s1.trans s2).trans (ar hD _)) (qA _) (λs hs=>by let⟨_,_,rfl⟩:=qO.mp hs;have:=rb 0 cx.pos;omega) ⟨as,aj,pr.mono λ_ _ z=>ar hD _ _ _ z⟩
 show iH cM ⟨_,O,_,O,_,O,p,S,n,ls,sp,O,cS s1 I.lk,ge s1 lS,nl,ns,l13,λr H2 CQ s2 hR=>?_⟩;let bo:=s1.trans s2;let fz:KL H2 K0 (ay ds n):=s2 _ _ bX;let lX:=cS bo I.lk;let Qo:=ge bo I.bd;dsimp only[aZ];show-⟨O,_,O,?_⟩
 by_cases hs:d.k=.shelf
 .show fT (bB d.k .shelf) hs ⟨_,O,r,_,_,_,O,O,aD hR,O,?_⟩;show¬⟨_,O,p,L,K0,_,ls,bs,O,lX,Qo,fz,(),Qn,l13,λf H3 hf s3 lf=>?_⟩;show¬⟨_,O,p,L,K0,_,ls,bs,O,cS s3 lX,ge s3 Qo,s3 _ _ fz,(),Qn,l13,λg H4 hg s4 lg=>?_⟩;let jq:=s3.trans s4;show¬⟨p,K0,_,ls,O,cS jq lX,jq _ _ fz,(),kin,l13,λv H5 hv s5 lv=>?_⟩;let s25:=jq.trans s5;show⟨_,Bd,f,g,v,_,_,_,O,(s4.trans s5) _ _ lf,s5 _ _ lg,lv,cx.ok n,InB.mono (cx.inF n).1 hM,InB.mono (cx.inF n).2 hM,λx y H6 hx s6 ly Qp iy=>?_⟩;let HV:=s25.trans s6;rw[qA]at Qp;show-⟨r,_,_,_,O,O,aD (HV _ _ hR),O,_,O,_,x,y,O,ly,(),λt H7 ht s7 lt=>?_⟩;show q t _ H7 ((bo.trans HV).free ht) ((bo.trans HV).trans s7) (by rw[OC];show Qp) ((SpB.behind iy).mono ()) lt
 show fU (bB d.k .shelf) hs ⟨_,O,O,_,O,?_⟩
 by_cases hg:d.k=.grid
 .show fT (bB d.k .grid) hg ?_;let⟨l,_,cy,lv⟩:=cx.look hn;let cb:=cy.cols;rw[<-lv]at cb;show¬⟨_,O,p,n,7,_,ls,O,lX,nl,l13,{},Hy,_,O,_,O,p,K0,_,ls,O,lX,fz,(),kin,cx.lk,λC' H3 hC s3 lC=>?_⟩;show⟨r,C',_,_,_,O,s3 _ _ hR,rn.1,lC,cx.cells n,by rw[xy];omega,cb.1,cb.2,λt z H4 ht s4 lpl zb lt=>?_⟩;show q t _ H4 ((bo.trans s3).free ht) ((bo.trans s3).trans s4) (by rw[lpl,xy]) (zb.mono ()) lt
 show fU (bB d.k .grid) hg ⟨_,O,K0,O,⟨_,ag fz⟩,bx (xs:=⇑((ay ds n).map λ(j:Nat)=>(j:Int))) (λi ys ae H'=>Same H2 H'/\(∃z,ae=[z,!.ref r,!.ref p,!.ref B])/\∃as,ys=↑as/\Paired (PrAt H') as (((ay ds n).map (xw ds ls (dI ls sp n))).take i)) kz ⟨Same.refl _,⟨none,O⟩,[],O,.nil⟩ ?_ ?_ ?_⟩
 .ext i ys ae H' hi ⟨s3,_,as,rfl,pr⟩;show ag (s3 _ _ fz)
 .ext i y ys ae H' hy ⟨s3,⟨z,rfl⟩,as,rfl,pr⟩;let⟨m,em,rfl⟩:=eD hy;let hm:=cZ (qL em);let cH:=bo.trans s3;obtain⟨dm,o7⟩:∃dm,ds[m]?=!dm:=⟨_,qB hm⟩;let⟨cm,HW,HX⟩:=nd.get o7;let⟨_,_,HY,_⟩:=HX.ex;let e2:((ay ds n).map (xw ds ls (dI ls sp n)))[i]?=!xw ds ls (dI ls sp n) m:=by rw[qJ,em];rfl
  let e3:=OD (ls:=ls) (rm:=dI ls sp n) o7;show¬⟨B,_,_,_,O,O,ag (cH _ _ hB),aU HW,cm,_,_,_,O,O,aD (cH _ _ HY),O,O,_,O,?_⟩
  by_cases ha:dm.k=.aside
  .show fT (bB dm.k .aside) ha ?_;rw[qZ ha]at e3;show¬⟨_,O,p,r,m,ls,_,O,cS cH I.lk,s3 _ _ hR,by rw[cx.ll];show hm,cx.lk,λt H4 ht s4 pt=>?_⟩;show⟨s3.trans s4,⟨_,O⟩,as++[t],by rw[qD];rfl,?_⟩;rw[qP,e2,e3];show(pr.mono λ_ _ z=>s4 _ _ z).snoc pt
  .show fU (bB dm.k .aside) ha ?_;rw[qX ha]at e3;show-⟨s3,⟨_,O⟩,as++[r],by rw[qD];rfl,?_⟩;rw[qP,e2,e3];show pr.snoc (s3 _ _ hR)
 .ext ys ae H' ⟨s3,_,as,rfl,pr⟩ D hD;rw[qH (by rw[qA,qA,qA];show qG _)]at pr;show q D _ _ ((bo.trans s3).free hD) ((bo.trans s3).trans (ar hD _)) (qA _) (λs hs=>by
   let⟨m,hm,rfl⟩:=qO.mp hs;obtain⟨dm,o7⟩:∃dm,ds[m]?=!dm:=⟨_,qB (cZ hm)⟩;let⟨l,_,ok,lv⟩:=cx.look (cZ hm);let hw:=ok.wide;rw[<-lv]at hw;rw[OD o7]
   split
   .show 0<=j6 ls (dI ls sp n) m/\j6 ls (dI ls sp n) m<=_;unfold j6;omega
   .omega) ⟨as,aj,pr.mono λ_ _ z=>ar hD _ _ _ z⟩
def qcN(F:Fu K "all_spans" Qm fn fd)(T:bO mg)(jr:⋯ 1 "holds" ["book", "node"] mU)(qcO:⋯ 5 "held_spans" ["book", "looks", "bounds", "spans", "node"] Gy):(~~~0) 6 fn fd ["book", "looks", "bounds", "wide"] Gz:=by
 rcases F.go ["book", "looks", "bounds", "wide", "spans", "node", "within", "place", "one"] with⟨M,B,p,L,wide,ds,ls,bs,rfl,I,cx,w0,w1,q⟩;let le:=cx.le;let⟨ab,hB,nd⟩:=I.bk;let eZ:ab⁻¹=ds⁻¹:=nd⁻¹;show⟨_,(aw (sm 4 ["node"] ["wide"] [3] (a6 '0') (nv 0) bj (br (a2 ao '1')))
  (aw (fv (r1 T.range (ln T.len '0')) (nv 5)
  (aw (sv 6 (cF qcO hr (aJ '0' (aJ '1' (a3 '2' '4' '5')))))
  (aA (fv (vg (by rfl) T.enumerate (a1 (cF jr hr (a2 '0' '5')))) (i6 (by rfl) (bD (nv 7) (bD (nv 8) dQ)))
  (aA (l7 (px aE '6' '7') (tM '4' '8' pS)))))))
  (aA (aH '4')))),?_⟩
 show-⟨B,O,⟨_,ag hB⟩,bx (xs:=↑ab) (λi ys ae H'=>Same H H'/\(∃z,ae=[z,!.int wide])/\∃as,ys=↑as/\Paired (PrAt H') as (List.replicate i (0,wide))) (by rw[qA];show aR ()) ⟨Same.refl H,⟨none,O⟩,[],O,.nil⟩ ?_ ?_ ?_⟩
 .ext i ys ae H' hi ⟨s1,_,as,rfl,pr⟩;show ag (s1 _ _ hB)
 .ext i y ys ae H' hy ⟨s1,⟨z,rfl⟩,as,rfl,pr⟩;show-⟨aK,λt ht=>?_⟩;let s2:=ar ht (.tup [.int 0,.int wide]);show⟨s1.trans s2,⟨_,O⟩,as++[t],by rw[qD];rfl,?_⟩;rw[List.replicate_succ'];show(pr.mono λ_ _ z=>s2 _ _ z).snoc aj
 ext ys ae H1 ⟨s1,_,as,rfl,pr⟩ S hS;rw[qA,eZ]at pr;let s2:=ar hS (.lst ↑as);let lS:LstAt PrAt (af H1 S (.lst ↑as)) S (List.replicate ds⁻¹ (0,wide)):=⟨as,aj,pr.mono λ_ _ z=>s2 _ _ z⟩;let bo:=s1.trans s2;let S0:H S=none:=s1.free hS;generalize af H1 S (.lst ↑as)=H2 at lS bo⊢;clear s2 hS s1 pr as;let el:(((↑ab)⁻¹:Nat):Int)=ds⁻¹:=by rw[qA,eZ]
 show-⟨B,_,O,.inl (ag (bo _ _ hB)),_,O,(),(),gp (λk σ H'=>Same H H'/\(∃sp,LstAt PrAt H' S sp/\sp⁻¹=ds⁻¹/\SpB (gW M k) sp)/\∃z5 z6 z7 z8,σ=[!.ref B,!.ref p,!.ref L,!.int wide,!.ref S,z5,z6,z7,z8]) ⟨bo,⟨_,lS,xU,λs hs=>by rw[vY hs];show⟨w0,w1⟩⟩,none,none,none,none,O⟩ ?_ ?_⟩
 .rintro n σ H3 hn0 ⟨cH,⟨sp,zo,jv,sb⟩,z5,z6,z7,z8,rfl⟩;let hn:n<ds⁻¹:=()
  rw[show(0:Int)+(n:Int)=(n:Int)from uE _];show¬⟨_,O,_,O,_,O,M,gW M n,B,p,L,S,n,ds,ls,bs,_,O,I.same cH,zo,jv,hn,cx,Gv cx.m4 n,sb,λt zs H4 ht s4 hl zb lt=>?_⟩;let iu:=cH.trans s4;let Qq:=ge s4 zo;let⟨ab4,Hq,EX⟩:=(I.same iu).bk;show¬⟨B,n,ds,_,O,⟨ab4,Hq,EX⟩,(),hn,λK0 H5 hK s5 Qr=>?_⟩;let gL:=iu.trans s5;let⟨ts,hts,prt⟩:=ge s5 lt;let CS:=ge s5 Qq;let nS:∀{b:Addr} {o:HO},H b=!o->b≠S:=λe z=>by rw[z,S0]at e;cases e
  let KS:K0≠S:=λz=>by
   let⟨_,e,_⟩:=Qq;rw[z,e]at hK;cases hK
  let tS:t≠S:=λz=>by
   let⟨_,e,_⟩:=zo;rw[z,e]at ht;cases ht
  show⟨K0,O,⟨_,ag Qr⟩,Fi (xs:=⇑((ay ds n).map λ(j:Nat)=>(j:Int))) (λi σ H'=>Keep1 S H5 H'/\LstAt PrAt H' S (putAll sp ((ay ds n).take i) (zs.take i))/\∃z7 z8,σ=[!.ref B,!.ref p,!.ref L,!.int wide,!.ref S,!.int (n:Int),!.ref t,z7,z8]) ⟨KeepN.refl,CS,_,_,O⟩ ?_ ?_ ?_⟩
  .ext i σ H' hi ⟨k1,_⟩;show ag (k1 _ _ KS Qr)
  .ext i y σ H' T' hy hT ⟨k1,⟨as,gJ,sn⟩,z7,z8,rfl⟩;let⟨m,em,rfl⟩:=eD hy;let hm:=cZ (qL em);let hi:i<(ay ds n)⁻¹:=(qF.mp em).1;let Qs:i<zs⁻¹:=by rw[hl];show hi
   let⟨b,eb,hb⟩:=eV prt (qB Qs);let st:=ar hT (.tup [.int (i:Int),.int (m:Int)]);let kt:=k1.trans st.keep;let lW:=st _ _ gJ;let jQ:Paired (PrAt (af H' T' (.tup [.int (i:Int),.int (m:Int)]))) as (putAll sp ((ay ds n).take i) (zs.take i)):=sn.mono λ_ _ z=>st _ _ z
   show⟨T',_,O,aD aj,O,_,_,O,_,_,O,O,?_⟩;generalize af H' T' (.tup [.int (i:Int),.int (m:Int)])=H6 at kt lW jQ⊢;let bS:b≠S:=λz=>by
    let⟨_,e,_⟩:=CS;let hb':H5 b=!.tup _:=hb;rw[z,e]at hb';cases hb'
   let HR:PrAt H6 b zs[i]:=kt _ _ bS hb;let lse:(↑as)⁻¹=ds⁻¹:=by rw[qA,qS sn,Ge,jv]
   show¬⟨t,_,_,_,O,O,ag (kt _ _ tS hts),aU eb,_,O,_,O,S,_,_,m,O,O,lW,by rw[lse];show Gc hm,?_⟩;let tl:=Tups.lst (o:=.lst ((↑as).set m (.ref b))) lW;show⟨λc o nn e=>by rw[aF nn];show kt c o nn e,⟨as.set m b,by rw[aj,List.map_set],?_⟩,_,_,O⟩;let e1:(ay ds n).take (i+1)=(ay ds n).take i++[m]:=by rw[qP,em];rfl
   let e2:zs.take (i+1)=zs.take i++[zs[i]]:=by rw[qP,qB Qs];rfl
   rw[e1,e2,putAll_snoc (by rw[xO,xO,hl])];show Paired.set (jQ.mono λ_ _ z=>tl _ _ z) (tl _ _ HR) m
  .ext σ H' ⟨k1,Qt,z7,z8,rfl⟩;rw[qA,qA,yN,qH ()]at Qt;show⟨λb o e=>k1 _ _ (nS e) (gL _ _ e),⟨_,Qt,by rw[Ge,jv],SpB.put (sb.mono (by show gW M n<=6*gW M n+6;have:=Gv cx.m4 n;have:=cx.m4;omega)) zb⟩,_,_,_,_,O⟩
 .ext σ H3 ⟨cH,⟨sp,zo,jv,sb⟩,z5,z6,z7,z8,rfl⟩;let en:(((↑ab)⁻¹:Nat):Int).toNat=ds⁻¹:=()
  rw[en]at sb;show-⟨q S sp H3 S0 cH zo jv sb⟩
end K31
namespace Ins
open L2 Bk Gen Gd Bd Shr Sp0
section
variable{ds:List Nd}{ls:TB}{hs:Nat->Int}{n:Nat}{d:Nd}
def Qu(h:ds[n]?=!d)(hk:d.k=.text\/d.k=.head\/d.k=.note):eX ds ls hs n=[]:=by
 unfold eX;rw[h];show(match !d.k with | some .text | some .head | some .note=>_ | some .shelf=>_ | some .grid=>_ | _=>_)=_;rcases hk with e | e | e<;>rw[e]
def HZ(h:ds[n]?=!d)(hk:d.k=.shelf):eX ds ls hs n=(ay ds n).map λm=>(m,0):=by
 unfold eX;rw[h];show(match !d.k with | some .text | some .head | some .note=>_ | some .shelf=>_ | some .grid=>_ | _=>_)=_;rw[hk]
def Ia(h:ds[n]?=!d)(hk:d.k=.grid):eX ds ls hs n=io ls hs (aC ls n 7).toNat (ay ds n):=by
 unfold eX;rw[h];show(match !d.k with | some .text | some .head | some .note=>_ | some .shelf=>_ | some .grid=>_ | _=>_)=_;rw[hk]
def Ib(h:ds[n]?=!d)(h1:¬(d.k=.text\/d.k=.head\/d.k=.note))(h2:d.k≠.shelf)(h3:d.k≠.grid):eX ds ls hs n=(eW ds ls hs (ay ds n)).1:=by
 unfold eX;rw[h];show(match !d.k with | some .text | some .head | some .note=>_ | some .shelf=>_ | some .grid=>_ | _=>_)=_;cases e:d.k with
 | text=>show qT (.inl e) h1
 | head=>show qT (.inr (.inl e)) h1
 | note=>show qT (.inr (.inr e)) h1
 | shelf=>show qT e h2
 | grid=>show qT e h3
 | _=>rfl
end
end Ins
namespace Ins
open L2 Bk Gen Gd Shr Sp0
open Bd
def Qv{l:TN}{b:Int}(h:b∈l)(le:∀x∈l,x<=b):a9 l=b:=by
 let h1:=iO _ h;let h2:=le _ (gF λz=>by rw[z]at h;cases h);omega
theorem CT(zs:List (Pl×Int)):∀n,∀x∈bc zs n,0<=x
 | 0,x,hx=>nomatch hx
 | n + 1, x, hx => by
   rw[bc]at hx
   rcases rE.mp hx with h | h
   · exact CT zs n x h
   · rw[rQ.mp h]
     exact(lI _ 0).1
theorem Qw{zs:List (Pl×Int)}(hd:∀x∈zs,1<=x.1.d):∀n,(bc zs n).sum=0\/∃x∈zs,x.1.r+x.1.d<=n/\(bc zs n).sum=((bc zs n).take x.1.r).sum+x.2
 | 0=>.inl O
 | n + 1 => by
   rw[bc,List.sum_append]
   rcases rE.mp (Oq (eC zs (bc zs n) n))with e | e
   · rw[rQ.mp e]
     rcases Qw hd n with h | ⟨x,hx,hl,hs⟩
     · left;simp[h]
     · right
       show⟨x,hx,(),?_⟩
       rw[List.take_append_of_le_length (by rw[oU];omega),<-hs]
       simp
   · let⟨x,hx,e'⟩:=qO.mp e
     let⟨h1,h2⟩:=xL.mp hx
     let h2:=rH h2
     let d1:=hd x h1
     right
     show⟨x,h1,(),?_⟩
     rw[List.take_append_of_le_length (by rw[oU];omega),<-e']
     have:=xJ List.sum (vC x.1.r (bc zs n))
     rw[List.sum_append]at this
     simp only[List.sum_cons,List.sum_nil]
     omega
def qcP{zs:List (Pl×Int)}{m:Nat}(hd:∀x∈zs,1<=x.1.d)(h0:∀x∈zs,0<=x.2)(hm:∀x∈zs,x.1.r+x.1.d<=m)(ne:zs=[]->m=0):a9 (zs.map λx=>((bc zs m).take x.1.r).sum+x.2)=(bc zs m).sum:=by
 let up:∀x∈zs,((bc zs m).take x.1.r).sum+x.2<=(bc zs m).sum:=λx hx=>by
  let h1:=qan hx (hd x hx) (hm x hx);let h2:=xJ List.sum (vC x.1.r (bc zs m));let h3:=xJ List.sum (vC x.1.d ((bc zs m).drop x.1.r));let h4:=xr (l:=((bc zs m).drop x.1.r).drop x.1.d) λy hy=>CT zs m y (uS (uS hy))
  rw[List.sum_append]at h2 h3;omega
 rcases Qw hd m with h | ⟨x,hx,_,hs⟩
 .cases zs with
  | nil=>rw[ne O];rfl
  | cons y r =>
    show wC ?_ ?_
    · let⟨x,hx,e⟩:=qO.mp (gF (l:=(y::r).map λx=>((bc (y::r) m).take x.1.r).sum+x.2) ∅)
      rw[<-e]
      show up x hx
    · rw[h]
      show lD λv hv=>?_
      let⟨x,hx,rfl⟩:=qO.mp hv
      let h1:=xr (l:=(bc (y::r) m).take x.1.r) λy hy=>CT _ m y (yK hy)
      have:=h0 x hx
      show 0<=((bc (y::r) m).take x.1.r).sum+x.2
      omega
 .show Qv (qO.mpr ⟨x,hx,hs.symm⟩) λv hv=>?_
  let⟨y,hy,rfl⟩:=qO.mp hv;show up y hy
theorem Qx(hs:Nat->Int):∀(ks:TM) (pl:List Pl),pl.zip (ks.map hs)=(ks.zip pl).map λx=>(x.2,hs x.1)
 | [],pl=>∅
 | k::ks,[]=>∅
 | k :: ks, p :: pl => by
   rw[xY,List.zip_cons_cons,List.zip_cons_cons,xY,Qx hs ks pl]
def qcQ{ls:TB}{hs:Nat->Int}{cols:Nat}{ks:TM}(hd:∀p∈dH cols (bP ls ks),1<=p.d)(hl:(dH cols (bP ls ks))⁻¹=ks⁻¹)(h0:∀m,0<=hs m) :
  a9 ((io ls hs cols ks).map λx=>x.2+hs x.1)=(bc ((dH cols (bP ls ks)).zip (ks.map hs)) (many (dH cols (bP ls ks)))).sum:=by
 unfold io;generalize dH cols (bP ls ks)=pl at hd hl;rw[<-qcP (zs:=pl.zip (ks.map hs)) (λx hx=>hd _ (u7 hx).1) (λx hx=>?_) (λx hx=>qak (u7 hx).1) (λz=>?_),rZ]
 .rw[Qx,rZ];rfl
 .let⟨k,_,e⟩:=qO.mp (u7 hx).2;rw[<-e];show h0 k
 .have:pl=[]:=by
   cases pl with
   | nil=>rfl
   | cons p r => cases ks with
     | nil=>cases hl
     | cons k ks=>rw[xY,List.zip_cons_cons]at z;cases z
  rw[this];rfl
theorem Ic{ls:TB}{hs:Nat->Int}(h0:∀m,0<=hs m)(l0:∀m,0<=aC ls m 2):∀(ks:TM) (acc:List (Nat×Int)×Int),a9 (acc.1.map λx=>x.2+hs x.1)=acc.2->0<=acc.2 ->
  a9 ((ks.foldl (dJ ds ls hs) acc).1.map λx=>x.2+hs x.1)=(ks.foldl (dJ ds ls hs) acc).2/\0<=(ks.foldl (dJ ds ls hs) acc).2
 | [],acc,h1,h2=>⟨h1,h2⟩
 | m :: ks, acc, h1, h2 => by
   rw[xK]
   let t0:acc.2<=gH ls acc m:=by
     unfold gH
     have:=l0 m
     split<;>omega
   let b0:0<=a9 ((bz ds m).map hs):=lD λx hx=>by
     let⟨e,_,rfl⟩:=qO.mp hx
     show h0 e
   rw[xz]
   show Ic h0 l0 ks _ (Qv ?_ λx hx=>?_) (by show 0<=gH ls acc m+a9 ((bz ds m).map hs);omega)
   · let⟨e,he,ee⟩:=qO.mp (gF (l:=(bz ds m).map hs) λz=>(GI (ds:=ds) (m:=m)).2 (yQ.mp z))
     show gH ls acc m+a9 ((bz ds m).map hs)∈_
     rw[<-ee,qD,rZ]
     show rO _ (qO.mpr ⟨e,he,O⟩)
   · show x<=gH ls acc m+a9 ((bz ds m).map hs)
     rw[qD,rZ]at hx
     rcases rE.mp hx with z | z
     · have:=iO _ z
       omega
     · let⟨e,he,rfl⟩:=qO.mp z
       have:=iO _ (qO.mpr ⟨e,he,O⟩:hs e∈(bz ds m).map hs)
       show gH ls acc m+hs e<=_
       omega
def qcR{n m x:Nat}(h:m∈ay ds n)(hx:x∈bz ds m):x∈ay ds n:=by
 unfold bz at hx;cases e:cz ds m with
 | none=>rw[e]at hx;rw[rQ.mp hx];show h
 | some a =>
   rw[e]at hx
   rcases qN.mp hx with z | z
   · rw[z]
     let⟨d,ed,_,hl,_⟩:=Cj e
     let⟨d',lN,he⟩:=BS h
     rw[ed]at lN
     cases lN
     rw[he]at hl
     show qaN (cZ h) (List.mem_of_getLast? hl)
   · rw[rQ.mp z];show h
theorem Qy{ls:List (List Int)}{hs bw:Nat->Int}{n:Nat}(h:∀m∈ay ds n,hs m=bw m):∀(ks:List Nat) (acc:List (Nat×Int)×Int),(∀m∈ks,m∈ay ds n)->ks.foldl (dJ ds ls hs) acc=ks.foldl (dJ ds ls bw) acc
 | [],_,_=>rfl
 | m :: ks, acc, hk => by
   rw[xK,xK,xz,xz,vH λx hx=>h x (qcR (hk m rF) hx)]
   exact Qy h ks _ λx hx=>hk x (qW _ hx)
def qcS{ls:TB}{hs bw:Nat->Int}{n:Nat}(h:∀m∈ay ds n,hs m=bw m):eX ds ls hs n=eX ds ls bw n:=by
 unfold eX
 split
 .rfl
 .rfl
 .rfl
 .rfl
 .unfold io;rw[vH h]
 .unfold eW;rw[Qy h _ _ λm hm=>(xL.mp hm).1]
noncomputable def jw(ds:List Nd)(ls:TB)(hs:Nat->Int)(n:Nat):Int:=a9 ((eX ds ls hs n).map λx=>x.2+hs x.1)
def qcT{ls:TB}{hs bw:Nat->Int}{n:Nat}(h:∀m∈ay ds n,hs m=bw m):jw ds ls hs n=jw ds ls bw n:=by
 unfold jw;rw[qcS h,vH λx hx=>by rw[h x.1 (OG.subset (uU hx))]]
def da(ds:List Nd)(us:List (List Un))(sp:TC)(hs:Nat->Int)(n:Nat):Int×Int:=match cz ds n with
 | none=>(0,0)
 | some a=>(eS (hs a) (a9 ((bu us n).map Un.h)),(aV sp a).2)
inductive IsSz(ds:List Nd)(ls:TB)(us:List (List Un))(sp:TC)(hs:Nat->Int)(n:Nat)(d:Nd):Sz->Prop
 | pic {w h:Int}:d.k=.picture->d.st=[.int w,.int h]->IsSz ds ls us sp hs n d ⟨h,[],[],0⟩
 | box:d.k≠.picture->¬(d.k=.text\/d.k=.head\/d.k=.note)->IsSz ds ls us sp hs n d ⟨jw ds ls hs n,[],[],0⟩
 | row {rows : List (Nat × Nat)} {k : Nat} {M : Int} : (d.k = .text \/ d.k = .head \/ d.k = .note) -> Br.Ch (bu us n) (Br.roomN (dI ls sp n).2 (da ds us sp hs n)) k (bu us n)⁻¹ rows -> Br.Few (bu us n) (Br.roomN (dI ls sp n).2 (da ds us sp hs n)) k M ->
   IsSz ds ls us sp hs n d ⟨(rows⁻¹:Int)*a9 ((bu us n).map Un.h),rows,Br.sumsL (bu us n) (Br.roomN (dI ls sp n).2 (da ds us sp hs n)),(da ds us sp hs n).1⟩
section
variable{ds:List Nd}{ls:TB}{us:List (List Un)}{sp:TC}{hs bw:Nat->Int}{n:Nat}{d:Nd}{z z':Sz}
def IsSz.uniq(h:IsSz ds ls us sp hs n d z)(h':IsSz ds ls us sp hs n d z'):z=z':=by
 cases h with
 | pic a b => cases h' with
   | pic a' b'=>rw[b]at b';cases b';rfl
   | box a' b'=>show qT a a'
   | row a'=>rw[a]at a';rcases a' with q | q | q<;>cases q
 | box a b => cases h' with
   | pic a' b'=>show qT a' a
   | box=>rfl
   | row a'=>show qT a' b
 | row a c f => cases h' with
   | pic a' b'=>rw[a']at a;rcases a with q | q | q<;>cases q
   | box a' b'=>show qT a b'
   | row a' c' f' =>
     let⟨rfl,_⟩:=f.uniq f'
     rw[c.uniq c']
def IsSz.congr(h:IsSz ds ls us sp hs n d z)(e:∀m,m∈ay ds n\/cz ds n=!m->hs m=bw m):IsSz ds ls us sp bw n d z:=by
 cases h with
 | pic a b=>show .pic a b
 | box a b =>
   rw[qcT λm hm=>e m (.inl hm)]
   show .box a b
 | row a c f =>
   let en:da ds us sp hs n=da ds us sp bw n:=by
     unfold da
     cases eb:cz ds n with
     | none=>rfl
     | some x=>show(eS (hs x) _,_)=(eS (bw x) _,_);rw[e x (.inr eb)]
   rw[en]at c f⊢
   show .row a c f
def qcU(h0:∀m,0<=hs m)(l0:∀m,0<=aC ls m 2)(ed:ds[n]?=!d):0<=jw ds ls hs n:=by
 unfold jw
 by_cases h1:d.k=.text\/d.k=.head\/d.k=.note
 .rw[Qu ed h1];show xD _
 by_cases h2:d.k=.shelf
 .rw[HZ ed h2];show lD λx hx=>?_
  let⟨y,hy,rfl⟩:=qO.mp hx;let⟨m,_,rfl⟩:=qO.mp hy;have:=h0 m;show 0<=0+hs m;omega
 by_cases h3:d.k=.grid
 .rw[Ia ed h3];show lD λx hx=>?_
  let⟨y,hy,rfl⟩:=qO.mp hx;let⟨m,_,rfl⟩:=qO.mp hy;have:=h0 m.1;show Int.add_nonneg (xr λv hv=>CT _ _ v (yK hv)) this
 .rw[Ib ed h1 h2 h3];have:=Ic (ds:=ds) h0 l0 ((ay ds n).filter λm=>(Bool.not (cJ ds m))) ([],0) O (xD _);unfold eW;omega
def IsSz.nn(h:IsSz ds ls us sp hs n d z)(h0:∀m,0<=hs m)(l0:∀m,0<=aC ls m 2)(ed:ds[n]?=!d)(fm:jL d)(uh:∀u∈bu us n,1<=u.h):0<=z.h:=by
 cases h with
 | pic a b =>
   have:=fm.st
   rw[a]at this
   let⟨x,y,e,_,_,h1,_⟩:=this
   rw[b]at e
   cases e
   show yC {} h1
 | box a b=>show qcU h0 l0 ed
 | row a c f=>show Int.mul_nonneg () (lD λx hx=>by
   let⟨u,hu,rfl⟩:=qO.mp hx;have:=uh u hu;omega)
end
def Lev.uniq{i l:Nat}(h:Lev ds i l):∀{l':Nat},Lev ds i l'->l=l':=by
 induction h with
 | top e h => intro l' h'; cases h' with
   | top=>rfl
   | up e' h'=>rw[e]at e';cases e';omega
 | up e h hj _ ih => intro l' h'; cases h' with
   | top e' h'=>rw[e]at e';cases e';omega
   | up e' h' CM g'=>rw[e]at e';cases e';rw[h]at h';cases Int.ofNat.inj h';rw[ih g']
section
variable{ds:List Nd}{L:Nat->Nat}{n m:Nat}
def qcV(lv:wn ds L)(h:m∈ay ds n):L m=L n+1:=by
 let⟨d,ed,he⟩:=BS h;let hm:=cZ h;let⟨h1,_⟩:=lv m hm;generalize L m=l at h1;cases h1 with
 | top e z=>rw[ed]at e;cases e;omega
 | up e z hj g =>
   rw[ed]at e
   cases e
   rw[he]at z
   cases Int.ofNat.inj z
   rw[Lev.uniq g (lv n ()).1]
def qcW(lv:wn ds L)(h:cz ds n=!m):L m=L n/\m<n:=by
 let⟨d,ed,_,hl,_⟩:=Cj h;let hn:=(qF.mp ed).1;let hm:=List.mem_of_getLast? hl;let lt:=qx hm;let⟨_,h2⟩:=xL.mp hm;let h2:=rH h2;let⟨c,ec,hc⟩:=xH.mp h2;show⟨?_,lt⟩;let g1:=(lv n hn).1;let g2:=(lv m ()).1;generalize L n=l at g1;generalize L m=l' at g2;cases g1 with
 | top e z => cases g2 with
   | top=>rfl
   | up e' z'=>rw[ed]at e;rw[ec]at e';cases e;cases e';omega
 | up e z hj g => cases g2 with
   | top e' z'=>rw[ed]at e;rw[ec]at e';cases e;cases e';omega
   | up e' z' CM g' =>
     rw[ed]at e;rw[ec]at e'
     cases e;cases e'
     rw[hc,z]at z'
     cases Int.ofNat.inj z'
     rw[Lev.uniq g g']
abbrev Qz(L:Nat->Nat)(ms:TM):Prop:=ms.Pairwise λa b=>-(L a:Int) < -(L b:Int)\/(-(L a:Int)=-(L b:Int)/\a<b)
def qcX{ms:TM}{i j:Nat}(lv:wn ds L)(o:Qz L ms)(hj:ms[j]?=!n)(hi:ms[i]?=!m)(le:j<=i):¬(m∈ay ds n\/cz ds n=!m):=by
 let ord:j=i\/(L m<L n\/(L n=L m/\n<m)):=by
  by_cases e:j=i
  .show .inl e
  .right;let⟨hj1,hj2⟩:=qF.mp hj;let⟨hi1,hi2⟩:=qF.mp hi;have:=List.pairwise_iff_getElem.mp o j i hj1 hi1 ();rw[hj2,hi2]at this;omega
 ext(h | h)
 .have:=qcV lv h;rcases ord with e | e
  .subst e;rw[hj]at hi;cases hi;omega
  .omega
 .have:=qcW lv h;rcases ord with e | e
  .subst e;rw[hj]at hi;cases hi;omega
  .omega
variable{ls:TB}{us:List (List Un)}{sp:TC}{sz:List Sz}
def CU(ds:List Nd)(ls:TB)(us:List (List Un))(sp:TC)(ms:TM)(i:Nat)(sz:List Sz):=∀(j n:Nat) (d:Nd),j<i->ms[j]?=!n->ds[n]?=!d->∃z,sz[n]?=!z/\IsSz ds ls us sp (aM sz) n d z
def qcY{x:Nat}(h:m≠x):aM (sz.set m z) x=aM sz x:=by
 unfold aM;rw[yY h]
def qcZ{ms:TM}{i:Nat}(lv:wn ds L)(o:Qz L ms)(nd:ms.Nodup)(lz:sz⁻¹=ds⁻¹)(h:CU ds ls us sp ms i sz)(hi:ms[i]?=!m)(ed:ds[m]?=!d)(hz:IsSz ds ls us sp (aM sz) m d z):CU ds ls us sp ms (i+1) (sz.set m z):=by
 intro j n c hj en ec;let same:∀x,x∈ay ds n\/cz ds n=!x->aM sz x=aM (sz.set m z) x:=λx hx=>by
  show(qcY λe=>?_).symm;rw[<-e]at hx;show qcX lv o en hi () hx
 by_cases e:j=i
 .subst e;rw[hi]at en;cases en;rw[ed]at ec;cases ec;show⟨z,by rw[y9 (by rw[lz];show(qF.mp ed).1)],hz.congr same⟩
 .let⟨y,ey,hy⟩:=h j n c () en ec;let ne:m≠n:=λq=>e ((List.getElem?_inj (qF.mp en).1 nd).mp (en.trans (by rw[<-q];show hi.symm)))
  show⟨y,by rw[yY ne];show ey,hy.congr same⟩
def Ie(ds:List Nd)(ls:TB)(us:List (List Un))(sp:TC)(sz:List Sz):=∀(n:Nat) (d:Nd),ds[n]?=!d->∃z,sz[n]?=!z/\IsSz ds ls us sp (aM sz) n d z
def qc0{ms:TM}(pm:ms.Perm (List.range ds⁻¹))(h:CU ds ls us sp ms ms⁻¹ sz):Ie ds ls us sp sz:=λn d ed=>by
 let hn:=(qF.mp ed).1;let⟨j,hj,e⟩:=x8.mp (pm.mem_iff.mpr (xC.mpr hn));show h j n d hj (by rw[qB hj,e]) ed
def Ig(h:∀z∈sz,0<=z.h)(m:Nat):0<=aM sz m:=by
 unfold aM;cases e:sz[m]? with
 | none=>show xD _
 | some z=>show h z (qL e)
end
def SzX(N:Addr->Prop)(H:Hp)(a:Addr)(x:Sz×Addr×Addr):=H a=!.tup [.int x.1.h,.ref x.2.1,.ref x.2.2,.int x.1.c]/\N x.2.1/\LstAt Br.NnAt H x.2.1 x.1.rows/\N x.2.2/\∃bs:TQ,H x.2.2=!.lst ↑bs/\Paired (λc os=>Br.OsAt H c os/\N c) bs x.1.sums
section
variable{N N':Addr->Prop}{H H':Hp}{a:Addr}{x:Sz×Addr×Addr}
def SzX.at(h:SzX N H a x):SzAt H a x.1:=by
 let⟨h1,_,h2,_,bs,h3,h4⟩:=h;show⟨_,_,h1,h2,bs,h3,h4.mono λ_ _ y=>y.1⟩
def SzX.mono(k:∀b,(∃o,H b=!o)->N b->N' b)(h:SzX N H a x):SzX N' H a x:=by
 let⟨h1,n1,⟨as,h5,h6⟩,n2,bs,h3,h4⟩:=h;show⟨h1,k _ ⟨_,h5⟩ n1,⟨as,h5,h6⟩,k _ ⟨_,h3⟩ n2,bs,h3,h4.mono λc os y=>⟨y.1,k c ⟨_,y.1⟩ y.2⟩⟩
def SzX.same(s:Same H H')(h:SzX N H a x):SzX N H' a x:=by
 let⟨h1,n1,h2,n2,bs,h3,h4⟩:=h;show⟨s _ _ h1,n1,Br.nns_same s h2,n2,bs,s _ _ h3,h4.mono λc os y=>⟨s _ _ y.1,y.2⟩⟩
def SzX.put(hS:H S=!.lst xs)(k:∀b,N b->b≠S)(h:SzX N H a x):SzX N (af H S o) a x:=by
 let⟨h1,n1,⟨as,h5,h6⟩,n2,bs,h3,h4⟩:=h;let tl:=Tups.lst (o:=o) hS;show⟨tl _ _ h1,n1,⟨as,by rw[aF (k _ n1)];show h5,h6.mono λ_ _ y=>tl _ _ y⟩,n2,bs,by rw[aF (k _ n2)];show h3,h4.mono λc os y=>⟨?_,y.2⟩⟩;show af H S o c=_;rw[aF (k _ y.2)];show y.1
def Apt(ps:List (Addr×Addr)):=∀(i j:Nat) (p q:Addr×Addr),ps[i]?=!p->ps[j]?=!q->p.1≠q.2/\(i≠j->p.1≠q.1/\p.2≠q.2)
def Apt.new{ps mF:List (Addr×Addr)}{m:Nat}{x:Addr×Addr}(h:Apt ps)(g:∀{i:Nat} {p:Addr×Addr},mF[i]?=!p->(i=m/\p=x)\/ps[i]?=!p)(n1:∀p∈ps,p.1≠x.1/\p.1≠x.2/\p.2≠x.1/\p.2≠x.2)(n2:x.1≠x.2):Apt mF:=λi j p q hi hj=>by
 rcases g hi with⟨rfl,rfl⟩ | ei<;>rcases g hj with⟨rfl,rfl⟩ | ej
 .show⟨n2,λz=>qT O z⟩
 .have:=n1 q (qL ej);show⟨λz=>this.2.2.1 z.symm,λ_=>⟨λz=>this.1 z.symm,λz=>this.2.2.2 z.symm⟩⟩
 .have:=n1 p (qL ei);show⟨this.2.1,λ_=>⟨this.1,this.2.2.2⟩⟩
 .show h i j p q ei ej
def qc1{ps:List (Addr×Addr)}{m i:Nat}{x p:Addr×Addr}(e:(ps.set m x)[i]?=!p):(i=m/\p=x)\/ps[i]?=!p:=by
 by_cases z:m=i
 .let l:=(qF.mp e).1;rw[uG]at l;subst z;rw[y9 l]at e;show .inl ⟨O,(rD e).symm⟩
 .rw[yY z]at e;show .inr e
def qc2{ps:List (Addr×Addr)}{i:Nat}{x p:Addr×Addr}(e:(ps++[x])[i]?=!p):(i=ps⁻¹/\p=x)\/ps[i]?=!p:=by
 by_cases z:i<ps⁻¹
 .rw[rY z]at e;show .inr e
 .let l:=(qF.mp e).1;rw[qI]at l;have:i=ps⁻¹:=by simp at l;omega
  subst this;rw[rG (qG _),Nat.sub_self]at e;show .inl ⟨O,(rD e).symm⟩
def SzX.news{xs:List (Sz×Addr×Addr)}{N:Addr->Prop}(pr:Paired (SzX N H) as xs)(hA:H A=none)(hB:H B=none):∀p∈xs.map Prod.snd,p.1≠A/\p.1≠B/\p.2≠A/\p.2≠B:=by
 induction pr with
 | nil=>show λp hp=>nomatch hp
 | cons q _ ih =>
   intro p hp
   rcases qN.mp hp with rfl | hp
   · let⟨_,_,⟨_,e1,_⟩,_,_,e2,_⟩:=q
     show⟨cB e1 hA,cB e1 hB,cB e2 hA,cB e2 hB⟩
   · show ih p hp
def Ih{xs:List (Sz×Addr×Addr)}(pr:Paired (SzX N H) as xs):Paired (SzAt H) as (xs.map Prod.fst):=by
 induction pr with
 | nil=>show .nil
 | cons q _ ih=>show .cons q.at ih
end
inductive Ii(K:W.Frag):List V->Hp->VK->XK->Prop
|m (B p U Sp S:Addr) (n:Nat) (ds:List Nd) (ls:TB) (us:List (List Un)) (sp:TC) (sz:List Sz):vs=[.ref B,.ref U,.ref Sp,.ref S,.int n]->InZ H B p U Sp S ds ls us sp sz->mQ ds ls sz sp us->n<ds⁻¹->bu us n≠[]->(∀(t:Addr) (H':Hp),Same H H'->Br.PrK K H' t (da ds us sp (aM sz) n)->0<=(da ds us sp (aM sz) n).2->Q (.ref t) H')->Ii K vs H Q E
inductive Ij:List V->Hp->VK->XK->Prop
|m (B p U Sp S:Addr) (n:Nat) (d:Nd) (ds:List Nd) (ls:TB) (us:List (List Un)) (sp:TC) (sz:List Sz):vs=[.ref B,.ref p,.ref U,.ref Sp,.ref S,.int n]->InZ H B p U Sp S ds ls us sp sz->mQ ds ls sz sp us->ds[n]?=!d->(∀(t:Addr) (x:Sz×Addr×Addr) (H':Hp),Same H H'->SzX (λb=>H b=none) H' t x->x.2.1≠x.2.2->IsSz ds ls us sp (aM sz) n d x.1->Q (.ref t) H')->Ij vs H Q E
end Ins
namespace Ins
open L2 Bk Gen Gd Shr Sp0 Bd
def QA(z:Sz):W.Dat:=.tuple [.int z.h,.list (z.rows.map Br.nnD),.list (z.sums.map Br.osD),.int z.c]
end Ins
namespace Ins
open L2 Bk Gen Gd Shr Sp0 Fc
open Bd
def QB(h:SzAt H a z):di H (.ref a) (QA z):=by
 let⟨A,B,h1,h2,h3⟩:=h;show .tup h1 (.cons (.int _) (.cons (Br.rows_inD h2) (.cons (Br.sums_in h3) (.cons (.int _) .nil))))
def qc3(xs:List (Nat×Nat))(more:List W.Dat)(hm:∀d∈more,W.kqdOk 7 d=true):W.kqdOk 8 (.list (xs.map Br.nnD++more))=true:=by
 simp only[W.kqdOk,List.all_append,Bool.and_eq_true,List.all_eq_true,List.mem_map];show⟨?_,hm⟩;ext _ ⟨x,_,rfl⟩;simp[Br.nnD,W.kqdOk]
def qc4(xs:List (List (Option Int)))(more:List W.Dat)(hm:∀d∈more,W.kqdOk 7 d=true):W.kqdOk 8 (.list (xs.map Br.osD++more))=true:=by
 simp only[W.kqdOk,List.all_append,Bool.and_eq_true,List.all_eq_true,List.mem_map];show⟨?_,hm⟩;ext _ ⟨os,_,rfl⟩;simp only[Br.osD,W.kqdOk,List.all_eq_true,List.mem_map];ext _ ⟨o,_,rfl⟩;cases o<;>simp[Br.ovD,W.kqdOk]
def QC(z:Sz):W.kqdOk 9 (QA z)=true:=by
 let h1:=qc3 z.rows [] λd hd=>nomatch hd
 let h2:=qc4 z.sums [] λd hd=>nomatch hd
 rw[rS]at h1 h2;show([W.Dat.int z.h,.list (z.rows.map Br.nnD),.list (z.sums.map Br.osD),.int z.c].all (W.kqdOk 8))=true;rw[vI,vI,vI,vI,h1,h2];rfl
def qc5(h:jm H a us):Bw.RowAt H a (us.map j7):=by
 let⟨ps,e,pr⟩:=h;show⟨_,e,qaZ (pr.mono λp u z=>⟨p.2,z.1,_,z.2⟩)⟩
def CV(h:LstAt jm H L un):LstAt Bw.RowAt H L (un.map λr=>r.map j7):=by
 let⟨as,e,pr⟩:=h;show⟨as,e,?_⟩;clear e
 induction pr with
 | nil=>show .nil
 | cons q _ ih=>show .cons (qc5 q) ih
def qc6{xs:List (Addr×List (Addr×Addr))}(hL:H0 L=none)(e:H L=!.lst ↑(xs.map Prod.fst))(h:Ux H0 H xs un)(k:KeepN (λb=>H0 b=none) H H'):LstAt jm H' L un:=by
 show⟨_,k _ _ hL e,?_⟩;let h1:=h.1;clear e h
 induction h1 with
 | nil=>show .nil
 | cons q _ ih=>show .cons ⟨_,k _ _ q.1 q.2.1,q.2.2.mono λp u z=>⟨k _ _ z.2.1 z.1.1,k _ _ z.2.2 z.1.2⟩⟩ ih
theorem QD:∀{as:TQ} {un:List (List bV)},Paired (jm H) as un->DAll H ↑as (un.map F7)
 | _,_,.nil=>.nil
 | _, _, .cons h t => by
   let⟨ps,e,pr⟩:=h
   show .cons (.lst e (Oo pr)) (QD t)
def Ik(ds:List Nd)(ls:TB)(un:List (List bV))(sp:TC):W.Dat:=.list [Bx ds,.list (ls.map FR),.list (un.map F7),.list (sp.map BX)]
def QE(h:∀d∈ds,jL d)(ls:TB)(un:List (List bV))(sp:TC):W.kqdOk 9 (Ik ds ls un sp)=true:=by
 let h1:=ZE h;simp only[Ik,W.kqdOk,List.all_cons,List.all_nil,Bool.and_true,Bool.and_eq_true,List.all_eq_true,List.mem_map];show⟨h1,?_,?_,?_⟩
 .ext _ ⟨l,_,rfl⟩;simp[FR,W.kqdOk]
 .ext _ ⟨r,_,rfl⟩;simp only[F7,W.kqdOk,List.all_eq_true,List.mem_map];ext _ ⟨u,_,rfl⟩;simp[B2,W.kqdOk]
 .ext _ ⟨x,_,rfl⟩;simp[BX,W.kqdOk]
structure InB(H:Hp)(B p U Sp:Addr)(ds:List Nd)(ls:TB)(un:List (List bV))(sp:TC):Prop where
 bk:b8 (λ_=>True) H B ds
 lk:LstAt LkAt H p ls
 un:LstAt jm H U un
 sp:LstAt PrAt H Sp sp
def QF{H:Hp}{w B p U Sp:Addr}{ds:List Nd}{ls:TB}{un:List (List bV)}{sp:TC}(e:H w=!.lst [.ref B,.ref p,.ref U,.ref Sp])(I:InB H B p U Sp ds ls un sp):di H (.ref w) (Ik ds ls un sp):=by
 let⟨aq,eq,pq⟩:=I.lk;let⟨al,el,pl⟩:=I.sp;let⟨au,eu,pu⟩:=I.un;show .lst e (.cons (XC I.bk) (.cons (.lst eq (N1 pq)) (.cons (.lst eu (QD pu)) (.cons (.lst el (NZ pl)) .nil))))
inductive Il:List V->Hp->VK->XK->Prop
|m (B p U Sp S:Addr) (ds:List Nd) (ls:TB) (us:List (List Un)) (sp:TC) (sz:List Sz):vs=[.ref S,.ref B,.ref p,.ref U,.ref Sp]->InZ H B p U Sp S ds ls us sp sz->mQ ds ls sz sp us->(∀n,0<=aC ls n 2)->(∀m,0<=aM sz m)->Ie ds ls us sp sz->(∀H',Same H H'->Q (.bl true) H')->Il vs H Q E
end Ins
namespace K31
open L2 Bk Gd Shr Sp0 Ins Fc
open Bd
open Gen
abbrev QG:=top 125
def qc7{l:TN}(h:LkTo 13 l):lK l:=by
 let a:=λj {b} e=>h.at j (b:=b) e
 show⟨⟨h.1,(a 3 O).1,(a 5 O).1,yC {} (a 6 O).1,a 7 O,a 8 O,yC {} (a 11 O).1⟩,a 4 O,yC (a 5 O).2 {},yC (a 6 O).2 {},a 9 O,by have:=a 10 O;let h1:0<=l.getD 10 0:=this.1;let h2:l.getD 10 0<=1:=this.2;omega⟩
def Im{ls:TB}(h:∀l∈ls,LkTo 13 l){j:Nat}{b:Int×Int}(e:km[j]?=!b)(h0:0<=b.2)(n:Nat):aC ls n j<=b.2:=by
 unfold aC;cases en:ls[n]? with
 | none=>show h0
 | some l=>show((h l (qL en)).at j e).2
def qc8{ls:TB}(h:∀l∈ls,LkTo 13 l){j:Nat}{b:Int×Int}(e:km[j]?=!b)(h0:0<=b.1)(n:Nat):0<=aC ls n j:=by
 unfold aC;cases en:ls[n]? with
 | none=>show xD _
 | some l=>show yC h0 ((h l (qL en)).at j e).1
def qc9{l:TN}(h:LkAt H a l)(hl:l⁻¹=13)(S:StOk H st):a≠st:=λz=>by
 let⟨x,y,e,_⟩:=S;let h:H a=_:=h;rw[z,e]at h;have:=xJ List.length (HO.lst.inj (rD h));rw[qA,hl]at this;cases this
def looks_keep{ls:TB}(S:StOk H st)(k:Keep1 st H H')(l13:∀l∈ls,l⁻¹=13)(h:LstAt LkAt H p ls):LstAt LkAt H' p ls:=by
 let⟨as,e,pr⟩:=h;show⟨as,k _ _ (kj e S) e,Br.paired_mem pr λa l hl z=>k _ _ (qc9 z (l13 l hl) S) z⟩
def qda(S:StOk H st)(k:Keep1 st H H')(h:LstAt FcAt H p fs):LstAt FcAt H' p fs:=by
 let⟨as,e,pr⟩:=h;show⟨as,k _ _ (kj e S) e,pr.mono λa f z=>?_⟩;let⟨L,e1,bs,e2,po⟩:=z;show⟨L,k _ _ (mW e1 S) e1,bs,k _ _ (kj e2 S) e2,Cy S k po⟩
def qdb{bs:TC}(S:StOk H st)(k:Keep1 st H H')(h:LstAt PrAt H p bs):LstAt PrAt H' p bs:=by
 let⟨as,e,pr⟩:=h;show⟨as,k _ _ (kj e S) e,pr.mono λa x z=>k _ _ (mW z S) z⟩
inductive Io(K:W.Frag):List V->Hp->VK->XK->Prop
|m (a:Addr) (ns:TN):vs=[.ref a]->SqL K H a ⇑ns->(∀(R B p U Sp:Addr) (ds:List Nd) (ls:TB) (un:List (List bV)) (us:List (List Un)) (sp:TC) (H':Hp),Same H H'->H' R=!.lst [.ref B,.ref p,.ref U,.ref Sp]->b8 (λ_=>True) H' B ds->LstAt LkAt H' p ls->us=(un.map λr=>r.map j7)->LstAt jm H' U un->LstAt PrAt H' Sp sp->ds⁻¹<64->(∀sz:List Sz,sz⁻¹=ds⁻¹->mQ ds ls sz sp us)->(∀n,0<=aC ls n 2)->Q (.ref R) H')->Io K vs H Q E
def qdc(F:Fu K "_law_made" QG f fd)(T:bO mg)(Ip:⋯ 1 "_law_stream" ["_law_script", "_law_k"] (EA K))(bF:⋯ 1 "_law_take" ["_law_stream_here", "_law_most"] gV)(qdd:⋯ 11 "_law_book" ["_law_stream_here", "_law_many", "_law_room"] Gw.spBook)(qde:⋯ 11 "_law_wide" ["_law_nodes", "_law_stream_here"] Gw.spWide)(qdf:⋯ 3 "_law_long" ["_law_book_here", "_law_stream_here"] GU)(qdg:⋯ 2 "_law_looks" ["_law_book_here", "_law_stream_here"] Ho)(qdh:⋯ 2 "_law_faces" ["_law_stream_here"] Hh)(qdi:⋯ 2 "_law_shown" ["_law_book_here", "_law_stream_here"] Hs)(qdj:F6 P w K mg base am 4 "all_units" ["book", "looks", "faces", "shown", "held"] [Value.bool false] (fal 4 spAllU))(qdk:⋯ 6 "all_bounds" ["book", "looks", "units"] Bw.spAll)(qdl:⋯ 6 "all_spans" ["book", "looks", "bounds", "wide"] Gz):(~~~0) 12 f fd ["_law_script"] (Io K):=by
 rcases F.go ["_law_script", "_law_stream_here", "_law_wide_here", "_law_book_here", "_law_looks_here", "_law_units", "_law_spans"] with⟨a,ns,rfl,hA,q⟩;let qdm:Room 4 _:=hr.mono {};show⟨_,(aw (sv 1 (cF Ip hr (a2 '0' ao)))
  (aw (sv 2 (ec bv (cF bF hr (a2 (cF Ip hr (a2 '0' ao)) ao)) ao))
  (aw (sv 3 (cF qdd hr (a3 '1' (px aE (a0 (a2 (aG bi ao (cF bF hr (a2 '1' ao))) ao)) (dS tY (by rfl) T.int qf (a1 '2'))) (px aE (a0 (a2 ao ao)) (dS tY (by rfl) T.int qf (a1 '2'))))))
  (aw (a7 (kD '2') (aA (cq (cF qde hr (a2 '3' '1')))) bg)
  (aw (a7 (tc bv (cF bF hr (a2 '1' ao)) ao) (aA (sv 3 (cF qdf hr (a2 '3' '1')))) bg)
  (aw (sv 1 (cF Ip hr (a2 '0' ao)))
  (aw (sv 4 (cF qdg hr (a2 '3' '1')))
  (aw (sv 5 (qad qdj qaf qdm (by rfl) D6 (aJ '3' (a3 '4' (cF qdh hr (a1 '1')) (cF qdi hr (a2 '3' '1'))))))
  (aw (sv 6 (cF qdl hr (aJ '3' (a3 '4' (cF qdk hr (a3 '3' '4' '5')) (aG bi ao (cF bF hr (a2 '1' ao)))))))
  (aA (aH (a0 (aJ '3' (a3 '4' '5' '6')))))))))))))),?_⟩
 show-⟨a,ns,0,O,hA,{},{},λst H1 cC S1 s1=>?_⟩;dsimp only[aZ];show-⟨a,ns,0,O,Br.sql_same s1 hA,{},{},λgn H2 QH S2 s2=>?_⟩;show⟨gn,8,O,S2,{},{},λr H3 r0 r1 S3 K3=>⟨O,?_⟩⟩;let n2:st≠gn:=λz=>by
  let⟨o,e⟩:=S1.some;rw[z,QH]at e;cases e
 let QI:StOk H3 st:=by
  let⟨x,y,e,z⟩:=S1;show⟨x,y,K3 _ _ n2 (s2 _ _ e),z⟩
 let cH:Same H H3:=λb o e=>K3 _ _ (λz=>by have:=s1.free QH;rw[z,this]at e;cases e) (s2 _ _ (s1 _ _ e))
 clear K3 S3 S2 s2 S1;dsimp only[aZ];generalize decide (V.int r=V.int 6)=wb;show seq_post (λae H'=>∃(H0:Hp) (p:Addr) (sub:List Nd) (ks:List Kd),ae=[!.ref a,!.ref st,!.bl wb,!.ref p,none,none,none]/\Keep1 st H3 H0/\Gw.Kids 0 0 .body [bR] sub ks/\ks≠[]/\sub⁻¹<=50/\(wb=true->sub⁻¹<=33)/\Gs H0 st p H' (bR::sub)) (λD' kk=>?_) ?_
 .refine¬⟨st,4,O,QI,{},{},λr4 H4 ot ou S4 K4=>⟨_,_,O,O,aK,λZ hZ=>?_⟩⟩;let s5:=ar hZ (.lst [.int (1+r4),.int 1]);let lY:af H4 Z (.lst [.int (1+r4),.int 1]) Z=!.lst [.int (1+r4),.int 1]:=aj;generalize af H4 Z (.lst [.int (1+r4),.int 1])=H5 at s5 lY⊢;show-⟨.inr ⟨wb,O,?_⟩⟩;let S5:=S4.same s5;let K5:=K4.trans (s5.keep (N:=λb=>b≠st));cases wb with
  | true =>
    show⟨Z,_,_,_,O,O,ag lY,(show bI [V.int (1+r4),V.int 1] (if true=true then 1 else 0)=!V.int 1from rfl),aK,λY hY=>?_⟩
    let s6:=ar hY (.lst [.int 12,.int 4])
    show-⟨.inr ⟨true,O,Y,_,_,_,O,O,ag aj,(show bI [V.int 12,V.int 4] (if true=true then 1 else 0)=!V.int 4from rfl),st,1,4,O,S5.same s6,{},{},{},{},λp sub ks H' ki le ne G=>kk _ _ ⟨_,p,sub,ks,O,K5.trans s6.keep,ki,ne,(),λ_=>(),G⟩⟩⟩
  | false =>
    obtain⟨m,em⟩:∃m:Nat,(1:Int)+r4=m:=⟨(1+r4).toNat,()⟩
    show⟨Z,_,_,_,O,O,ag lY,(show bI [V.int (1+r4),V.int 1] (if false=true then 1 else 0)=!V.int (1+r4)from rfl),aK,λY hY=>?_⟩
    let s6:=ar hY (.lst [.int 12,.int 4])
    show-⟨.inr ⟨false,O,Y,_,_,_,O,O,ag aj,(show bI [V.int 12,V.int 4] (if false=true then 1 else 0)=!V.int 12from rfl),st,m,12,by rw[em];rfl,S5.same s6,(),(),{},{},λp sub ks H' ki le ne G=>kk _ _ ⟨_,p,sub,ks,O,K5.trans s6.keep,ki,ne,(),(λz=>nomatch z),G⟩⟩⟩
 ext ae H4 ⟨H0,p,sub,ks,rfl,K0,ki,jt,QJ,QK,G⟩;show seq_post (λae H'=>∃(sub:List Nd) (ks:List Kd),ae=[!.ref a,!.ref st,!.bl wb,!.ref p,none,none,none]/\Gw.Kids 0 0 .body [bR] sub ks/\ks≠[]/\sub⁻¹<=61/\Gs H0 st p H' (bR::sub)) (λD' kk=>?_) ?_
 .cases wb with
  | false=>show¬⟨ba (kk _ _ ⟨sub,ks,O,ki,jt,(),G⟩)⟩
  | true=>show¬⟨bL ⟨_,O,_,O,H0,p,st,sub,ks,O,G,ki,QJ,λmore bZ H' ki' l28 G'=>kk _ _ ⟨sub++more,ks++bZ,O,ki',λz=>jt (List.append_eq_nil_iff.mp z).1,by rw[qI];have:=QK O;omega,G'⟩⟩⟩
 clear QJ QK ki jt G sub ks;ext ae H5 ⟨sub,ks,rfl,ki,jt,l61,G⟩;let bk:=qa4 ki jt;let CW:(bR::sub)⁻¹<=62:=by rw[rN];omega
 clear ki jt l61;generalize bR::sub=ds at bk CW G;let gL:Same H H5:=λb o e=>by
  let n:b≠st:=λz=>by rw[z,cC]at e;cases e
  show G.old _ _ n (K0 _ _ n (cH _ _ e))
 let jp:=G.pne;let S5:=G.so;let QL:b8 (λb=>b≠st) H5 p ds:=by
  let⟨ab,e,nd⟩:=G.bk;show⟨ab,e,nd.keep KeepN.refl λb hb _=>G.nst hb⟩
 clear G sub ks;show seq_post (λae H'=>∃(p:Addr) (ds:List Nd),ae=[!.ref a,!.ref st,!.bl wb,!.ref p,none,none,none]/\Book ds/\ds⁻¹<=62/\b8 (λb=>b≠st) H' p ds/\Same H H') (λD' kk=>?_) ?_
 .let ng:∀{J:Hp},Keep1 st H5 J->Same H J:=λk b o e=>k b o (λz=>by rw[z,cC]at e;cases e) (gL _ _ e)
  show-⟨st,12,O,S5,{},{},λr5 H6 BD BE S6 K6=>⟨O,_,O,?_⟩⟩;let⟨ab,e,nd⟩:=QL;let zq:b8 (λb=>b≠st) H6 p ds:=⟨ab,K6 _ _ jp e,nd.keep K6 λ_ z _=>z⟩;show cp (λ_=>?_) (λ_=>?_)
  .show¬⟨p,st,ds,O,zq,jp,bk,(),S6,λp' yb H7 b7 _ bk' l' K7=>kk _ _ ⟨p',yb,O,bk',(),b7,ng (K6.trans K7)⟩⟩
  .show kk _ _ ⟨p,ds,O,bk,CW,zq,ng K6⟩
 clear QL S5 jp gL CW bk K0 QI cH;clear ds p H5;ext ae H5 ⟨p,ds,rfl,bk,CW,⟨ab,hp,nd⟩,gL⟩;show-⟨a,ns,1,O,Br.sql_same gL hA,{},{},λcO H6 mY S6 s6=>?_⟩;dsimp only[aZ];let p1:p≠cO:=λz=>by rw[z,mY]at hp;cases hp
 let zq:b8 (λb=>b≠cO) H6 p ds:=⟨ab,s6 _ _ hp,nd.keep s6.keep λb _ hb z=>by rw[z,mY]at hb;cases hb⟩;let nh:∀{J J':Hp},Keep1 cO J J'->b8 (λb=>b≠cO) J p ds->b8 (λb=>b≠cO) J' p ds:=λk h=>by
  let⟨as,e,n⟩:=h;show⟨as,k _ _ p1 e,n.keep k λ_ z _=>z⟩
 let CY:∀{J:Hp},b8 (λb=>b≠cO) J p ds->b8 (λ_=>True) J p ds:=λh=>by
  let⟨as,e,n⟩:=h;show⟨as,e,n.keep KeepN.refl λ_ _ _=>trivial⟩
 clear nd hp ab;show¬⟨p,cO,ds,O,zq,p1,(),S6,λP' ls H7 hP lP ll sq S7 K7=>?_⟩;dsimp only[aZ];let bk7:=nh K7 zq;let l13:∀l∈ls,l⁻¹=13:=λl hl=>(sq l hl).1
 let lX:∀l∈ls,lK l:=λl hl=>qc7 (sq l hl)
 show¬⟨_,O,cO,O,S7,λF' fs H8 hF lF fne f4 fok fb S8 K8=>?_⟩;let QM:=nh K8 bk7;let lP8:=looks_keep S7 K8 l13 lP;show¬⟨p,cO,ds,O,QM,p1,(),S8,λSh sh H9 hSh lSh QN wd S9 K9=>?_⟩;let CZ:=nh K9 QM;let C0:=looks_keep S8 K9 l13 lP8;let lF9:=qda S8 K9 lF;let sho:oQ sh:=⟨QN.nodup bk.names,by
  let h1:=QN.length_le;rw[qA]at h1;let h2:(fN ds)⁻¹<=ds⁻¹:=by unfold fN;rw[qA];show uB _ _
  omega,λp hp=>(wd p hp).1⟩
 let uc:=qag bk () fne () fok sho;show⟨O,p,P',F',Sh,false,ds,fs,sh,ls,O,CY CZ,C0,ll,l13,lF9,lSh,uc,λU xs H10 hU im eU _ ux=>?_⟩;dsimp only[aZ];let uok:=qa2 (ls:=ls) bk fne fb wd;let eE:∀(n:Nat) (d:Nd),ds[n]?=!d->(d.k=.text\/d.k=.head\/d.k=.note)->bu (iq ds fs sh ls) n≠[]:=λn d e hk=>qa3 bk e hk
 let ul:(iq ds fs sh ls)⁻¹=ds⁻¹:=qa1;let cx:Ctx ds ls (iq ds fs sh ls):=⟨(),ll,ul,λl hl=>(lX l hl).toLkOk,λr hr=>⟨(uok r hr).1,λu hu=>by let⟨⟨h1,_,h2,_⟩,_⟩:=(uok r hr).2 u hu;show⟨(),h2⟩⟩,eE,λn d e hk=>NY bk e hk,λn d e hk=>Zz bk e hk,Zy bk⟩;let lo:GS ds ls (iq ds fs sh ls):=⟨λn=>yC (Im sq (j:=3) O {} n) {},λn=>yC (Im sq (j:=11) O {} n) {},λn=>yC (Im sq (j:=5) O {} n) {},λr hr u hu=>((uok r hr).2 u hu).1.2.1,λd hd hk=>by
  have:=(bk.form d hd).st;rw[hk]at this;let⟨w1,h1,e,_,h2,_⟩:=this;unfold lA;rw[e];show h2⟩
 let rows:∀{J:Hp},KeepN (λb=>H9 b=none) H10 J->LstAt jm J U (iQ ds fs sh false ls):=λk=>qc6 hU eU ux k
 let sr:iq ds fs sh ls=((iQ ds fs sh false ls).map λr=>r.map j7):=rfl;let nn:=FQ cx ds⁻¹ (qG _);let nl:=OJ cx lo ds⁻¹ (qG _);let bl:(xg ds ls (iq ds fs sh ls))⁻¹=ds⁻¹:=qp _;generalize iq ds fs sh ls=us at uok eE ul cx sr nn nl bl;generalize iQ ds fs sh false ls=un at rows sr;show¬⟨_,O,_,O,_,O,p,P',U,ds,ls,us,O,⟨CY (nh im.keep CZ),cS im C0,by rw[sr];show CV (rows KeepN.refl)⟩,cx,λL H11 hL zr lL=>?_⟩;let QO:=im.trans zr;let QP:=S9.same QO;show-⟨cO,200,O,QP,{},{},λrw H12 EL EM S12 K12=>⟨_,_,O,O,?_⟩⟩;let Iq:Keep1 cO H9 H12:=QO.keep.trans K12;let g0:=GT ds⁻¹;show⟨gB ds⁻¹+4000,p,P',L,20+rw,ds,ls,_,O,⟨CY (nh Iq CZ),looks_keep S9 Iq l13 C0,qdb QP K12 lL⟩,⟨(),?_,ll,bl,lX,λb hb=>?_,()⟩,(),(),λSp sp H13 C1 ju lSp jv sb=>?_⟩
 .let⟨d,sub',bZ,rfl,_⟩:=bk.tree;rw[rN];omega
 .let⟨i,hi,rfl⟩:=x8.mp hb;let e:aV (xg ds ls us) i=(xg ds ls us)[i]:=by unfold aV;rw[qB hi];rfl
  rw[<-e];let h1:=nn i;let h2:=nl i;let e2:xg ds ls us=dY ds ls us ds⁻¹:=rfl;rw[e2];show⟨h1.1,()⟩
 dsimp only[aZ];show¬⟨_,O,_,O,aK,λR hR=>?_⟩;let jS:=ju.trans (ar hR (.lst [.ref p,.ref P',.ref U,.ref Sp]));let Ir:Keep1 cO H9 _:=Iq.trans jS.keep;let qdn:Keep1 cO H6 _:=((K7.trans K8).trans K9).trans Ir;let⟨o9,e9⟩:=S9.some;show q R p P' U Sp ds ls un us sp _ (λb o e=>qdn b o (λz=>by have:=gL.free mY;rw[z,this]at e;cases e) (s6 _ _ (gL _ _ e))) aj (CY (nh Ir CZ)) (looks_keep S9 Ir l13 C0) sr (rows λb o n e=>(zr.keep.trans (K12.trans jS.keep)) b o (λz=>by rw[z,e9]at n;cases n) e) (ge (ar hR _) lSp) () (λsz lz=>⟨⟨⟨bk,(),ll,lX,lz⟩,jv⟩,ul,uok,eE,sb.mono (qa5 _ ())⟩) (qc8 sq (j:=2) O {})
end K31
namespace K31
open L2 Bk Gen Gd Sp0
abbrev QQ:=top 111
abbrev QR:=top 80
abbrev QS:=top 79
def qdo(F:Fu K "_law_whole" QQ f fd)(T:mH mg):(~~~0) 1 f fd ["_law_found"] E2:=by
 rcases F.go ["_law_found"] with⟨v,rfl,q⟩;show⟨_,(aA (aH (UW (Bz T.isinstance (by rfl) T.int (by rfl) qf '0') (Km (Kn (Bz T.isinstance (by rfl) T.bool (by rfl) W5 '0')))))),_,O,_,_,_,_,O,.int v,⟨_,λu r=>r,XJ⟩,_,O,bL ?_⟩;show-⟨_,_,_,_,O,.int v,⟨_,λu r=>r,XM⟩,_,O,?_⟩;show q
def qdp(F:Fu K "end_of" QR f fd)(U:BL mg):(~~~0) 1 f fd ["place"] F9:=by
 rcases F.go ["place"] with⟨a,p,rfl,ha,q⟩;let⟨_,mZ⟩:=U.row;let⟨_,HJ⟩:=U.deep;show⟨_,(aA (aH (aG bi (px aI '0' (gi mZ)) (px aI '0' (gi HJ))))),?_⟩;show-⟨a,_,_,_,O,O,aD ha,O,_,O,a,_,_,_,O,O,aD ha,O,_,_,O,O,q⟩
def qdq(F:Fu K "grid_highs" QS f fd)(T:mH mg)(U:BL mg)(QT:⋯ 1 "end_of" ["place"] F9):(~~~0) 2 f fd ["places", "highs"] Ck:=by
 rcases F.go ["places", "highs", "told", "row", "needed"] with⟨a,b,ps,hs,rfl,⟨as,ha,pr⟩,hb,ok,q⟩;let⟨_,mZ⟩:=U.row;let la:=qS pr;let lh:=ok.len;let l20:=ok.le;let m80:=ok.many;show⟨_,(aw (sv 2 (a0 bE))
  (aw (fv (r1 T.range (yu true (by rfl) (by rfl) T.max dP (a1 (cm ["place"] [] [] (a6 '0') (nv 0) bj (cF QT hr (a1 '0')))) ao)) (nv 3)
  (aw (sm 4 ["place", "high"] ["told", "row"] [2,3] (BM (by rfl) T.zip (a2 '0' '1')) (mC K (n:=2) (by rfl) (by rfl) (bD (nv 0) (bD (nv 1) dQ))) (iJ (tc bv (cF QT hr (a1 '0')) (aG bi '3' ao))) (aG dC '1' (cb (r:=xa K) (Gm K (by rfl) (by rfl)) T.sum fZ (a1 (kJ (r:=pT K) (Fv K (by rfl)) '2' (jc (px (r:=bU K) aI '0' (gi mZ))) nY)))))
  (aA (cq (ap '2' (cb (mK (by rfl)) T.max dP (a1 (aG kM (a0 (a1 ao)) '4'))))))))
  (aA (aH '2')))),?_⟩
 show⟨aK,λL hL=>?_⟩;let s1:=ar hL (.lst []);let bG:af H L (.lst []) L=!.lst ⇑([]:TN):=aj;generalize af H L (.lst [])=H1 at s1 bG⊢;show-⟨a,O,⟨_,ag (s1 _ _ ha)⟩,bx (xs:=↑as) (λi ys ae H'=>H'=H1/\ys=⇑((c8 ps).take i)/\∃z,ae=[z]) (by rw[qA];show aR ()) ⟨O,O,none,O⟩ ?_ ?_ ?_⟩
 .ext i ys ae H' hi ⟨rfl,rfl,_⟩;show ag (s1 _ _ ha)
 .ext i y ys ae H' hy ⟨rfl,rfl,z,rfl⟩;let⟨c,ec,rfl⟩:=cE hy;let⟨p,ep,hc⟩:=bN pr ec;show-⟨c,p,O,s1 _ _ hc,O,?_,_,O⟩;let ee:(c8 ps)[i]?=!(p.r:Int)+p.d:=by unfold c8;rw[qJ,ep];rfl
  rw[qP,ee,qD];rfl
 ext ys ae H' ⟨rfl,rfl,_⟩ D hD;let el:⇑((c8 ps).take (↑as)⁻¹)=⇑(c8 ps):=by
  rw[qH (by unfold c8;rw[qA,qA];omega)]
 rw[el];let sD:=ar hD (.lst ⇑(c8 ps));let dL:af H' D (.lst ⇑(c8 ps)) D=!.lst ⇑(c8 ps):=aj;let s2:=s1.trans sD;let eF:=sD _ _ bG;generalize af H' D (.lst ⇑(c8 ps))=H2 at sD dL s2 eF⊢;show⟨D,c8 ps,.int (many ps),O,ag dL,λz=>?_,λz=>⟨_,qaj λe=>z (by rw[e];rfl),O,Os⟩,_,O,(),(),gp (λi σ H3=>Same H H3/\(∃z3 z4,σ=[!.ref a,!.ref b,!.ref L,z3,z4])/\H3 L=!.lst ⇑(bc (ps.zip hs) i)) ⟨s2,⟨none,none,O⟩,eF⟩ ?_ ?_⟩
 .rw[Ca,z];rfl
 .rintro i σ H3 hi ⟨s3,⟨z3,z4,rfl⟩,cK⟩;rw[show(0:Int)+(i:Int)=(i:Int)from uE _];let lz:(↑as)⁻¹=(⇑hs)⁻¹:=by rw[qA,qA];omega
  show¬⟨a,b,O,⟨_,ag (s3 _ _ ha)⟩,⟨_,ag (s3 _ _ hb)⟩,Fy (xs:=↑as) (ys:=⇑hs) lz (λj ys ae H4=>Same H3 H4/\ys=⇑(eC ((ps.zip hs).take j) (bc (ps.zip hs) i) i)/\∃z1 z2,ae=[z1,z2,!.ref L,!.int i]) (by rw[qA];show aR ()) ⟨Same.refl _,O,none,none,O⟩ ?_ ?_ ?_⟩
  .ext j ys ae H4 hj ⟨s4,rfl,_⟩;show⟨ag ((s3.trans s4) _ _ ha),ag ((s3.trans s4) _ _ hb)⟩
  .ext j x y ys ae H4 T' hx hy hT ⟨s4,rfl,z1,z2,rfl⟩;let⟨c,ec,rfl⟩:=cE hx;let⟨n,en,rfl⟩:=oV hy;let⟨p,ep,hc⟩:=bN pr ec;let ez:=qao ep en;let sT:=ar hT (.tup [.ref c,.int n]);let fw:af H4 T' (.tup [.ref c,.int n]) T'=!.tup [.ref c,.int n]:=aj;let fJ:=s4.trans sT;generalize af H4 T' (.tup [.ref c,.int n])=H5 at sT fw fJ⊢;let QU:PlAt H5 c p:=(s3.trans fJ) _ _ hc;let jx:=fJ _ _ cK;show⟨T',_,O,aD fw,O,_,_,O,_,_,O,O,_,O,c,p,O,QU,_,O,_,_,O,O,O,_,O,?_⟩;let et:(ps.zip hs).take (j+1)=(ps.zip hs).take j++[(p,n)]:=by rw[qP,ez];rfl
   by_cases Iu:p.r+p.d=i+1
   .show gP (show V.int ((p.r:Int)+p.d)=V.int ((i:Int)+1) by congr 1;omega) ⟨_,O,_,O,_,O,c,_,_,_,O,O,aD QU,O,_,O,L,_,O,ag jx,λS hS=>?_⟩;let pd:=(ok.ro p (qL ep)).1;let sS:=ar hS (.lst (dU ⇑(bc (ps.zip hs) i) (!(p.r:Int)) none));rw[qap]at sS⊢;show⟨S,_,O,ag aj,_,_,O,O,?_⟩
    .show⟨fJ.trans sS,?_,_,_,O⟩;rw[et,Ot,qZ Iu,qD];rfl
   .show iH (show¬V.int ((p.r:Int)+p.d)=V.int ((i:Int)+1)from λz=>Iu (by have:=V.int.inj z;omega)) ⟨fJ,?_,_,_,O⟩;rw[et,Ot,qX Iu,rS]
  .ext ys ae H4 ⟨s4,rfl,z1,z2,rfl⟩ N hN;let en:(ps.zip hs).take (↑as)⁻¹=ps.zip hs:=qH (by rw[qA,List.length_zip];omega);rw[en];let sN:=ar hN (.lst ⇑(eC (ps.zip hs) (bc (ps.zip hs) i) i));let gu:af H4 N (.lst ⇑(eC (ps.zip hs) (bc (ps.zip hs) i) i)) N=!.lst ⇑(eC (ps.zip hs) (bc (ps.zip hs) i) i):=aj;let su:=s4.trans sN;generalize af H4 N (.lst ⇑(eC (ps.zip hs) (bc (ps.zip hs) i) i))=H5 at sN gu su⊢;let jx:=su _ _ cK;let ln:(eC (ps.zip hs) (bc (ps.zip hs) i) i)⁻¹<=100:=by
    unfold eC;rw[qA];show rK (uB _ _) ?_;rw[List.length_zip];omega
   show-⟨.inl ⟨O,_,ag jx⟩,aK,λZ hZ=>?_⟩;let sZ:=ar hZ (.lst [.int 0]);let lY:af H5 Z (.lst [.int 0]) Z=!.lst [.int 0]:=aj;let QV:=sZ _ _ gu;let kq:=sZ _ _ jx;let zt:=su.trans sZ;generalize af H5 Z (.lst [.int 0])=H6 at sZ lY QV kq zt⊢;show-⟨Z,N,_,_,O,O,lY,QV,by rw[qA];show rX (aR (by show 1+_<=1000;omega)),λC hC=>?_⟩;let sC:=ar hC (.lst ([.int 0]++⇑(eC (ps.zip hs) (bc (ps.zip hs) i) i)));let nj:af H6 C (.lst ([.int 0]++⇑(eC (ps.zip hs) (bc (ps.zip hs) i) i))) C=!.lst ⇑([0]++eC (ps.zip hs) (bc (ps.zip hs) i) i):=by rw[aj,qD];rfl
   let sw:=sC _ _ kq;let QW:=zt.trans sC;generalize af H6 C (.lst ([.int 0]++⇑(eC (ps.zip hs) (bc (ps.zip hs) i) i)))=H7 at sC nj sw QW⊢;show⟨C,_,_,O,ag nj,Oq _,qah _,L,_,_,O,O,sw,aR (by rw[qA,oU];omega),gZ (s3.trans QW) hL,⟨_,_,O⟩,?_⟩;rw[aj,bc,qD];rfl
 .ext σ H3 ⟨s3,⟨z3,z4,rfl⟩,cK⟩;rw[yR]at cK;show-⟨q L H3 hL s3 cK⟩
end K31
namespace K31
open L2 Bk Gen Gd Bd Ins
abbrev QX:=top 15
abbrev QY:=top 123
def zu:Option Nat->V
 | none=>.non
 | some m=>.int (m:Int)
inductive o8:List V->Hp->VK->XK->Prop
|m (B:Addr) (n:Nat) (ds:List Nd):vs=[.ref B,.int n]->b8 (λ_=>True) H B ds->Book ds->ds⁻¹<=100->n<ds⁻¹->(∀H',Same H H'->Q (zu (cz ds n)) H')->o8 vs H Q E
def QZ{n:Nat}(e:ds[n]?=!d)(h:d.k≠.text):cz ds n=none:=by
 unfold cz;rw[e];show qX h
def Q0{n:Nat}(e:ds[n]?=!d)(h:d.k=.text):cz ds n=(b9 ds d.e n).getLast?.filter (cJ ds):=by
 unfold cz;rw[e];show qZ h
def qdr(F:Fu K "aside_ahead" QX f fd)(tE:∃t,mg "ELDER" = !.int 0 t)(tK:∃t,mg "KIND" = !.int 1 t)(jr:⋯ 1 "holds" ["book", "node"] mU):(~~~0) 2 f fd ["book", "node"] o8:=by
 rcases F.go ["book", "node", "held", "place"] with⟨B,n,ds,rfl,⟨as,hB,nd⟩,bk,le,hn,q⟩;let⟨_,rg⟩:=tE;let⟨_,eY⟩:=tK;obtain⟨d,ed⟩:∃d,ds[n]?=!d:=⟨_,qB hn⟩;let⟨a,ea,na⟩:=nd.get ed;let⟨m',s',ha,_⟩:=na.ex;show⟨_,(aw (a7 (tc iE (px aI (px aE '0' '1') (gi eY)) aQ) (aA (aH pJ)) bg)
  (aw (sv 2 (cF jr hr (a2 '0' (px aI (px aE '0' '1') (gi rg)))))
  (aw (sv 3 (jK xX PySem.F.slot_list_index PySem.F.type_list_index Ob '2' (a1 '1')))
  (aw (a7 (PW.pt (jI (tc bv '3' ao) (l5 (tc iE (px aI (px aE '0' (px aE '2' (aG dC '3' ao))) (gi eY)) aQ)))) (aA (aH pJ)) bg)
  (aA (aH (px aE '2' (aG dC '3' ao)))))))),?_⟩
 show¬⟨B,_,_,_,O,O,ag hB,aU ea,a,_,_,_,O,O,aD ha,O,O,_,O,?_⟩;rw[show decide (V.str d.k.s=V.str (s!"text"))=decide (d.k=.text)from bB d.k .text]
 by_cases hk:d.k=.text
 .rw[qQ hk];show ba ?_;let eb:=Q0 ed hk;obtain⟨e,he⟩:∃e:Nat,d.e=(e:Int)/\e<n:=by
   rcases(Bk.Book.each bk ed).up with⟨z,_⟩ | ⟨_,j,_,ej,lt,_⟩
   .have:=(Bk.Book.each bk ed).body.mpr z;rw[hk]at this;cases this
   .show⟨j,ej,lt⟩
  let⟨he,hen⟩:=he;show¬⟨_,O,B,_,_,_,O,O,ag hB,aU ea,a,_,_,_,O,O,aD ha,O,B,e,ds,_,by rw[he];rfl,⟨as,hB,nd⟩,(),(),λK0 H1 hK s1 bX=>?_⟩;let⟨r,er⟩:=OE ed he;let hO:H1 K0=!.lst (((ay ds e).map λ(j:Nat)=>!(j:Int)).map Br.ov):=by
   rw[bX,rZ,rZ];rfl
  let kl:=lE ds e;rw[he]at eb;show-⟨.inl ⟨O,_,ag hO⟩,_,O,K0,_,(n:Int),(b9 ds e n)⁻¹,O,O,hO,by rw[qA];omega,?_,λi hi=>?_,?_⟩
  .rw[qJ,er,rG (qG _),Nat.sub_self];rfl
  .rw[qJ,er,rY hi,qB hi];intro z;let z:(((b9 ds e n)[i]:Nat):Int)=(n:Int):=rD (rD z);have:=qx (rJ hi);omega
  dsimp only[aZ];show-⟨O,_,O,?_⟩;rcases List.eq_nil_or_concat (b9 ds e n)with z | ⟨ys,b,z⟩
  .rw[z]at eb⊢;rw[qQ (show V.int (([]:TM)⁻¹:Int)=V.int 0 from rfl)];let q2:=q H1 s1;rw[eb]at q2;show bL (bL q2)
  .rw[List.concat_eq_append]at z;let lz:(b9 ds e n)⁻¹=ys⁻¹+1:=by rw[z,qI];rfl
   rw[rB (λy=>by have:=V.int.inj y;omega:¬V.int ((b9 ds e n)⁻¹:Int)=V.int 0)];let Iv:b∈b9 ds e n:=by rw[z];simp
   let hb:b<ds⁻¹:=uK (qx Iv) hn;obtain⟨db,zw⟩:∃d,ds[b]?=!d:=⟨_,qB hb⟩;let⟨c,ec,nc⟩:=nd.get zw;let⟨_,_,hc,_⟩:=nc.ex;let zx:bI ⇑((ay ds e).map λ(j:Nat)=>(j:Int)) (((b9 ds e n)⁻¹:Int)-1)=!.int (b:Int):=by
    rw[show((b9 ds e n)⁻¹:Int)-1=((ys⁻¹:Nat):Int) by omega];show eQ ?_;rw[qJ,qJ,er,z,xE,rG (qG _),Nat.sub_self];rfl
   show ba ⟨_,O,_,O,_,O,_,_,O,O,K0,_,_,_,O,O,ag bX,zx,B,_,_,_,O,O,ag (s1 _ _ hB),aU ec,c,_,_,_,O,O,aD (s1 _ _ hc),O,O,_,O,?_⟩;rw[show decide (V.str db.k.s=V.str (s!"aside"))=decide (db.k=.aside)from bB db.k .aside];let eA:cJ ds b=decide (db.k=.aside):=by
    unfold cJ;rw[zw]
    by_cases y:db.k=.aside<;>simp[y]
   let q2:=q H1 s1;rw[eb,z,List.getLast?_append]at q2
   by_cases hA:db.k=.aside
   .rw[qQ hA];let e3:(([b].getLast?.or ys.getLast?).filter (cJ ds))=!b:=by simp[Option.filter,eA,hA]
    rw[e3]at q2;show ba ⟨_,O,_,O,_,_,O,O,K0,_,_,_,O,O,ag bX,zx,q2⟩
   .rw[rB hA];let e3:(([b].getLast?.or ys.getLast?).filter (cJ ds))=none:=by simp[Option.filter,eA,hA]
    rw[e3]at q2;show bL q2
 .rw[rB hk];let q2:=q H (Same.refl H);rw[QZ ed hk]at q2;show bL q2
def qds(F:Fu K "_law_beside" QY f fd)(T:bO mg):(~~~0) 1 f fd ["_law_book_here", "_law_node"] o8:=by
 rcases F.go ["_law_book_here", "_law_node", "_law_some"] with⟨B,n,ds,rfl,⟨as,hB,nd⟩,bk,le,hn,q⟩;let hu:=hr.units;obtain⟨d,ed⟩:∃d,ds[n]?=!d:=⟨_,qB hn⟩;let⟨a,ea,na⟩:=nd.get ed;let⟨m',s',ha,_⟩:=na.ex;show⟨_,(aw (sm 2 ["_law_k"] ["_law_book_here", "_law_node"] [0,1] (r1 T.range '1') (nv 0) (iJ (tc bv (px (r:=bU K) aI (px (r:=cI K) aE '1' '0') ao) (px (r:=bU K) aI (px (r:=cI K) aE '1' '2') ao))) '0')
  (aw (a7 (PW.pt (iC (tc bv (px aI (px aE '0' '1') ao) aQ) (iC (tc (qba hu) '2' (a0 bE)) (jH (tc bv (px aI (px aE '0' (px aE '2' (dM dN ao))) ao) aQ))))) (aA (aH (px aE '2' (dM dN ao)))) bg)
  (aA (aH pJ)))),?_⟩
 show¬⟨(),(),jO (n:=n) (λi ys ae H'=>H'=H/\ys=(b9 ds d.e i).map (λ(j:Nat)=>V.int (j:Int))/\∃z,ae=[z,!.ref B,!.int n]) (aR ()) ⟨O,O,none,O⟩ ?_ ?_⟩
 .ext i ys ae H' hi ⟨rfl,rfl,z,rfl⟩;rw[show(0:Int)+(i:Int)=(i:Int)from uE _];let Q2:ds[i]?=!ds[i]:=qB ();let⟨ai,eai,nai⟩:=nd.get Q2;let⟨_,_,hai,_⟩:=nai.ex;let more:b9 ds d.e (i+1)=b9 ds d.e i++(if ds[i].e=d.e then[i]else[]):=by
   unfold b9;rw[u8,xB]
   congr 1
   by_cases h1:ds[i].e=d.e<;>simp[Q2,h1]
  show¬⟨B,_,_,_,O,O,ag hB,aU eai,ai,_,_,_,O,O,aD hai,O,_,O,_,O,B,_,_,_,O,O,ag hB,aU ea,a,_,_,_,O,O,aD ha,O,O,_,O,?_⟩
  by_cases he:ds[i].e=d.e
  .show gP (xJ V.int he) ⟨_,O,O,?_,_,O⟩;rw[more,qZ he,qD];rfl
  .rw[rB λz=>he (V.int.inj z)];show ba ⟨O,?_,_,O⟩;rw[more,qX he,rS]
 .rintro ys ae H' ⟨rfl,rfl,_⟩ L hL;let s1:=ar hL (.lst ((b9 ds d.e n).map (λ(j:Nat)=>V.int (j:Int))));let bG:af H' L (.lst ((b9 ds d.e n).map (λ(j:Nat)=>V.int (j:Int)))) L=!.lst ((b9 ds d.e n).map (λ(j:Nat)=>V.int (j:Int))):=aj;generalize af H' L (.lst ((b9 ds d.e n).map (λ(j:Nat)=>V.int (j:Int))))=H1 at s1 bG⊢;show¬⟨B,_,_,_,O,O,ag (s1 _ _ hB),aU ea,a,_,_,_,O,O,aD (s1 _ _ ha),O,O,_,O,?_⟩
  by_cases hk:d.k=.text
  .refine fT (bB d.k .text) hk ?_;let eb:=Q0 ed hk;show-⟨aK,λZ hZ=>?_⟩;let s2:=ar hZ (.lst []);let iw:=s1.trans s2;let eF:=s2 _ _ bG;show⟨L,Z,_,O,O,eF,aj,_,O,?_⟩;generalize af H1 Z (.lst [])=H2 at s2 iw eF⊢;let q2:=q H2 iw;rw[eb]at q2;rcases List.eq_nil_or_concat (b9 ds d.e n)with z | ⟨ys,b,z⟩
   .rw[z]at q2⊢;show ba (ba q2)
   .rw[List.concat_eq_append]at z;let Iv:b∈b9 ds d.e n:=by rw[z];simp
    let hb:b<ds⁻¹:=uK (qx Iv) hn;obtain⟨db,zw⟩:∃d,ds[b]?=!d:=⟨_,qB hb⟩;let⟨c,ec,nc⟩:=nd.get zw;let⟨_,_,hc,_⟩:=nc.ex;let zx:bI ((b9 ds d.e n).map (λ(j:Nat)=>V.int (j:Int))) (-1)=!.int (b:Int):=by
     rw[z,qD];show L2.atI_last _ _
    let ne:((Bool.not (((b9 ds d.e n).map (λ(j:Nat)=>V.int (j:Int))).isEmpty)))=true:=by rw[z];simp
    rw[qZ O,ne];show bL ⟨_,O,_,O,_,O,L,_,_,_,O,O,ag eF,zx,B,_,_,_,O,O,ag (iw _ _ hB),aU ec,c,_,_,_,O,O,aD (iw _ _ hc),O,O,_,O,?_⟩;rw[show decide (V.str db.k.s=V.str (s!"aside"))=decide (db.k=.aside)from bB db.k .aside];let eA:cJ ds b=decide (db.k=.aside):=by
     unfold cJ;rw[zw]
     by_cases y:db.k=.aside<;>simp[y]
    rw[z,List.getLast?_append]at q2
    by_cases hA:db.k=.aside
    .show gP hA ?_;let e3:(([b].getLast?.or ys.getLast?).filter (cJ ds))=!b:=by simp[Option.filter,eA,hA]
     rw[e3]at q2;show¬⟨L,_,_,_,O,O,ag eF,zx,q2⟩
    .show iH hA ?_;let e3:(([b].getLast?.or ys.getLast?).filter (cJ ds))=none:=by simp[Option.filter,eA,hA]
     rw[e3]at q2;show q2
  .show fU (bB d.k .text) hk ?_;let q2:=q H1 s1;rw[QZ ed hk]at q2;show(ba q2)
end K31
namespace K31
open L2 Bk Gen Gd Bd Shr Sp0 Ins
abbrev Q3:=top 106
abbrev Q4:=top 107
def qdt:iP (s!"above") 2:=⟨by ac_rfl,by ac_rfl⟩
def qdu(F:Fu K "tops_in_grid" Q3 f fd)(T:bO mg)(tS:∃t,mg "SIZE_HIGH" = !.int 0 t)(tR:∃t,mg "ROW" = !.int 0 t)(HU:⋯ 2 "cells_of" ["looks", "held"] Cg)(zg:⋯ 3 "grid_places" ["columns", "cells"] ww)(Iw:⋯ 2 "grid_highs" ["places", "highs"] Ck):(~~~0) 4 f fd ["looks", "sizes", "columns", "held"] GD:=by
 rcases F.go ["looks", "sizes", "columns", "held", "places", "highs"] with⟨p,S,k,cols,ks,ls,sz,rfl,lk,lS,hk,sA,kin,cy,lV,c1,c6,q⟩;let⟨_,pi⟩:=tS;let⟨_,mZ⟩:=tR;show⟨_,(aw (sv 4 (cF zg hr (a2 '2' (cF HU hr (a2 '0' '3')))))
  (aw (sv 5 (cF Iw hr (a2 '4' (cm ["one"] ["sizes"] [1] (a6 '3') (nv 0) bj (px (r:=bU K) aI (px (r:=cI K) aE '1' '0') (gi pi))))))
  (aA (aH (cm ["one", "place"] ["highs"] [5] (BM (by rfl) T.zip (a2 '3' '4')) (mC K (n:=2) (by rfl) (by rfl) (bD (nv 0) (bD (nv 1) dQ))) bj (br (a2 '0' (cb (r:=xa K) (Gm K (by rfl) (by rfl)) T.sum fZ (a1 (kJ (r:=pT K) (Fv K (by rfl)) '2' nY (jc (px (r:=bU K) aI '1' (gi mZ))))))))))))),?_⟩
 let cl:(bP ls ks)⁻¹=ks⁻¹:=xy;show¬⟨_,O,p,k,ks,ls,O,lk,hk,sA,λm hm=>(kin m hm).1,cy,λC H1 hC s1 lC=>?_⟩;show⟨C,cols,bP ls ks,O,lC,lV,(),c1,c6,λM H2 ps hM s2 lM pd lR=>?_⟩;let ep:=pd.eq;let lp:=pd.len;let bo:=s1.trans s2;dsimp only[aZ];let⟨as,hS,pr⟩:=GC bo lS;let gE:KL H2 k ks:=bo _ _ hk;show¬⟨k,O,⟨_,ag gE⟩,bx (xs:=⇑(ks.map λ(j:Nat)=>(j:Int))) (λi ys ae H'=>H'=H2/\(∃z,ae=[z,!.ref S])/\ys=⇑((ks.map (aM sz)).take i)) (by rw[qA,qA];show aR ()) ⟨O,⟨none,O⟩,O⟩ ?_ ?_ ?_⟩
 .ext i ys ae H' hi ⟨rfl,_,rfl⟩;show ag gE
 .ext i y ys ae H' hy ⟨rfl,⟨z,rfl⟩,rfl⟩;let⟨m,em,rfl⟩:=eD hy;let⟨a,_,_,_,ea,ha⟩:=lO pr (kin m (qL em)).2;show¬⟨S,_,_,_,O,O,ag hS,aU ea,a,_,_,_,O,O,aD ha,O,O,⟨_,O⟩,?_⟩;let ec:(ks.map (aM sz))[i]?=!aM sz m:=by rw[qJ,em];rfl
  rw[qP,ec,qD];rfl
 ext ys ae H' ⟨rfl,_,rfl⟩ D hD;rw[qH (by rw[qA,qA,qA];show qG _)];let s3:=ar hD (.lst ⇑(ks.map (aM sz)));let dL:af H' D (.lst ⇑(ks.map (aM sz))) D=!.lst ⇑(ks.map (aM sz)):=aj;generalize af H' D (.lst ⇑(ks.map (aM sz)))=H3 at s3 dL⊢;let hs:=lR.hs (hs:=ks.map (aM sz)) () (by rw[qA];omega);show⟨M,D,ps,_,O,gd (λ_ _ z=>s3 _ _ z) s3 lM,dL,hs,λN H4 hN s4 gu=>?_⟩;let fJ:=s3.trans s4;let iu:=bo.trans fJ;dsimp only[aZ];let⟨bs,Q5,kr⟩:=gd (F:=PlAt) (λ_ _ z=>fJ _ _ z) fJ lM;let lb:bs⁻¹=ks⁻¹:=by have:=qS kr;omega
 let zy:KL H4 k ks:=iu _ _ hk;rw[ep]at kr gu lp;let gl:(io ls (aM sz) cols ks)⁻¹=ks⁻¹:=by unfold io;rw[qA,List.length_zip];omega
 show¬⟨k,M,O,⟨_,ag zy⟩,⟨_,ag Q5⟩,Fy (xs:=⇑(ks.map λ(j:Nat)=>(j:Int))) (ys:=↑bs) (by rw[qA,qA,qA];omega) (λi ys ae H'=>Same H4 H'/\(∃z0 z1,ae=[z0,z1,!.ref N])/\∃ts,ys=↑ts/\Paired (Br.PnAt H') ts ((io ls (aM sz) cols ks).take i)) (by rw[qA,qA];show aR ()) ⟨Same.refl _,⟨none,none,O⟩,[],O,.nil⟩ ?_ ?_ ?_⟩
 .ext i ys ae H' hi ⟨s5,_,ts,rfl,pt⟩;show⟨ag (s5 _ _ zy),ag (s5 _ _ Q5)⟩
 .ext i x y ys ae H' T' hx hy hT ⟨s5,⟨z0,z1,rfl⟩,ts,rfl,pt⟩;let⟨m,em,rfl⟩:=eD hx;let⟨b,eb,rfl⟩:=cE hy;let⟨pl,epl,hb⟩:=bN kr eb;let sT:=ar hT (.tup [.int (m:Int),.ref b]);let s6:=s5.trans sT;let Q6:Paired (Br.PnAt (af H' T' (.tup [.int (m:Int),.ref b]))) ts ((io ls (aM sz) cols ks).take i):=pt.mono λ_ _ z=>sT _ _ z
  show⟨T',_,O,aD aj,O,_,_,O,_,_,O,O,?_⟩;generalize af H' T' (.tup [.int (m:Int),.ref b])=H6 at s6 Q6⊢;show¬⟨_,O,b,_,_,_,O,O,aD (s6 _ _ hb),O,(pl.r:Int),O,N,_,O,ag (s6 _ _ gu),λZ hZ=>?_⟩;rw[Gk];let s7:=ar hZ (.lst ⇑((bc ((dH cols (bP ls ks)).zip (ks.map (aM sz))) (many (dH cols (bP ls ks)))).take pl.r));show⟨Z,_,O,ag aj,aK,λt ht=>?_⟩;let s8:=s7.trans (ar ht (.tup [.int (m:Int),.int ((bc ((dH cols (bP ls ks)).zip (ks.map (aM sz))) (many (dH cols (bP ls ks)))).take pl.r).sum]));show⟨s6.trans s8,⟨_,_,O⟩,ts++[t],by rw[qD];rfl,?_⟩;let ec:(io ls (aM sz) cols ks)[i]?=!(m,((bc ((dH cols (bP ls ks)).zip (ks.map (aM sz))) (many (dH cols (bP ls ks)))).take pl.r).sum):=by
   unfold io;have:(ks.zip (dH cols (bP ls ks)))[i]?=!(m,pl):=List.getElem?_zip_eq_some.mpr ⟨em,epl⟩;rw[qJ,this];rfl
  rw[qP,ec];show(Q6.mono λ_ _ z=>s8 _ _ z).snoc aj
 .ext ys ae H' ⟨s5,_,ts,rfl,pt⟩ D hD;rw[qH (by rw[gl,qA,qA];show qG _)]at pt;let gL:=iu.trans s5;show q D _ (gL.free hD) (gL.trans (ar hD _)) ⟨ts,aj,pt.mono λ_ _ z=>ar hD _ _ _ z⟩
end K31
namespace K31
open L2 Bk Gd Bd Shr Sp0 Ins
open Gen
def qdv(F:Fu K "tops_in_pile" Q4 f fd)(T:bO mg)(tS:∃t,mg "SIZE_HIGH" = !.int 0 t)(tK:∃t,mg "KIND" = !.int 1 t)(cA:⋯ 1 "look_at" ["looks", "node", "word"] fK)(Ix:⋯ 2 "aside_ahead" ["book", "node"] o8):(~~~0) 3 f fd ["book", "looks", "sizes", "held"] GF:=by
 rcases F.go ["book", "looks", "sizes", "held", "tops", "bottom", "one", "above", "top", "aside", "beside"] with⟨B,p,S,k,ks,ds,ls,sz,rfl,I,cx,hk,sA,kin,q⟩;let⟨_,pi⟩:=tS;let⟨_,eY⟩:=tK;show⟨_,(aw (sv 4 (a0 bE))
  (aw (sv 5 ao)
  (aw (fv (a6 (cm ["other"] ["book"] [0] (a6 '3') (nv 0) (iJ (tc iE (px (r:=bU K) aI (px (r:=cI K) aE '1' '0') (gi eY)) aQ)) '0')) (nv 6)
  (aw (sv 7 (kE (tc tQ (ln T.len '4') ao) (cF cA hr (a3 '1' '6' aQ)) ao))
  (aw (sv 8 (aG bi '5' '7'))
  (aw (sv 9 (cF Ix hr (a2 '0' '6')))
  (aw (sv 10 (kE (kC (AM '9')) (a0 (a1 '6')) (a0 (a2 '9' '6'))))
  (aw (cq (jK xX v3 v5 Lr '4' (a1 (cm ["each"] ["top"] [8] (a6 ':') (nv 0) bj (br (a2 '0' '1'))))))
  (aA (sv 5 (aG bi '8' (cb (mK (by rfl)) T.max dP (a1 (cm ["each"] ["sizes"] [2] (a6 ':') (nv 0) bj (px (r:=bU K) aI (px (r:=cI K) aE '1' '0') (gi pi))))))))))))))
  (aA (aH '4'))))),?_⟩
 show⟨aK,λL hL=>?_⟩;let s1:=ar hL (.lst []);let bG:af H L (.lst []) L=!.lst ↑([]:TQ):=aj;generalize af H L (.lst [])=H1 at s1 bG⊢;let⟨ab,hB,nd⟩:=(I.same s1).bk;let cQ:KL H1 k ks:=s1 _ _ hk;show-⟨k,O,⟨_,ag cQ⟩,bx (xs:=⇑(ks.map λ(j:Nat)=>(j:Int))) (λi ys ae H'=>H'=H1/\(∃z,ae=[z,!.ref B])/\ys=⇑(((ks.take i).filter λm=>(Bool.not (cJ ds m))).map λ(j:Nat)=>(j:Int))) (by rw[qA,qA];show aR ()) ⟨O,⟨none,O⟩,O⟩ ?_ ?_ ?_⟩
 .ext i ys ae H' hi ⟨rfl,_,rfl⟩;show ag cQ
 .ext i y ys ae H' hy ⟨rfl,⟨z,rfl⟩,rfl⟩;let⟨m,em,rfl⟩:=eD hy;let hm:=kin m (qL em);obtain⟨d,ed⟩:∃d,ds[m]?=!d:=⟨_,qB hm⟩;let⟨a,ea,na⟩:=nd.get ed;let⟨_,_,ha,_⟩:=na.ex;let et:ks.take (i+1)=ks.take i++[m]:=by rw[qP,em];rfl
  let eA:cJ ds m=decide (d.k=.aside):=by
   unfold cJ;rw[ed]
   by_cases y:d.k=.aside<;>simp[y]
  show¬⟨B,_,_,_,O,O,ag hB,aU ea,a,_,_,_,O,O,aD ha,O,O,_,O,?_⟩;rw[show decide (V.str d.k.s=V.str (s!"aside"))=decide (d.k=.aside)from bB d.k .aside]
  by_cases hA:d.k=.aside
  .rw[qQ hA];show ba ⟨O,⟨_,O⟩,?_⟩;rw[et,xB];simp[eA,hA]
  .rw[rB hA];show bL ⟨_,O,O,⟨_,O⟩,?_⟩;rw[et,xB];simp[eA,hA]
 ext ys ae H' ⟨rfl,_,rfl⟩ D hD;rw[qH (by rw[qA,qA];show qG _)];let Q7:∀m∈ks.filter λm=>(Bool.not (cJ ds m)),m<ds⁻¹:=λm hm=>kin m (xL.mp hm).1
 let qdw:(ks.filter λm=>(Bool.not (cJ ds m)))⁻¹<=100:=rK (uB _ _) sA;let Q8:eW ds ls (aM sz) ks=(ks.filter λm=>(Bool.not (cJ ds m))).foldl (dJ ds ls (aM sz)) ([],0):=rfl;generalize (ks.filter λm=>(Bool.not (cJ ds m)))=fl at Q7 qdw Q8⊢;let s2:=ar hD (.lst ⇑(fl.map λ(j:Nat)=>(j:Int)));let dL:KL (af H' D (.lst ⇑(fl.map λ(j:Nat)=>(j:Int)))) D fl:=aj;let DL:D≠L:=λz=>by rw[z,bG]at hD;cases hD
 let eF:=s2 _ _ bG;let bo:=s1.trans s2;generalize af H' D (.lst ⇑(fl.map λ(j:Nat)=>(j:Int)))=H2 at s2 dL eF bo⊢;let sm:∀{G:Hp},Keep1 L H2 G->Same H G:=λk1 b o e=>k1 _ _ (λz=>by rw[z,hL]at e;cases e) (bo _ _ e)
 show⟨D,O,⟨_,ag dL⟩,i9 (xs:=⇑(fl.map λ(j:Nat)=>(j:Int))) (λi σ G=>Keep1 L H2 G/\(∃z6 z7 z8 z9 fu,σ=[!.ref B,!.ref p,!.ref S,!.ref k,!.ref L,!.int ((fl.take i).foldl (dJ ds ls (aM sz)) ([],0)).2,z6,z7,z8,z9,fu])/\LstAt Br.PnAt G L ((fl.take i).foldl (dJ ds ls (aM sz)) ([],0)).1) ⟨KeepN.refl,⟨none,none,none,none,none,O⟩,[],eF,.nil⟩ ?_ ?_ ?_⟩
 .ext i σ G hi ⟨k1,_⟩;show ag (k1 _ _ DL dL)
 .rintro i y σ G hy ⟨k1,⟨z6,z7,z8,z9,fu,rfl⟩,as,Q9,sn⟩;let⟨m,em,rfl⟩:=eD hy;let hm:=Q7 m (qL em);let hi:i<fl⁻¹:=(qF.mp em).1;let et:(fl.take (i+1)).foldl (dJ ds ls (aM sz)) ([],0)=dJ ds ls (aM sz) ((fl.take i).foldl (dJ ds ls (aM sz)) ([],0)) m:=by
   rw[qP,em];show(fl.take i++[m]).foldl _ _=_;rw[List.foldl_append];rfl
  rw[et,xz];let al:=OH (ds:=ds) (ls:=ls) (hs:=aM sz) (ks:=fl.take i) (acc:=([],0));rw[xO]at al;generalize (fl.take i).foldl (dJ ds ls (aM sz)) ([],0)=acc at sn al⊢;let IG:=I.same (sm k1);let Iy:=qS sn;let al:acc.1⁻¹<=200:=by simp at al;omega
  dsimp only[aZ];show seq_post (λae G'=>G'=G/\ae=[!.ref B,!.ref p,!.ref S,!.ref k,!.ref L,!.int acc.2,!.int m,!.int (if acc.1=[]then 0 else aC ls m 2),z8,z9,fu]) (λD' kk=>?_) ?_
  .show-⟨L,_,O,.inl (ag Q9),_,_,O,O,_,O,?_⟩
   by_cases h0:acc.1=[]
   .let e0:as=[]:=rR (by rw[Iy,h0];rfl);rw[rB (show¬(((↑as)⁻¹:Nat):Int)>0 by rw[e0];simp)];show ba (kk _ _ ⟨O,by rw[qZ h0];rfl⟩)
   .let e0:0<as⁻¹:=by rw[Iy];show List.length_pos_iff.mpr h0
    rw[qQ (show(((↑as)⁻¹:Nat):Int)>0 by rw[qA];omega)];show bL ⟨_,O,_,O,p,m,2,_,ls,O,IG.lk,by rw[cx.ll];show hm,cx.l13,{},qdt,kk _ _ ⟨O,by rw[qX h0];rfl⟩⟩
  ext ae G' ⟨rfl,rfl⟩;show¬⟨_,_,O,O,?_⟩;show aZ 8 (V.int (gH ls acc m)) _ _ _;generalize gH ls acc m=tp;show¬⟨B,m,ds,O,IG.bk,cx.bk,cx.le,hm,λG1 s3=>?_⟩;let zd:=s3 _ _ Q9;let k2:Keep1 L H2 G1:=k1.trans s3.keep;let iX:Paired (Br.PnAt G1) as acc.1:=sn.mono λ_ _ z=>s3 _ _ z
  dsimp only[aZ];show seq_post (λae G'=>∃Z,ae=[!.ref B,!.ref p,!.ref S,!.ref k,!.ref L,!.int acc.2,!.int m,!.int (if acc.1=[]then 0 else aC ls m 2),!.int tp,!zu (cz ds m),!.ref Z]/\Same G1 G'/\G1 Z=none/\KL G' Z (bz ds m)) (λD' kk=>?_) ?_
  .unfold bz at kk;cases hb:cz ds m with
   | none =>
     rw[hb]at kk
     show¬⟨bL ⟨_,O,aK,λZ hZ=>kk _ _ ⟨Z,O,ar hZ _,hZ,aj⟩⟩⟩
   | some a =>
     rw[hb]at kk
     show¬⟨ba ⟨_,O,_,O,aK,λZ hZ=>kk _ _ ⟨Z,O,ar hZ _,hZ,aj⟩⟩⟩
  ext ae G2 ⟨Z,rfl,s4,Ra,hZ⟩;let bl:=GI (ds:=ds) (m:=m);let blt:∀x∈bz ds m,x<sz⁻¹:=λx hx=>by have:=qaP hx;rw[cx.zl];omega
  generalize bz ds m=zs at hZ bl blt⊢;let Rb:=s4 _ _ zd;let k3:Keep1 L H2 G2:=k2.trans s4.keep;let qz:Paired (Br.PnAt G2) as acc.1:=iX.mono λ_ _ z=>s4 _ _ z
  let ZL:Z≠L:=λz=>by rw[z,zd]at Ra;cases Ra
  show-⟨.inl ⟨O,_,ag Rb⟩,_,O,Z,O,⟨_,ag hZ⟩,bx (xs:=⇑(zs.map λ(j:Nat)=>(j:Int))) (λi ys ae G'=>Same G2 G'/\(∃z,ae=[z,!.int tp])/\∃ts,ys=↑ts/\Paired (Br.PnAt G') ts ((zs.map λe=>(e,tp)).take i)) (by rw[qA,qA];show aR ()) ⟨Same.refl _,⟨none,O⟩,[],O,.nil⟩ ?_ ?_ ?_⟩
  .ext i ys ae G' hi ⟨s5,_,ts,rfl,pt⟩;show ag (s5 _ _ hZ)
  .ext i y ys ae G' hy ⟨s5,⟨z,rfl⟩,ts,rfl,pt⟩;let⟨x,ex,rfl⟩:=eD hy;show¬⟨aK,λt ht=>?_⟩;let s6:=ar ht (.tup [.int (x:Int),.int tp]);show⟨s5.trans s6,⟨_,O⟩,ts++[t],by rw[qD];rfl,?_⟩;let ec:(zs.map λe=>(e,tp))[i]?=!(x,tp):=by rw[qJ,ex];rfl
   rw[qP,ec];show(pt.mono λ_ _ z=>s6 _ _ z).snoc aj
  ext ys ae G3 ⟨s5,_,ts,rfl,pt⟩ C hC;rw[qH (by rw[qA,qA,qA];show qG _)]at pt;let s6:=s5.trans (ar hC (.lst ↑ts));let nj:af G3 C (.lst ↑ts) C=!.lst ↑ts:=aj;let Rc:Paired (Br.PnAt (af G3 C (.lst ↑ts))) ts (zs.map λe=>(e,tp)):=pt.mono λ_ _ z=>ar hC _ _ _ z
  generalize af G3 C (.lst ↑ts)=G4 at s6 nj Rc⊢;let dA:=s6 _ _ Rb;let lt:=qS pt;rw[qA]at lt;show⟨L,C,_,_,O,O,dA,nj,rX (aR (by rw[qA,qA];omega)),?_⟩;let tl:=Tups.lst (o:=.lst (↑as++↑ts)) dA;let k5:Keep1 L H2 (af G4 L (.lst (↑as++↑ts))):=λb o n e=>by
   rw[aF n];show(k3.trans s6.keep) b o n e
  let jx:af G4 L (.lst (↑as++↑ts)) L=!.lst ↑(as++ts):=by rw[aj,qD]
  let Iz:KL (af G4 L (.lst (↑as++↑ts))) Z zs:=by
   show af G4 L _ Z=_;rw[aF ZL];show s6 _ _ hZ
  let C3:Paired (Br.PnAt (af G4 L (.lst (↑as++↑ts)))) (as++ts) (acc.1++zs.map λe=>(e,tp)):=vt (qz.mono λ_ _ z=>tl _ _ (s6 _ _ z)) (Rc.mono λ_ _ z=>tl _ _ z);generalize af G4 L (.lst (↑as++↑ts))=G5 at k5 jx Iz C3⊢;let⟨bs,IA,dz⟩:=(I.same (sm k5)).sz;show¬⟨Z,O,⟨_,ag Iz⟩,bx (xs:=⇑(zs.map λ(j:Nat)=>(j:Int))) (λi ys ae G'=>G'=G5/\(∃z,ae=[z,!.ref S])/\ys=⇑((zs.map (aM sz)).take i)) (by rw[qA,qA];show aR ()) ⟨O,⟨none,O⟩,O⟩ ?_ ?_ ?_⟩
  .ext i ys ae G' hi ⟨rfl,_,rfl⟩;show ag Iz
  .ext i y ys ae G' hy ⟨rfl,⟨z,rfl⟩,rfl⟩;let⟨x,ex,rfl⟩:=eD hy;let⟨a,_,_,_,ea,ha⟩:=lO dz (blt x (qL ex));show¬⟨S,_,_,_,O,O,ag IA,aU ea,a,_,_,_,O,O,aD ha,O,O,⟨_,O⟩,?_⟩;let ec:(zs.map (aM sz))[i]?=!aM sz x:=by rw[qJ,ex];rfl
   rw[qP,ec,qD];rfl
  ext ys ae G' ⟨rfl,_,rfl⟩ M hM;rw[qH (by rw[qA,qA,qA];show qG _)];let s7:=ar hM (.lst ⇑(zs.map (aM sz)));let ne:zs.map (aM sz)≠[]:=λz=>bl.2 (yQ.mp z)
  show⟨M,_,_,O,ag aj,gF ne,iO,_,_,O,O,?_⟩;show⟨k5.trans s7.keep,⟨_,_,_,_,_,O⟩,as++ts,s7 _ _ jx,C3.mono λ_ _ z=>s7 _ _ z⟩
 .ext σ G ⟨k1,⟨z6,z7,z8,z9,fu,rfl⟩,lG⟩;rw[qH (by rw[qA,qA];show qG _),<-Q8]at lG;show-⟨q L G hL (sm k1) lG⟩
abbrev Re:=top 105
abbrev Rf:=top 104
def qdx(F:Fu K "held_tops" Re f fd)(tK:∃t,mg "KIND" = !.int 1 t)(lQ:mg "KINDS_OF_PIECES" = !.ref gI)(KP:∀H:Hp,SqT K H gI (pieceKinds.map V.str))(jr:⋯ 1 "holds" ["book", "node"] mU)(cA:⋯ 1 "look_at" ["looks", "node", "word"] fK)(qdy:⋯ 4 "tops_in_grid" ["looks", "sizes", "columns", "held"] GD)(qdz:⋯ 3 "tops_in_pile" ["book", "looks", "sizes", "held"] GF):(~~~0) 5 f fd ["book", "looks", "sizes", "node"] GG:=by
 rcases F.go ["book", "looks", "sizes", "node", "kind", "held"] with⟨B,p,S,n,ds,ls,sz,rfl,I,cx,hn,q⟩;let⟨_,eY⟩:=tK;let⟨ab,hB,nd⟩:=I.bk;obtain⟨d,ed⟩:∃d,ds[n]?=!d:=⟨_,qB hn⟩;let⟨c,ec,nc⟩:=nd.get ed;let⟨m',s',hc,_⟩:=nc.ex;let le:=cx.le;show⟨_,(aw (sv 4 (px aI (px aE '0' '3') (gi eY)))
  (aw (a7 (tc AY '4' (gr lQ)) (aA (aH (a0 bE))) bg)
  (aw (sv 5 (cF jr hr (a2 '0' '3')))
  (aw (a7 (tc bv '4' aQ) (aA (aH (cm ["one"] [] [] (a6 '5') (nv 0) bj (br (a2 '0' ao))))) bg)
  (aw (a7 (tc bv '4' aQ) (aA (aH (cF qdy hr (aJ '1' (a3 '2' (cF cA hr (a3 '1' '3' aQ)) '5'))))) bg)
  (aA (aH (cF qdz hr (aJ '0' (a3 '1' '2' '5')))))))))),?_⟩
 show¬⟨B,_,_,_,O,O,ag hB,aU ec,c,_,_,_,O,O,aD hc,O,?_⟩;dsimp only[aZ];show-⟨gI,_,O,.inr (KP _),O,qg _,_,O,?_⟩;rw[qX qU,rf]
 by_cases cM:d.k=.text\/d.k=.head\/d.k=.note
 .show gP cM ?_;rw[Qu ed cM]at q;show⟨aK,λt ht=>q t _ ht (ar ht _) ⟨[],aj,.nil⟩⟩
 show iH cM ⟨_,O,_,O,B,n,ds,_,O,⟨ab,hB,nd⟩,(),hn,λK0 H1 hK s1 bX=>?_⟩;let kl:=lE ds n;let I1:=I.same s1;dsimp only[aZ];show-⟨O,_,O,?_⟩
 by_cases hs:d.k=.shelf
 .show fT (bB d.k .shelf) hs ?_;rw[HZ ed hs]at q;show-⟨K0,O,⟨_,ag bX⟩,bx (xs:=⇑((ay ds n).map λ(j:Nat)=>(j:Int))) (λi ys ae G'=>Same H1 G'/\(∃z,ae=[z])/\∃ts,ys=↑ts/\Paired (Br.PnAt G') ts (((ay ds n).map λm=>(m,0)).take i)) (by rw[qA,qA];show aR ()) ⟨Same.refl _,⟨none,O⟩,[],O,.nil⟩ ?_ ?_ ?_⟩
  .ext i ys ae G' hi ⟨s5,_,ts,rfl,pt⟩;show ag (s5 _ _ bX)
  .ext i y ys ae G' hy ⟨s5,⟨z,rfl⟩,ts,rfl,pt⟩;let⟨x,ex,rfl⟩:=eD hy;show-⟨aK,λt ht=>?_⟩;let s6:=ar ht (.tup [.int (x:Int),.int 0]);show⟨s5.trans s6,⟨_,O⟩,ts++[t],by rw[qD];rfl,?_⟩;let e2:((ay ds n).map λm=>(m,(0:Int)))[i]?=!(x,0):=by rw[qJ,ex];rfl
   rw[qP,e2];show(pt.mono λ_ _ z=>s6 _ _ z).snoc aj
  .ext ys ae G3 ⟨s5,_,ts,rfl,pt⟩ C hC;rw[qH (by rw[qA,qA,qA];show qG _)]at pt;let gL:=s1.trans s5;show q C _ (gL.free hC) (gL.trans (ar hC _)) ⟨ts,aj,pt.mono λ_ _ z=>ar hC _ _ _ z⟩
 show fU (bB d.k .shelf) hs ⟨_,O,O,_,O,?_⟩
 by_cases hg:d.k=.grid
 .show fT (bB d.k .grid) hg ?_;rw[Ia ed hg]at q;let⟨l,_,cy,lv⟩:=cx.look hn;let cb:=cy.cols;rw[<-lv]at cb;obtain⟨cn,Aa⟩:∃cn:Nat,aC ls n 7=(cn:Int):=⟨(aC ls n 7).toNat,()⟩;rw[Aa,yR]at q;show¬⟨_,O,_,O,p,n,7,_,ls,O,I1.lk,by rw[cx.ll];show hn,cx.l13,{},Hy,?_⟩;rw[Aa];show-⟨p,S,K0,cn,_,ls,sz,O,I1.lk,I1.sz,bX,(),λm hm=>⟨by rw[cx.ll];show cZ hm,by rw[cx.zl];show cZ hm⟩,cx.lk,cx.cells n,(),(),λt H2 ht s2 lt=>q t H2 (s1.free ht) (s1.trans s2) lt⟩
 show fU (bB d.k .grid) hg ?_;rw[Ib ed cM hs hg]at q;show¬⟨_,O,_,O,B,p,S,K0,_,ds,ls,sz,O,I1,cx,bX,(),λm hm=>cZ hm,λt H2 ht s2 lt=>q t H2 (s1.free ht) (s1.trans s2) lt⟩
def qdA(F:Fu K "high_of_held" Rf f fd)(T:bO mg)(tS:∃t,mg "SIZE_HIGH" = !.int 0 t)(qdB:⋯ 5 "held_tops" ["book", "looks", "sizes", "node"] GG):(~~~0) 6 f fd ["book", "looks", "sizes", "node"] GH:=by
 rcases F.go ["book", "looks", "sizes", "node"] with⟨B,p,S,n,ds,ls,sz,rfl,I,cx,hn,q⟩;let⟨_,pi⟩:=tS;show⟨_,(aA (aH (yu true (by rfl) (by rfl) T.max dP (a1 (cm ["one", "top"] ["sizes"] [2] (a6 (cF qdB hr (aJ '0' (a3 '1' '2' '3')))) (mC K (n:=2) (by rfl) (by rfl) (bD (nv 0) (bD (nv 1) dQ))) bj (aG bi '1' (px (r:=bU K) aI (px (r:=cI K) aE '2' '0') (gi pi))))) ao))),_,O,_,O,_,O,_,O,B,p,S,n,ds,ls,sz,O,I,cx,hn,λL H1 hL s1 lL=>?_⟩;let Rg:=OG (ds:=ds) (ls:=ls) (hs:=aM sz) (n:=n);let Rh:=Rg.length_le;rw[qA]at Rh;let kl:=lE ds n;let le:=cx.le;let Ri:∀x∈eX ds ls (aM sz) n,x.1<sz⁻¹:=λx hx=>by rw[cx.zl];show cZ (Rg.subset (uU hx))
 generalize eX ds ls (aM sz) n=xs at q lL Rh Ri;let⟨as,bG,pr⟩:=lL;let⟨bs,hS,dz⟩:=(I.same s1).sz;let la:=qS pr;show⟨L,O,⟨_,ag bG⟩,bx (xs:=↑as) (λi ys ae G'=>G'=H1/\(∃z0 z1,ae=[z0,z1,!.ref S])/\ys=⇑((xs.map λx=>x.2+aM sz x.1).take i)) (by rw[qA];show aR ()) ⟨O,⟨none,none,O⟩,O⟩ ?_ ?_ ?_⟩
 .ext i ys ae G' hi ⟨rfl,_,rfl⟩;show ag bG
 .ext i y ys ae G' hy ⟨rfl,⟨z0,z1,rfl⟩,rfl⟩;let⟨a,ea,rfl⟩:=cE hy;let⟨x,ex,ha⟩:=bN pr ea;let⟨b,_,_,_,eb,hb⟩:=lO dz (Ri x (qL ex));show⟨a,_,O,aD ha,O,_,_,O,_,_,O,O,_,O,_,O,_,O,S,_,_,_,O,O,ag hS,aU eb,b,_,_,_,O,O,aD hb,O,_,_,O,O,O,⟨_,_,O⟩,?_⟩;let e2:(xs.map λx=>x.2+aM sz x.1)[i]?=!x.2+aM sz x.1:=by rw[qJ,ex];rfl
  rw[qP,e2,qD];rfl
 .ext ys ae G3 ⟨rfl,_,rfl⟩ D hD;rw[qH (by rw[qA,qA,la];show qG _)];let s2:=ar hD (.lst ⇑(xs.map λx=>x.2+aM sz x.1));show⟨D,_,.int (a9 (xs.map λx=>x.2+aM sz x.1)),O,ag aj,λz=>by rw[z];rfl,λz=>⟨_,gF z,O,iO⟩,q _ (s1.trans s2)⟩
end K31
namespace K31
open L2 Bk Gen Gd Bd
inductive IB:List V->Hp->VK->XK->Prop
|m (l s:Int):vs=[.int l,.int s]->1<=s->s<=1000000->Q (.int (eS l s)) H->IB vs H Q E
def qdC(F:Fu K "rounded_up" Hx f fd):(~~~0) 1 f fd ["length", "parts"] IB:=by
 rcases F.go ["length", "parts"] with⟨l,sp,rfl,s1,s6,q⟩;show⟨_,(aA (aH (dM dN (aG pY (dM dN '0') '1')))),?_⟩;show¬⟨_,O,_,_,O,O,⟨(),()⟩,_,O,q⟩
end K31
namespace K31
open L2 Bk Gen Gd
open Bd
open Br
open Bw
abbrev Rj:=top 60
abbrev Rk:=top 59
def qdD(F:Fu K "row_width" Rj f fd)(T:BnR mg)(tC:∃t,mg "COUNT" = !.int 0 t)(tB:∃t,mg "BY" = !.int 1 t):(~~~0) 1 f fd ["width", "narrow", "row"] (FW K):=by
 rcases F.go ["width", "narrow", "row"] with⟨t,wd,row,nw,rfl,ht,q⟩;let⟨_,sB⟩:=tC;let⟨_,qdE⟩:=tB;show⟨_,(aA (aH (kE (tc mh '2' (px aI '1' (gi sB))) (cb (mj (by rfl)) T.max dP (a2 (aG dC '0' (px aI '1' (gi qdE))) ao)) '0'))),_,O,_,O,t,_,_,_,O,O,ht,O,_,_,O,O,_,O,cp (λc=>?_) (λc=>?_)⟩
 .let c':row<nw.1:=rH c;show¬⟨t,_,_,_,O,O,ht,O,_,_,O,O,_,_,O,?_⟩;let e:(if(0:Int)>wd-nw.2 then(0:Int)else wd-nw.2)=cU wd nw row:=by
   unfold cU;rw[qZ c']
   by_cases z:(0:Int)>wd-nw.2
   .rw[qZ z];omega
   .rw[qX z];omega
  show Q (.int (if(0:Int)>wd-nw.2 then(0:Int)else wd-nw.2)) H;rw[e];show q
 .let c':¬row<nw.1:=λz=>c (qQ z)
  let e:wd=cU wd nw row:=by unfold cU;rw[qX c']
  show-⟨?_⟩;show Q (.int wd) H;rw[e];show q
def qdF(F:Fu K "row_blemish" Rk f fd)(T:BnR mg)(tL:∃t,mg "TOO_LONG" = !.int 1000000 t)(qdG:⋯ 1 "row_width" ["width", "narrow", "row"] (FW K))(HG:⋯ 1 "row_length" ["units"] Cp):(~~~0) 2 f fd ["units", "first", "last", "width", "narrow", "row"] (GL K):=by
 rcases F.go ["units", "first", "last", "width", "narrow", "row", "left"] with⟨p,t,i,j,wd,row,nw,us,rfl,⟨as,hp,pr⟩,ht,ij,jl,l1,ok,w0,w1,b0,q⟩;let⟨_,qdH⟩:=tL;let la:=qS pr;show⟨_,(aw (sv 6 (aG dC (cF qdG hr (a3 '3' '4' '5')) (cF HG hr (a1 (kJ nZ '0' (jc '1') (jc '2'))))))
  (aw (a7 (tc mh '6' ao) (aA (aH (kE (tc bv (aG dC '2' '1') ao) (aG dC (gi qdH) '6') pJ))) bg)
  (aA (aH (kE (tc bv '2' (ln T.len '0')) ao (aG qaS '6' '6')))))),?_⟩
 show¬⟨_,O,t,wd,row,nw,O,ht,_,O,_,O,_,O,_,O,_,O,p,_,O,ag hp,λS hS=>?_⟩;rw[ZR (as:=as) (i:=i) (j:=j) () ()];let sS:=ar hS (.lst ↑((as.drop i).take (j-i)));let gJ:af H S (.lst ↑((as.drop i).take (j-i))) S=!.lst ↑((as.drop i).take (j-i)):=aj;generalize af H S (.lst ↑((as.drop i).take (j-i)))=H1 at sS gJ⊢;let cl:=ZO (us:=us) (i:=i) jl;show⟨S,jZ us i j,O,⟨_,gJ,(ZQ pr i (j-i)).mono λ_ _=>Bw.UnAt.same sS⟩,λz=>by rw[z]at cl;simp at cl;omega,(),λH2 s2=>?_⟩;let rb:=qaT (nw:=nw) row w0 w1 b0;let ln:=ZP ok i j;let bo:=sS.trans s2;let gz:=bo _ _ hp;show⟨_,_,O,O,?_⟩;let q2:=q H2 bo;show aZ 6 (V.int (cU wd nw row-eB us i j)) _ _ _;generalize cU wd nw row=room at rb q2⊢;show-⟨_,_,O,O,_,O,cp (λc=>?_) (λc=>?_)⟩
 .have c':room-eB us i j<0:=rH c;show¬⟨_,_,O,O,O,_,O,cp (λd=>?_) (λd=>?_)⟩
  .let d':(j:Int)-i=1:=V.int.inj (rH d);show-⟨_,_,O,O,?_⟩;let e:dw us i j room=!1000000-(room-eB us i j):=by
    unfold dw;rw[qZ c',qZ ()]
   rw[e]at q2;show q2
  .let d':¬(j:Int)-i=1:=λz=>d (qQ (by show V.int ((j:Int)-(i:Int))=V.int 1;rw[z]))
   let e:dw us i j room=none:=by
    unfold dw;rw[qZ c',qX ()]
   rw[e]at q2;show q2
 .have c':¬room-eB us i j<0:=λz=>c (qQ z)
  show¬⟨p,_,O,.inl (ag gz),O,_,O,cp (λd=>?_) (λd=>?_)⟩
  .let d':(j:Int)=((↑as)⁻¹:Nat):=V.int.inj (rH d);rw[qA]at d';let e:dw us i j room=!0:=by
    unfold dw;rw[qX c',qZ ()]
   rw[e]at q2;show q2
  .let d':¬(j:Int)=((↑as)⁻¹:Nat):=λz=>d (qQ (by rw[z]))
   rw[qA]at d';show¬⟨_,_,O,O,⟨(),(),(),()⟩,?_⟩;let e:dw us i j room=!(room-eB us i j)*(room-eB us i j):=by
    unfold dw;rw[qX c',qX ()]
   rw[e]at q2;show q2
abbrev Rl:=top 62
abbrev Rm:=top 63
abbrev Rn:=top 64
abbrev Ro:=top 65
def qdI(F:Fu K "sums_of_no_row" Rl f fd)(T:BnR mg):(~~~0) 1 f fd ["units"] GP:=by
 rcases F.go ["units"] with⟨p,us,rfl,⟨as,hp,pr⟩,l1,q⟩;let la:=qS pr;show⟨_,(aA (aH (aG kM (a0 (a1 ao)) (cm ["unit"] [] [] (a6 '0') (nv 0) bj pJ)))),aK,λA hA=>?_⟩;let s1:=ar hA (.lst [.int 0]);let Cs:af H A (.lst [.int 0]) A=!.lst [.int 0]:=aj;generalize af H A (.lst [.int 0])=H1 at s1 Cs⊢;let yd:=s1 _ _ hp;show-⟨p,O,⟨_,ag yd⟩,bx (xs:=↑as) (λk ys ae H'=>H'=H1/\ys=List.replicate k V.non/\∃z,ae=[z]) (by rw[qA];show aR ()) ⟨O,O,none,O⟩ ?_ ?_ ?_⟩
 .ext k ys ae H' hk ⟨rfl,rfl,_⟩;show ag yd
 .ext k y ys ae H' hy ⟨rfl,rfl,z,rfl⟩;show⟨O,?_,_,O⟩;rw[List.replicate_succ']
 .ext ys ae H' ⟨rfl,rfl,_⟩ D hD;rw[qA,la];let s2:=ar hD (.lst (List.replicate us⁻¹ V.non));let js:af H' D (.lst (List.replicate us⁻¹ V.non)) D=!.lst (List.replicate us⁻¹ V.non):=aj;generalize af H' D (.lst (List.replicate us⁻¹ V.non))=H2 at s2 js⊢;show⟨A,D,_,_,O,O,s2 _ _ Cs,js,?_,λL hL=>?_⟩
  .show 1+_<=sizeLine;rw[xU];show rX (aR ())
  .show q L _ ((s1.trans s2).free hL) ((s1.trans s2).trans (ar hL _)) ?_;unfold OsAt xn;rw[aj,xY,List.map_replicate];rfl
def qdJ(F:Fu K "beginnings_of" Ro f fd)(T:BnR mg)(qdK:⋯ 2 "row_blemish" ["units", "first", "last", "width", "narrow", "row"] (GL K)):(~~~0) 3 f fd ["units", "last", "width", "narrow", "row"] (GM K):=by
 rcases F.go ["units", "last", "width", "narrow", "row", "found", "first", "blemish"] with⟨p,t,j,wd,row,nw,us,rfl,hp,ht,jl,ok,q⟩;let le:=ok.le;show⟨_,(aw (sv 5 (a0 bE))
  (aw (fv (Fz (by rfl) T.range (a3 (aG dC '1' ao) (dM dN ao) (dM dN ao))) (nv 6)
  (aw (sv 7 (cF qdK hr (aJ '0' (aJ '6' (aJ '1' (a3 '2' '3' '4'))))))
  (aw (a7 (kC (AM '7')) (aA U2) bg)
  (aA (cq (jK xX v0 v4 Lp '5' (E8 (br (a2 '6' '7')) bE)))))))
  (aA (aH '5')))),?_⟩
 show⟨aK,λL hL=>?_⟩;let s1:=ar hL (.lst []);let bG:af H L (.lst []) L=!.lst ↑([]:TQ):=aj;generalize af H L (.lst [])=H1 at s1 bG⊢;show-⟨_,_,O,O,_,O,_,O,_,_,O,⟨(),(),{},{}⟩,FC (λi σ H'=>Same H H'/\(∃z6 z7,σ=[!.ref p,!.int j,!.int wd,!.ref t,!.int row,!.ref L,z6,z7])/\∃done,LstAt PnAt H' L done/\done++ii us j (cU wd nw row) (j-i)=fM us j (cU wd nw row)) ⟨s1,⟨none,none,O⟩,[],⟨[],bG,.nil⟩,O⟩ ?_ ?_⟩
 .rintro i σ H' hi ⟨s2,⟨z6,z7,rfl⟩,done,⟨as,eF,pr⟩,ed⟩;let bW:i<j:=()
  obtain⟨k,ek⟩:∃k,j-i=k+1:=⟨j-i-1,()⟩;let ekI:(j:Int)-1-(i:Int)=((k:Nat):Int):=()
  show aZ 6 (V.int ((j:Int)-1-(i:Int))) _ _ _;rw[ekI];show¬⟨_,O,_,O,_,O,_,O,p,t,k,j,wd,row,nw,us,O,Bw.RowAt.same s2 hp,sqt_same s2 ht,(),jl,le,ok.ok,ok.w0,ok.w1,ok.b0,λH3 s3=>?_⟩;rw[ek]at ed;let ln:done⁻¹<=j:=by
   have:=xJ List.length ed;rw[qI]at this;let h2:=B4 us j (cU wd nw row) j;unfold fM at this;omega
  let la:=qS pr;unfold ii at ed;cases eb:dw us k j (cU wd nw row)with
  | none =>
    rw[eb]at ed
    show¬⟨bL ?_⟩
    show-⟨q L H3 (s2.trans s3) ?_⟩
    let lN:done=fM us j (cU wd nw row):=by rw[<-ed];show(rS _).symm
    rw[<-lN]
    show qu s3 ⟨as,eF,pr⟩
  | some b =>
    rw[eb]at ed
    show¬⟨ba ?_⟩
    let cK:=s3 _ _ eF
    show-⟨.inl ⟨O,_,ag cK⟩,_,O,_,O,aK,λt' ze=>?_⟩
    let s4:=ar ze (.tup [.int (k:Int),.int b])
    let Ab:af H3 t' (.tup [.int (k:Int),.int b]) t'=!.tup [.int (k:Int),.int b]:=aj
    let dA:=s4 _ _ cK
    generalize hH4:af H3 t' (.tup [.int (k:Int),.int b])=H4 at s4 Ab dA
    first | show∃_,_ | show A8 _ _ _ _
    rw[show af H3 t' (HO.tup [V.int (k:Int),ov (!b)])=H4 from hH4]
    show⟨L,_,_,O,O,dA,aR (by rw[qA];omega),?_⟩
    let tt:=Tups.lst (o:=.lst (↑as++[.ref t'])) dA
    show⟨gZ ((s2.trans s3).trans s4) hL,⟨_,_,O⟩,done++[(k,b)],⟨as++[t'],by rw[aj,qD];rfl,(pr.mono λ_ _ z=>tt _ _ ((s3.trans s4) _ _ z)).snoc (tt _ _ Ab)⟩,?_⟩
    rw[show j-(i+1)=k by omega,xE]
    show ed
 .ext σ H' ⟨s2,⟨z6,z7,rfl⟩,done,hd,ed⟩;rw[show j-((j:Int)-1 - -1).toNat=0 by omega]at ed;let lN:done=fM us j (cU wd nw row):=by rw[<-ed];show(rS _).symm
  rw[lN]at hd;show-⟨q L H' s2 hd⟩
def qdL(F:Fu K "ways_by_end" Rn f fd)(T:BnR mg)(qdM:⋯ 3 "beginnings_of" ["units", "last", "width", "narrow", "row"] (GM K)):(~~~0) 4 f fd ["units", "width", "narrow", "row"] (GN K):=by
 rcases F.go ["units", "width", "narrow", "row"] with⟨p,t,wd,row,nw,us,rfl,⟨as,hp,pr⟩,ht,ok,q⟩;let le:=ok.le;let la:=qS pr;let lm:(↑as)⁻¹=us⁻¹:=by rw[qA];omega
 show⟨_,(aA (aH (cm ["last"] ["units", "width", "narrow", "row"] [0,1,2,3] (r1 T.range (aG bi (ln T.len '0') ao)) (nv 0) bj (cF qdM hr (aJ '1' (aJ '0' (a3 '2' '3' '4'))))))),_,O,p,_,O,.inl (ag hp),_,_,O,O,_,O,by rw[lm];omega,by rw[lm];omega,jO (λk ys ae H'=>Same H H'/\(∃z,ae=[z,!.ref p,!.int wd,!.ref t,!.int row])/\∃bs,ys=↑bs/\Paired (λa x=>LstAt PnAt H' a x) bs ((jn us (cU wd nw row)).take k)) (aR (by rw[lm];omega)) ⟨Same.refl _,⟨none,O⟩,[],O,.nil⟩ ?_ ?_⟩
 .ext k ys ae H' hk ⟨s1,⟨z,rfl⟩,bs,rfl,pb⟩;rw[lm]at hk;let ek:(0:Int)+(k:Int)=((k:Nat):Int):=()
  show aZ 0 (V.int (0+(k:Int))) _ _ _;rw[ek];show¬⟨_,O,_,O,_,O,p,t,k,wd,row,nw,us,O,Bw.RowAt.same s1 ⟨as,hp,pr⟩,sqt_same s1 ht,(),ok,λL H2 s2 hL=>?_⟩;show⟨s1.trans s2,⟨_,O⟩,bs++[L],by rw[qD];rfl,?_⟩;rw[qP,F4 ()];show(pb.mono λ_ _=>qu s2).snoc hL
 .ext ys ae H' ⟨s1,⟨z,rfl⟩,bs,rfl,pb⟩ D hD;rw[qH (by rw[lm];unfold jn;rw[qA,yJ];omega)]at pb;let sD:=ar hD (.lst ↑bs);show q D _ (s1.trans sD) ⟨bs,aj,pb.mono λ_ _=>qu sD⟩
def qdN(F:Fu K "ways_of_rows" Rm f fd)(T:BnR mg)(tC:∃t,mg "COUNT" = !.int 0 t)(Rp:⋯ 4 "ways_by_end" ["units", "width", "narrow", "row"] (GN K)):(~~~0) 5 f fd ["units", "width", "narrow"] (GO K):=by
 rcases F.go ["units", "width", "narrow", "narrower", "others"] with⟨p,t,wd,nw,us,rfl,⟨as,hp,pr⟩,ht,ok,q⟩;let⟨_,sB⟩:=tC;let le:=ok.le;let la:=qS pr;let lm:(↑as)⁻¹=us⁻¹:=by rw[qA];omega
 show⟨_,(aw (sv 3 (cF Rp hr (aJ '0' (a3 '1' '2' ao))))
  (aw (sv 4 (cF Rp hr (aJ '0' (a3 '1' '2' (px aI '2' (gi sB))))))
  (aA (aH (cm ["row"] ["narrower", "others", "narrow"] [3,4,2] (r1 T.range (ln T.len '0')) (nv 0) bj (kE (tc mh '0' (px (r:=bU K) aI '3' (gi sB))) '1' '2')))))),?_⟩
 show¬⟨_,O,p,t,wd,0,nw,us,O,⟨as,hp,pr⟩,ht,ok,λN H1 s1 hN=>?_⟩;let Rq:=sqt_same s1 ht;show¬⟨_,O,_,O,t,_,_,_,O,O,Rq,O,p,t,wd,nw.1,nw,us,O,Bw.RowAt.same s1 ⟨as,hp,pr⟩,Rq,ok,λqfM H2 s2 hO=>?_⟩;let bo:=s1.trans s2;let gz:=bo _ _ hp;let oF:=sqt_same bo ht;let hN2:=B5 s2 hN;show-⟨p,_,O,.inl (ag gz),_,O,by rw[lm];omega,by rw[lm];omega,jO (λk ys ae H'=>H'=H2/\(∃z,ae=[z,!.ref N,!.ref qfM,!.ref t])/\∃bs,ys=↑bs/\Paired (λa x=>qv H2 a x) bs ((jo us (roomN wd nw)).take k)) (aR (by rw[lm];omega)) ⟨O,⟨none,O⟩,[],O,.nil⟩ ?_ ?_⟩
 .rintro k ys ae H' hk ⟨rfl,⟨z,rfl⟩,bs,rfl,pb⟩;rw[lm]at hk;show¬⟨t,_,_,_,O,O,oF,O,_,_,O,O,_,O,cp (λc=>?_) (λc=>?_)⟩
  .let c':(0:Int)+(k:Int)<nw.1:=rH c;show-⟨O,⟨_,O⟩,bs++[N],by rw[qD];rfl,?_⟩;rw[qP,B8 ()];let e:roomN wd nw k=cU wd nw 0:=by
    unfold roomN cU;rw[qZ (),qZ ()]
   show pb.snoc ?_;rw[e];show hN2
  .let c':¬(0:Int)+(k:Int)<nw.1:=λz=>c (qQ z)
   show-⟨O,⟨_,O⟩,bs++[qfM],by rw[qD];rfl,?_⟩;rw[qP,B8 ()];let e:roomN wd nw k=cU wd nw nw.1:=by
    unfold roomN cU;rw[qX (),qX ()]
   show pb.snoc ?_;rw[e];show hO
 .ext ys ae H' ⟨rfl,_,bs,rfl,pb⟩ D hD;rw[qH (by rw[lm];unfold jo;rw[qA,yJ];omega)]at pb;let sD:=ar hD (.lst ↑bs);show q D _ (bo.trans sD) ⟨bs,aj,pb.mono λ_ _=>B5 sD⟩
end K31
namespace K31
open L2 Bk Gen Gd Bd Br
abbrev Rr:=top 66
abbrev Rs:=top 69
abbrev Rt:=top 68
def qdO(F:Fu K "least_sum" Rr f fd)(T:BnR mg):(~~~0) 1 f fd ["ahead", "beginnings"] FZ:=by
 rcases F.go ["ahead", "beginnings"] with⟨a,b,os,bs,rfl,ha,⟨as,hb,pr⟩,lb,lt,q⟩;let la:=qS pr;show⟨_,(aA (aH (yu false (by rfl) (by rfl) T.min mI (a1 (cm ["first", "blemish"] ["ahead"] [0] (a6 '1') (mC K (n:=2) (by rfl) (by rfl) (bD (nv 0) (bD (nv 1) dQ))) (iJ (kC (tG (px (r:=cI K) aE '2' '0')))) (aG bi (px (r:=cI K) aE '2' '0') '1'))) pJ))),_,O,b,O,⟨_,ag hb⟩,bx (xs:=↑as) (λk ys ae H'=>H'=H/\ys=⇑(cands os (bs.take k))/\∃z1 z2,ae=[z1,z2,!.ref a]) (by rw[qA];show aR ()) ⟨O,O,none,none,O⟩ ?_ ?_ ?_⟩
 .ext k ys ae H' hk ⟨rfl,rfl,_⟩;show ag hb
 .rintro k y ys ae H' hy ⟨rfl,rfl,z1,z2,rfl⟩;let⟨c,ec,rfl⟩:=cE hy;let⟨x,ex,hc⟩:=bN pr ec;let ku:=F2 (lt x (qL ex));let et:bs.take (k+1)=bs.take k++[x]:=by rw[qP,ex];rfl
  show⟨c,_,O,aD hc,O,_,_,O,_,_,O,O,_,O,_,O,a,_,_,_,O,O,ag ha,ku,_,O,?_⟩;cases eo:oA os x.1 with
  | none =>
    show ba ⟨O,?_,_,_,O⟩
    rw[et]
    unfold cands
    rw[yU,qD]
    have:List.filterMap (λx:Nat×Int=>(oA os x.1).map (·+ x.2)) [x]=[]:=by simp[eo]
    rw[this]
    show(rS _).symm
  | some v =>
    rw[eo]at ku
    show bL ⟨_,O,_,O,a,_,_,_,O,O,ag ha,ku,_,O,_,_,O,O,O,?_,_,_,O⟩
    rw[et]
    unfold cands
    rw[yU,qD]
    have:List.filterMap (λx:Nat×Int=>(oA os x.1).map (·+ x.2)) [x]=[v+x.2]:=by simp[eo]
    rw[this]
    rfl
 .ext ys ae H' ⟨rfl,rfl,_⟩ D hD;rw[qH (by rw[qA];omega)];show⟨D,cands os bs,ov (iS os bs),O,ag aj,λz=>?_,λz=>⟨mP (cands os bs),xk z,?_,qq⟩,q _ (ar hD _)⟩
  .unfold iS;rw[qZ z];rfl
  .unfold iS;rw[qX z];rfl
def qdP(F:Fu K "first_met" Rs f fd)(T:BnR mg):(~~~0) 1 f fd ["ahead", "beginnings", "met"] F0:=by
 rcases F.go ["ahead", "beginnings", "met"] with⟨a,b,os,bs,m,rfl,ha,⟨as,hb,pr⟩,lb,lt,hm,q⟩;let la:=qS pr;show⟨_,(aA (aH (cb (N8 (by rfl)) T.min mI (a1 (cm ["first", "blemish"] ["met", "ahead"] [2,0] (a6 '1') (mC K (n:=2) (by rfl) (by rfl) (bD (nv 0) (bD (nv 1) dQ))) (iJ (PW.pt (iC (kC (tG (px (r:=cI K) aE '3' '0'))) (jH (tc bv (aG bi (px (r:=cI K) aE '3' '0') '1') '2'))))) '0'))))),_,O,b,O,⟨_,ag hb⟩,bx (xs:=↑as) (λk ys ae H'=>H'=H/\ys=⇑((j5 os m (bs.take k)).map λi=>((i:Nat):Int))/\∃z1 z2,ae=[z1,z2,!.int m,!.ref a]) (by rw[qA];show aR ()) ⟨O,O,none,none,O⟩ ?_ ?_ ?_⟩
 .ext k ys ae H' hk ⟨rfl,rfl,_⟩;show ag hb
 .rintro k y ys ae H' hy ⟨rfl,rfl,z1,z2,rfl⟩;let⟨c,ec,rfl⟩:=cE hy;let⟨x,ex,hc⟩:=bN pr ec;let ku:=F2 (lt x (qL ex));let et:bs.take (k+1)=bs.take k++[x]:=by rw[qP,ex];rfl
  let no:¬(oA os x.1).map (·+ x.2)=!m->⇑((j5 os m (bs.take k)).map λi=>((i:Nat):Int))=⇑((j5 os m (bs.take (k+1))).map λi=>((i:Nat):Int)):=λh=>by
   rw[et];unfold j5;rw[yU];have:List.filterMap (λx:Nat×Int=>if(oA os x.1).map (·+ x.2)=!m then !x.1 else none) [x]=[]:=by simp only[List.filterMap_cons,List.filterMap_nil];rw[qX h]
   rw[this,rS]
  show⟨c,_,O,aD hc,O,_,_,O,_,_,O,O,_,O,_,O,a,_,_,_,O,O,ag ha,ku,_,O,?_⟩;cases eo:oA os x.1 with
  | none=>show ba (ba ⟨O,no (by rw[eo];show λz=>nomatch z),_,_,O⟩)
  | some v =>
    rw[eo]at ku
    show bL ⟨_,O,_,O,a,_,_,_,O,O,ag ha,ku,_,O,_,_,O,O,_,O,O,_,O,cp (λd=>?_) (λd=>?_)⟩
    · let d':v+x.2=m:=V.int.inj (rH d)
      show-⟨O,?_,_,_,O⟩
      rw[et]
      unfold j5
      rw[yU]
      have:List.filterMap (λx:Nat×Int=>if(oA os x.1).map (·+ x.2)=!m then !x.1 else none) [x]=[x.1]:=by simp only[List.filterMap_cons,List.filterMap_nil];rw[qZ (by rw[eo];show xJ some d')]
      rw[this,qD,qD]
      rfl
    · show⟨O,no (by rw[eo];show λz=>d (qQ (xJ V.int (rD z)))),_,_,O⟩
 .ext ys ae H' ⟨rfl,rfl,_⟩ D hD;rw[qH (by rw[qA];omega)];let⟨i0,b0,s0,h1,h2,h3⟩:=Og.mp hm;let Ru:i0∈j5 os m bs:=F3.mpr ⟨b0,s0,h1,h2,h3⟩;let ne:((j5 os m bs).map λi=>((i:Nat):Int))≠[]:=λz=>by
   rw[yQ.mp z]at Ru;cases Ru
  let⟨j,hj,ej⟩:=qO.mp (xk ne);show⟨D,_,(j:Int),O,ag aj,?_,?_,q j _ (ar hD _) ⟨F3.mp hj,λi' b' s' g1 g2 g3=>?_⟩⟩
  .show qO.mpr ⟨j,hj,O⟩
  .intro x hx;rw[ej];show qq x hx
  .have:=qq _ (qO.mpr ⟨i',F3.mpr ⟨b',s',g1,g2,g3⟩,O⟩:((i':Nat):Int)∈(j5 os m bs).map λi=>((i:Nat):Int));rw[<-ej]at this;omega
def qdQ(F:Fu K "fewest_rows" Rt f fd)(T:BnR mg):(~~~0) 1 f fd ["sums"] F1:=by
 rcases F.go ["sums", "whole"] with⟨a,room,us,rfl,⟨as,ha,pr⟩,le,ok,q⟩;let la:=qS pr;let Cz:(sumsL us room)⁻¹=us⁻¹+1:=by simp[sumsL]
 show⟨_,(aw (sm 1 ["ends"] [] [] (a6 '0') (nv 0) bj (px (r:=cI K) aE '0' (dM dN ao)))
  (aA (aH (jK xX PySem.F.slot_list_index PySem.F.type_list_index Ob '1' (a1 (cb (N8 (by rfl)) T.min mI (a1 (cm ["one"] [] [] (a6 '1') (nv 0) (iJ (kC (tG '0'))) '0')))))))),?_⟩
 show-⟨a,O,⟨_,ag ha⟩,bx (xs:=↑as) (λk ys ae H'=>H'=H/\ys=((dG us room).take k).map ov/\∃z,ae=[z]) (by rw[qA];show aR ()) ⟨O,O,none,O⟩ ?_ ?_ ?_⟩
 .ext k ys ae H' hk ⟨rfl,rfl,_⟩;show ag ha
 .ext k y ys ae H' hy ⟨rfl,rfl,z,rfl⟩;let⟨c,ec,rfl⟩:=cE hy;let⟨x,ex,hc⟩:=bN pr ec;let kl:k<=us⁻¹:=by
   have:=(qF.mp ex).1;omega
  rw[qw kl]at ex;cases ex;show¬⟨c,_,_,_,O,O,ag hc,Z8 (qt us room k),O,?_,_,O⟩;rw[qP,B6 kl,qD];rfl
 ext ys ae H' ⟨rfl,rfl,_⟩ W hW;rw[qH (by rw[qA,B7];omega)];let s1:=ar hW (.lst ((dG us room).map ov));let Ac:af H' W (.lst ((dG us room).map ov)) W=!.lst ((dG us room).map ov):=aj;generalize af H' W (.lst ((dG us room).map ov))=H1 at s1 Ac⊢;show-⟨.inl ⟨O,_,ag Ac⟩,_,O,W,O,⟨_,ag Ac⟩,bx (xs:=(dG us room).map ov) (λk ys ae H'=>H'=H1/\ys=⇑(((dG us room).take k).filterMap id)/\∃z,ae=[z]) (by rw[qA,B7];show aR ()) ⟨O,O,none,O⟩ ?_ ?_ ?_⟩
 .ext k ys ae H' hk ⟨rfl,rfl,_⟩;show ag Ac
 .rintro k y ys ae H' hy ⟨rfl,rfl,z,rfl⟩;rw[qJ]at hy;let⟨o,eo,rfl⟩:=xH.mp hy;show¬⟨?_⟩;cases o with
  | none =>
    show ba ⟨O,?_,_,O⟩
    rw[qP,eo,yU,qD]
    show(rS _).symm
  | some v =>
    show bL ⟨_,O,O,?_,_,O⟩
    rw[qP,eo,yU,qD]
    rfl
 .ext ys ae H' ⟨rfl,rfl,_⟩ D hD;rw[qH (by rw[qA];show qG _)];let⟨ne,jy⟩:=Z9 ok (room:=room);show⟨D,_,mP ((dG us room).filterMap id),O,ag aj,xk ne,qq,?_⟩;let⟨o,ho,e⟩:=uD.mp (xk ne);obtain rfl:o=!_:=e;let⟨k,h1,h2⟩:=Ol ho;let s2:=ar hD (.lst ⇑((dG us room).filterMap id));show⟨W,dG us room,_,k,O,O,s2 _ _ Ac,by rw[B7];omega,h1,h2,q k _ _ (s1.trans s2) (jy h1 h2)⟩
end K31
namespace K31
open L2 Bk Gen Gd
open Bd
open Br
open Bw
abbrev Rv:=top 67
abbrev ny:=top 61
def qdR(F:Fu K "chosen_rows" Rv f fd)(T:BnR mg)(qdS:⋯ 1 "fewest_rows" ["sums"] F1)(qdT:⋯ 1 "first_met" ["ahead", "beginnings", "met"] F0):(~~~0) 2 f fd ["ways", "sums"] F5:=by
 rcases F.go ["ways", "sums", "rows", "last", "row", "first"] with⟨a,b,room,us,rfl,⟨Ad,ha,Ae⟩,⟨e7,hb,iY⟩,le,ok,q⟩;let lw:=qS Ae;let ls:=qS iY;let Cz:(sumsL us room)⁻¹=us⁻¹+1:=by simp[sumsL]
 let lww:(jo us room)⁻¹=us⁻¹:=by simp[jo]
 show⟨_,(aw (sv 2 (a0 bE))
  (aw (sv 3 (aG dC (ln T.len '1') ao))
  (aw (fv (Fz (by rfl) T.range (a3 (aG dC (cF qdS hr (a1 '1')) ao) (dM dN ao) (dM dN ao))) (nv 4)
  (aw (sv 5 (cF qdT hr (a3 (px aE '1' '4') (px aE (px aE '0' '4') '3') (px aE (px aE '1' (aG bi '4' ao)) '3'))))
  (aw (cq (jK xX PySem.F.slot_list_insert PySem.F.type_list_insert ZU '2' (aJ ao (E8 (br (a2 '5' '3')) bE))))
  (aA (sv 3 '5')))))
  (aA (aH '2'))))),?_⟩
 show⟨aK,λL hL=>?_⟩;let s1:=ar hL (.lst []);let bG:af H L (.lst []) L=!.lst ↑([]:TQ):=aj;generalize af H L (.lst [])=H1 at s1 bG⊢;show-⟨b,_,O,.inl (ag (s1 _ _ hb)),_,_,O,O,?_⟩;let en:(((↑e7)⁻¹:Nat):Int)-1=((us⁻¹:Nat):Int):=by rw[qA];omega
 show aZ 3 (V.int ((((↑e7)⁻¹:Nat):Int)-1)) _ _ _;rw[en];show-⟨b,room,us,O,sums_same s1 ⟨e7,hb,iY⟩,le,ok,λk M H2 s2 jy=>?_⟩;let kl:k<=us⁻¹:=jy.1;show⟨_,_,O,O,_,O,_,O,_,_,O,⟨(),(),{},{}⟩,FC (λi σ H'=>Same H H'/\∃(j:Nat) (rows:List (Nat×Nat)) (m:Int) (z4 z5:Option V),σ=[!.ref a,!.ref b,!.ref L,!.int j,z4,z5]/\LstAt NnAt H' L rows/\rows⁻¹=i/\oA (bJ us room (k-i)) j=!m/\j<=us⁻¹/\∀pre,Ch us room (k-i) j pre->Ch us room k us⁻¹ (pre++rows)) ⟨s1.trans s2,us⁻¹,[],M,none,none,O,nns_same s2 ⟨[],bG,.nil⟩,O,jy.2.1,qG _,λpre kN=>by rw[rS];show kN⟩ ?_ ?_⟩
 .ext i σ H' hi ⟨s3,j,rows,m,z4,z5,rfl,⟨Rw,cK,Rx⟩,lr,hm,jl,eJ⟩;let bW:i<k:=()
  obtain⟨r,er⟩:∃r,k-i=r+1:=⟨k-i-1,()⟩;let erI:(k:Int)-1-(i:Int)=((r:Nat):Int):=()
  show aZ 4 (V.int ((k:Int)-1-(i:Int))) _ _ _;rw[erI];rw[er]at hm eJ;let C4:=s3 _ _ hb;let EW:=s3 _ _ ha;obtain⟨c1,e1⟩:∃c,e7[r]?=!c:=⟨_,qB (show r<e7⁻¹ by omega)⟩;let⟨x1,Af,h1⟩:=bN iY e1;rw[qw ()]at Af;cases Af;obtain⟨c2,e2⟩:∃c,e7[r+1]?=!c:=⟨_,qB (show r+1<e7⁻¹ by omega)⟩;let⟨x2,Ry,h2⟩:=bN iY e2;rw[qw ()]at Ry;cases Ry;obtain⟨c3,e3⟩:∃c,Ad[r]?=!c:=⟨_,qB (show r<Ad.length by omega)⟩;let⟨x3,Ag,⟨C5,h3,Ah⟩⟩:=bN Ae e3;rw[B8 ()]at Ag;cases Ag;let lee:=qS Ah;let lel:(jn us (room r))⁻¹=us⁻¹+1:=by simp[jn]
  obtain⟨c4,e4⟩:∃c,C5[j]?=!c:=⟨_,qB (show j<C5.length by omega)⟩;let⟨x4,sF,h4⟩:=bN Ah e4;rw[F4 jl]at sF;cases sF;let ku:=F2 (os:=bJ us room (r+1)) (i:=j) (by rw[qt];omega);rw[hm]at ku;let hc:=hm;rw[Oh jl]at hc;show¬⟨b,_,_,_,O,O,ag C4,aU e1,_,O,_,O,a,_,_,_,O,O,ag EW,aU e3,_,O,c3,_,_,_,O,O,ag (s3 _ _ h3),aU e4,_,O,_,O,_,_,O,O,b,_,_,_,O,O,ag C4,ZS (m:=r+1) () e2,_,O,c2,_,_,_,O,O,ag (OsAt.same s3 h2),ku,c1,c4,bJ us room r,fM us j (room r),m,O,OsAt.same s3 h1,qu s3 h4,rK (B4 _ _ _ _) (),λx hx=>by rw[qt];have:=FX j hx;omega,Z4 hc,λi1 H4 s4 met=>?_⟩;let⟨⟨b1,v1,Bh,hv1,oN⟩,_⟩:=id met;let⟨ij,C6⟩:=(Oe ok jl).mp Bh;let dA:=s4 _ _ cK;show-⟨.inl ⟨O,_,ag dA⟩,_,O,_,O,aK,λt' ze=>?_⟩;let s5:=ar ze (.tup [.int (i1:Int),.int (j:Int)]);let Rz:af H4 t' (.tup [.int (i1:Int),.int (j:Int)]) t'=!.tup [.int (i1:Int),.int (j:Int)]:=aj;let jx:=s5 _ _ dA;generalize af H4 t' (.tup [.int (i1:Int),.int (j:Int)])=H5 at s5 Rz jx⊢;let Iy:=qS Rx;show⟨L,_,_,O,O,jx,aR (by rw[qA];omega),?_⟩;let tt:=Tups.lst (o:=.lst (.ref t'::Rw.map V.ref)) jx;show-⟨gZ ((s3.trans s4).trans s5) hL,i1,(i1,j)::rows,v1,_,_,O,⟨t'::Rw,by rw[aj];rfl,.cons (tt _ _ Rz) (Rx.mono λ_ _ z=>tt _ _ ((s4.trans s5) _ _ z))⟩,by rw[rN,lr],?_,(),λpre kN=>?_⟩
  .rw[show k-(i+1)=r by omega];show hv1
  .rw[show k-(i+1)=r by omega]at kN;have:=eJ _ (.snoc kN hm met);rw[xE]at this;show this
 .ext σ H' ⟨s3,j,rows,m,z4,z5,rfl,hl,lr,hm,jl,eJ⟩;let e0:k-((k:Int)-1 - -1).toNat=0:=()
  rw[e0]at hm eJ;let⟨rfl,rfl⟩:=Z6 hm;show-⟨q L rows k M H' hL s3 hl (eJ [] .nil) jy⟩
def qdU(F:FunD K "broken" "broken" ny f fd)(T:BnR mg)(IC:mg "NONE_NARROWER" = !.ref C7)(qdV:⋯ 5 "ways_of_rows" ["units", "width", "narrow"] (GO K))(qdW:⋯ 1 "sums_of_no_row" ["units"] GP)(qdX:⋯ 1 "least_sum" ["ahead", "beginnings"] FZ)(qdY:⋯ 2 "chosen_rows" ["ways", "sums"] F5):(~~~0) 6 f fd ["units", "width", "narrow"] (spBroken2 K C7):=by
 rcases F.go ["units", "width", "narrow", "ways", "sums", "row", "ahead"] with⟨p,t,v,wd,nw,us,rfl,hv,⟨as,hp,pr⟩,ht,ok,q⟩;let le:=ok.le;let la:=qS pr;let lm:(↑as)⁻¹=us⁻¹:=by rw[qA];omega
 show⟨_,(aw (sv 3 (cF qdV hr (a3 '0' '1' (kE (kC (AM '2')) (gr IC) '2'))))
  (aw (sv 4 (a0 (a1 (cF qdW hr (a1 '0')))))
  (aw (PS.nox (fv (r1 T.range (ln T.len '0')) (nv 5)
  (aw (sv 6 (px aE '4' '5'))
  (aA (cq (ap '4' (cm ["beginnings"] ["ahead"] [6] (a6 (px aE '3' '5')) (nv 0) bj (cF qdX hr (a2 '1' '0')))))))))
  (aA (aH (br (a2 (cF qdY hr (a2 '3' '4')) '4'))))))),?_⟩
 show Xr (λv' H1=>∃W,v'=.ref W/\Same H H1/\xo H1 W (jo us (roomN wd nw))) (λQ' hQ=>?_) ?_
 .rcases hv with rfl | ⟨rfl,rfl⟩
  .show¬⟨_,O,_,O,ba ⟨_,O,p,t,wd,nw,us,O,⟨as,hp,pr⟩,ht,ok,λW H1 s1 hW=>hQ _ _ ⟨W,O,s1,hW⟩⟩⟩
  .show¬⟨_,O,_,O,bL ⟨p,t,wd,nw,us,O,⟨as,hp,pr⟩,ht,ok,λW H1 s1 hW=>hQ _ _ ⟨W,O,s1,hW⟩⟩⟩
 ext v' H1 ⟨W,rfl,s1,hW⟩;show-⟨p,us,O,Bw.RowAt.same s1 ⟨as,hp,pr⟩,le,λZ H2 hZ s2 ID=>⟨aK,λS hS=>?_⟩⟩;let s3:=ar hS (.lst [.ref Z]);let jz:af H2 S (.lst [.ref Z]) S=!.lst ↑([Z]:TQ):=aj;generalize af H2 S (.lst [.ref Z])=H3 at s3 jz⊢;let cH:=(s1.trans s2).trans s3;let⟨Ad,CN,Ae⟩:=Oj s2 hW;let lw:=qS Ae;let lww:(jo us (roomN wd nw))⁻¹=us⁻¹:=by simp[jo]
 show-⟨p,_,O,.inl (ag (cH _ _ hp)),_,O,by rw[lm];omega,by rw[lm];omega,gp (λr σ H'=>Same H2 H'/\(∃z5 z6,σ=[!.ref p,!.int wd,!v,!.ref W,!.ref S,z5,z6])/\∃e7,H' S=!.lst ↑e7/\Paired (λc os=>OsAt H' c os/\H c=none) e7 ((sumsL us (roomN wd nw)).take (r+1))) ⟨s3,⟨none,none,O⟩,[Z],jz,?_⟩ ?_ ?_⟩
 .rw[qP,List.take_zero,qw (rL _)];show .cons ⟨OsAt.same s3 ID,s1.free hZ⟩ .nil
 .rintro r σ H' ya ⟨s4,⟨z5,z6,rfl⟩,e7,gh,iY⟩;rw[lm]at ya;let Cz:(sumsL us (roomN wd nw))⁻¹=us⁻¹+1:=by simp[sumsL]
  let lsa:=qS iY;rw[xO]at lsa;let er:(0:Int)+(r:Int)=((r:Nat):Int):=()
  show aZ 5 (V.int (0+(r:Int))) _ _ _;rw[er];obtain⟨c1,e1⟩:∃c,e7[r]?=!c:=⟨_,qB (show r<e7⁻¹ by omega)⟩;let⟨x1,Af,h1,_⟩:=bN iY e1;rw[List.getElem?_take_of_lt (),qw ()]at Af;cases Af;show¬⟨S,_,_,_,O,O,ag gh,aU e1,?_⟩;obtain⟨c3,e3⟩:∃c,Ad[r]?=!c:=⟨_,qB (show r<Ad.length by omega)⟩;let⟨x3,Ag,h3'⟩:=bN Ae e3;rw[B8 ()]at Ag;cases Ag;let⟨C5,h3,Ah⟩:=B5 s4 h3';let lee:=qS Ah;let lel:(jn us (roomN wd nw r))⁻¹=us⁻¹+1:=by simp[jn]
  show-⟨.inl ⟨O,_,ag gh⟩,_,O,_,O,W,_,_,_,O,O,ag (s4 _ _ CN),aU e3,c3,O,⟨_,ag h3⟩,bx (xs:=C5.map V.ref) (λk ys ae gK=>Same H' gK/\ys=((bJ us (roomN wd nw) (r+1)).take k).map ov/\∃z,ae=[z,!.ref c1]) (by rw[qA];show aR ()) ⟨Same.refl _,O,none,O⟩ ?_ ?_ ?_⟩
  .ext k ys ae gK hk ⟨s5,rfl,_⟩;show ag (s5 _ _ h3)
  .ext k y ys ae gK hy ⟨s5,rfl,z,rfl⟩;let⟨c4,e4,rfl⟩:=cE hy;let⟨x4,sF,h4⟩:=bN Ah e4;let kl:k<=us⁻¹:=by
    have:=(qF.mp sF).1;omega
   rw[F4 kl]at sF;cases sF;show¬⟨c1,c4,bJ us (roomN wd nw) r,fM us k (roomN wd nw r),O,OsAt.same s5 h1,qu s5 h4,rK (B4 _ _ _ _) (),λx hx=>by rw[qt];have:=FX k hx;omega,λH6 s6=>⟨s5.trans s6,?_,_,O⟩⟩;rw[qP,show(bJ us (roomN wd nw) (r+1))[k]?=!iS (bJ us (roomN wd nw) r) (fM us k (roomN wd nw r)) by
    show((List.range (us⁻¹+1)).map _)[k]?=_;rw[qJ,xA ()];rfl,qD]
   rfl
  .ext ys ae gK ⟨s5,rfl,_⟩ D hD;rw[qH (by rw[qA,qt];omega)];let hDn:H D=none:=((s1.trans s2).trans (s4.trans s5)).free hD;let s6:=s5.trans (ar hD (.lst ((bJ us (roomN wd nw) (r+1)).map ov)));let o3:OsAt (af gK D (.lst ((bJ us (roomN wd nw) (r+1)).map ov))) D (bJ us (roomN wd nw) (r+1)):=aj;generalize af gK D (.lst ((bJ us (roomN wd nw) (r+1)).map ov))=H6 at s6 o3⊢;let lW:=s6 _ _ gh;show⟨S,_,_,O,O,lW,aR (by rw[qA];omega),?_⟩;let keep:∀{c:Addr} {i:Nat},OsAt H6 c (bJ us (roomN wd nw) i)->OsAt (af H6 S (.lst (↑e7++[.ref D]))) c (bJ us (roomN wd nw) i):=λ{c i} h=>by
    let n:=os_ne h (sumsR_ne _ _ _) lW;unfold OsAt at h⊢;rw[aF n];show h
   show⟨gZ (s4.trans s6) hS,⟨_,_,O⟩,e7++[D],by rw[aj,qD];rfl,?_⟩;rw[qP,qw ()];show Paired.snoc ?_ ⟨keep o3,hDn⟩;let all:∀x∈(sumsL us (roomN wd nw)).take (r+1),∃i,x=bJ us (roomN wd nw) i:=λx hx=>by
    let⟨i,_,e⟩:=qO.mp (yK hx);show⟨i,e.symm⟩
   show paired_mem iY λc x hx h=>by
    let⟨i,rfl⟩:=all x hx;show⟨keep (OsAt.same s6 h.1),h.2⟩
 .ext σ H' ⟨s4,⟨z5,z6,rfl⟩,e7,gh,iY⟩;rw[lm,qH (by simp[sumsL])]at iY;let iu:=(s1.trans s2).trans s4;let qdZ:=iY.mono λ_ _ z=>z.1
  show¬⟨W,S,roomN wd nw,us,O,Oj (s2.trans s4) hW,⟨e7,gh,qdZ⟩,le,ok.ok,λA rows k M H5 hA s5 hA5 ch jy=>-⟨aK,λR hR=>?_⟩⟩;let s6:=ar hR (.tup [.ref A,.ref S]);show q R A S rows k M _ ((iu.trans s5).trans s6) ((iu.trans s5).free hR) aj (iu.free hA) (λz=>?_) (nns_same s6 hA5) ⟨(s1.trans s2).free hS,e7,(s5.trans s6) _ _ gh,iY.mono λ_ _ z=>⟨OsAt.same (s5.trans s6) z.1,z.2⟩⟩ ch jy;rw[z,gh]at hA;cases hA
end K31
namespace K31
open L2 Bk Gd Shr Sp0 Ins
open Bd
open Gen
abbrev RA:=top 103
abbrev RB:=top 102
def IF(pr:Paired (Bw.RowAt H) as us){n:Nat}(h:n<us⁻¹):∃a,as[n]?=!a/\Bw.RowAt H a (bu us n):=by
 let⟨a,ea,ha⟩:=eV pr (qB h);show⟨a,ea,?_⟩;unfold bu;rw[qB h];show ha
def Ai{ls:TB}{sp:TC}(cx:mQ ds ls sz sp us){n:Nat}(h:n<ds⁻¹):(bu us n)⁻¹<=100/\∀u∈bu us n,Br.UOk u/\1<=u.h/\u.h<=100:=by
 let h':n<us⁻¹:=by rw[cx.ul];show h
 unfold bu;rw[qB h'];show cx.uok _ (rJ h')
def qd0(F:Fu K "narrow_of" RA f fd)(tS:∃t,mg "SIZE_HIGH" = !.int 0 t)(tW:∃t,mg "WIDE_spans" = !.int 1 t)(IC:mg "NONE_NARROWER" = !.ref C7)(NN:∀H:Hp,SqT K H C7 [.int 0,.int 0])(Ix:⋯ 2 "aside_ahead" ["book", "node"] o8)(HF:⋯ 1 "rounded_up" ["length", "parts"] IB)(IH:⋯ 1 "rows_high" ["units"] Bw.spRowsHigh):(~~~0) 3 f fd ["book", "units", "spans", "sizes", "node"] (Ii K):=by
 rcases F.go ["book", "units", "spans", "sizes", "node", "aside"] with⟨B,p,U,Sp,S,n,ds,ls,us,sp,sz,rfl,I,cx,hn,eE,q⟩;let⟨_,pi⟩:=tS;let⟨_,iW⟩:=tW;show⟨_,(aw (sv 5 (cF Ix hr (a2 '0' '4')))
  (aw (a7 (kC (AM '5')) (aA (aH (gr IC))) bg)
  (aA (aH (br (a2 (cF HF hr (a2 (px aI (px aE '3' '5') (gi pi)) (cF IH hr (a1 (px aE '1' '4'))))) (px aI (px aE '2' '5') (gi iW)))))))),?_⟩
 show¬⟨B,n,ds,O,I.bk,cx.bk,cx.le,hn,λH1 s1=>?_⟩;let I1:=I.same s1;dsimp only[aZ];cases hb:cz ds n with
 | none =>
   let en:da ds us sp (aM sz) n=(0,0):=by unfold da;rw[hb]
   rw[en]at q
   show¬⟨bL (q C7 H1 s1 (NN _) (xD _))⟩
 | some a =>
   let ha:=Co hb
   let en:da ds us sp (aM sz) n=(eS (aM sz a) (a9 ((bu us n).map Un.h)),(aV sp a).2):=by unfold da;rw[hb]
   rw[en]at q
   let⟨zs,hS,iZ⟩:=I1.sz
   let⟨bs,C1,kr⟩:=I1.sp
   let⟨as,hU,Aj⟩:=I1.un
   let⟨z,_,_,_,ez,hz⟩:=lO iZ (show a<sz⁻¹ by rw[cx.zl];omega)
   let eP:a<sp⁻¹:=by rw[cx.sl];omega
   let⟨b,eb,Ak⟩:=eV kr (Ci eP)
   let⟨r,er,kx⟩:=IF Aj (show n<us⁻¹ by rw[cx.ul];show hn)
   let⟨ul,uo⟩:=Ai cx hn
   let hi:=GQ eE uo
   show¬⟨ba ⟨_,O,_,O,S,_,_,_,O,O,ag hS,aU ez,z,_,_,_,O,O,aD hz,O,_,O,_,O,U,_,_,_,O,O,ag hU,aU er,r,_,O,kx,eE,ul,λH2 s2=>?_⟩⟩
   show⟨_,_,O,hi.1,(),_,O,_,O,Sp,_,_,_,O,O,ag (s2 _ _ C1),aU eb,b,_,_,_,O,O,aD (s2 _ _ Ak),O,aK,λt ht=>?_⟩
   show q t _ ((s1.trans s2).trans (ar ht _)) (aD aj) (cx.sb.at eP).1
def qd1(F:Fu K "node_size" RB f fd)(T:bO mg)(tK:∃t,mg "KIND" = !.int 1 t)(tT:∃t,mg "STUFF" = !.int 4 t)(tW:∃t,mg "WIDE_spans" = !.int 1 t)(tR:∃t,mg "ROWS" = !.int 0 t)(tU:∃t,mg "SUMS" = !.int 1 t)(tC:∃t,mg "COUNT" = !.int 0 t)(lQ:mg "KINDS_OF_PIECES" = !.ref gI)(KP:∀H:Hp,SqT K H gI (pieceKinds.map V.str))(qd2:⋯ 6 "high_of_held" ["book", "looks", "sizes", "node"] GH)(qd3:⋯ 3 "narrow_of" ["book", "units", "spans", "sizes", "node"] (Ii K))(CP:⋯ 2 "room_of" ["looks", "spans", "node"] Cf)(II:⋯ 6 "broken" ["units", "width", "narrow"] (Bw.spBroken2 K nn))(IH:⋯ 1 "rows_high" ["units"] Bw.spRowsHigh):(~~~0) 7 f fd ["book", "looks", "units", "spans", "sizes", "node"] Ij:=by
 rcases F.go ["book", "looks", "units", "spans", "sizes", "node", "narrow", "paper"] with⟨B,p,U,Sp,S,n,d,ds,ls,us,sp,sz,rfl,I,cx,ed,q⟩;let hn:=(qF.mp ed).1;let⟨_,eY⟩:=tK;let⟨_,rh⟩:=tT;let⟨_,iW⟩:=tW;let⟨_,RC⟩:=tR;let⟨_,qd4⟩:=tU;let⟨_,sB⟩:=tC;let⟨ab,hB,nd⟩:=I.bk;let⟨a,ea,na⟩:=nd.get ed;let⟨_,m',s',ha,_,_,st⟩:=na;let⟨_,kf,bw,dz⟩:=st;show⟨_,(aw (a7 (tc bv (px aI (px aE '0' '5') (gi eY)) aQ) (aA (aH (br (aJ (px aE (px aI (px aE '0' '5') (gi rh)) ao) (a3 (a0 bE) (a0 bE) ao))))) bg)
  (aw (a7 (tc AZ (px aI (px aE '0' '5') (gi eY)) (gr lQ)) (aA (aH (br (aJ (cF qd2 hr (aJ '0' (a3 '1' '4' '5'))) (a3 (a0 bE) (a0 bE) ao))))) bg)
  (aw (sv 6 (cF qd3 hr (aJ '0' (aJ '2' (a3 '3' '4' '5')))))
  (aw (sv 7 (cF II hr (a3 (px aE '2' '5') (px aI (cF CP hr (a3 '1' '3' '5')) (gi iW)) '6')))
  (aA (aH (br (aJ (aG fe (ln T.len (px aI '7' (gi RC))) (cF IH hr (a1 (px aE '2' '5')))) (a3 (px aI '7' (gi RC)) (px aI '7' (gi qd4)) (px aI '6' (gi sB))))))))))),?_⟩
 let none:∀{G:Hp} {v:Int} {X Y t:Addr},IsSz ds ls us sp (aM sz) n d ⟨v,[],[],0⟩->Same H G->G X=none->af G X (.lst []) Y=none->af (af G X (.lst [])) Y (.lst []) t=none->Q (.ref t) (af (af (af G X (.lst [])) Y (.lst [])) t (.tup [.int v,.ref X,.ref Y,.int 0])):=λ{G v X Y t} iz s0 hX hY ht=>by
  let s1:=ar hX (.lst []);let s2:=ar hY (.lst []);let s3:=ar ht (.tup [.int v,.ref X,.ref Y,.int 0]);show q t (⟨v,[],[],0⟩,X,Y) _ (s0.trans ((s1.trans s2).trans s3)) ⟨aj,s0.free hX,⟨[],(s2.trans s3) _ _ aj,.nil⟩,(s0.trans s1).free hY,[],s3 _ _ aj,.nil⟩ (cB aj hY) iz
 show¬⟨B,_,_,_,O,O,ag hB,aU ea,a,_,_,_,O,O,aD ha,O,O,_,O,?_⟩
 by_cases hp:d.k=.picture
 .refine fT (bB d.k .picture) hp ?_;let⟨w1,h1,kh⟩:=cx.pic n d ed hp;let rz:kf[1]?=!.int h1:=by
   rw[kh]at dz;cases dz with
   | cons q1 t1 => cases t1 with
     | cons q2 _=>rw[show _=V.int h1 from q2];rfl
  show¬⟨B,_,_,_,O,O,ag hB,aU ea,a,_,_,_,O,O,aD ha,O,s',_,_,_,O,O,ag bw,eQ (j:=1) rz,aK,λX hX=>⟨aK,λY hY=>⟨aK,λt ht=>none (.pic hp kh) (Same.refl H) hX hY ht⟩⟩⟩
 show fU (bB d.k .picture) hp ⟨_,O,_,O,B,_,_,_,O,O,ag hB,aU ea,a,_,_,_,O,O,aD ha,O,gI,_,O,.inr (KP _),O,qg _,_,O,?_⟩;rw[qZ O,rf]
 by_cases cM:d.k=.text\/d.k=.head\/d.k=.note
 rotate_left
 .rw[rB cM];show bL ⟨_,O,_,O,_,O,_,O,B,p,S,n,ds,ls,sz,O,I.toInT,cx.toCx4,hn,λG s0=>⟨aK,λX hX=>⟨aK,λY hY=>⟨aK,λt ht=>none (.box hp cM) s0 hX hY ht⟩⟩⟩⟩
 rw[qQ cM];show ba ?_;let eE:=cx.un n d ed cM;let⟨ul,uo⟩:=Ai cx hn;let hi:=GQ eE uo;show¬⟨_,O,_,O,_,O,B,p,U,Sp,S,n,ds,ls,us,sp,sz,O,I,cx,hn,eE,λt H1 s1 ht IK=>?_⟩;let I1:=I.same s1;dsimp only[aZ];let⟨as,hU,Aj⟩:=I1.un;let⟨r,er,kx⟩:=IF Aj (show n<us⁻¹ by rw[cx.ul];show hn);let Al:n<sp⁻¹:=by rw[cx.sl];show hn
 show¬⟨U,_,_,_,O,O,ag hU,aU er,_,O,_,O,_,O,p,Sp,n,ls,sp,O,I1.lk,I1.sp,by rw[cx.ll];show hn,Al,cx.l13,λrm H2 Am s2 prm=>?_⟩;let⟨l,_,cy,lv⟩:=cx.look hn;let rb:=Gu (ls:=ls) (by rw[lv];show cy.ins) (cx.sb.at Al);show⟨rm,_,_,_,O,O,aD prm,O,_,O,r,t,_,_,_,_,O,.inl O,Bw.RowAt.same s2 kx,Br.sqt_same s2 ht,⟨eE,ul,λu hu=>(uo u hu).1,rb.1,rb.2,IK⟩,λR A' B' rows k M H3 s3 hR oi hA ne mT yk ch jy=>?_⟩;dsimp only[aZ];let C8:=s2.trans s3;let cH:=s1.trans C8;let IL:=mT;let⟨ra,jA,IM⟩:=IL;show-⟨R,_,_,_,O,O,aD oi,O,A',_,O,.inl (ag jA),_,O,_,O,U,_,_,_,O,O,ag (C8 _ _ hU),aU er,r,_,O,Bw.RowAt.same C8 kx,eE,ul,λH4 s4=>?_⟩;let fJ:=C8.trans s4;let⟨hB0,IN,IP,IQ⟩:=yk;show⟨_,_,O,O,.inr ⟨(),()⟩,_,O,R,_,_,_,O,O,aD (s4 _ _ oi),O,_,O,R,_,_,_,O,O,aD (s4 _ _ oi),O,_,O,t,_,_,_,O,O,Br.sqt_same fJ ht,O,aK,λx hx=>?_⟩;let s5:=ar hx (.tup [.int (((↑ra)⁻¹:Nat)*a9 ((bu us n).map Un.h)),.ref A',.ref B',.int (da ds us sp (aM sz) n).1]);let kX:=s4.trans s5;let IR:=s1.trans s2;let er:((↑ra)⁻¹:Int)=(rows⁻¹:Int):=by rw[qA,qS IM]
 show q x (⟨((↑ra)⁻¹:Nat)*a9 ((bu us n).map Un.h),rows,_,(da ds us sp (aM sz) n).1⟩,A',B') _ (cH.trans kX) ⟨aj,IR.free hA,Br.nns_same kX mT,IR.free hB0,IN,kX _ _ IP,IQ.mono λc os y=>⟨kX _ _ y.1,IR.free y.2⟩⟩ ne (by rw[er];show .row cM ch jy)
end K31
namespace K31
open L2 Bk Gen
abbrev RD:=top 12
abbrev RE:=top 13
def qd5(F:Fu K "elders_of" RE f fd)(U:∃t,mg "ELDER" = !.int 0 t):(~~~0) 1 f fd ["book", "node"] E6:=by
 rcases F.go ["book", "node", "elders", "above"] with⟨p,i,l,d,ds,N,rfl,⟨as,hp,nd⟩,ed,lv,ll,q⟩;let⟨_,rg⟩:=U;show⟨_,(aw (sv 2 (a0 bE))
  (aw (sv 3 (px aI (px aE '0' '1') (gi rg)))
  (aw (AR vK (tc iE '3' (dM dN ao)) (aw (cq (ap '2' '3'))
  (aA (sv 3 (px aI (px aE '0' '3') (gi rg))))))
  (aA (aH '2'))))),?_⟩
 show⟨aK,λL hL=>?_⟩;let s1:=ar hL (.lst []);let rm:=Na lv ed;let⟨a,ea,na⟩:=nd.get ed;let⟨m',s',ha,_⟩:=na.ex;show¬⟨p,_,_,_,O,O,ag (s1 _ _ hp),aU ea,a,_,_,_,O,O,aD (s1 _ _ ha),O,λm σ H'=>Same H H'/\∃(pre:TN) (ab:Int),σ=[!.ref p,!.int i,!.ref L,!.int ab]/\H' L=!.lst ⇑pre/\E5 ds ab m/\pre++iL ds m ab=iL ds l d.e,⟨l,s1,[],_,O,aj,rm,O⟩,?_⟩;ext m σ H' ⟨s2,pre,ab,rfl,hl,rm,eq⟩;show¬⟨O,_,O,?_⟩;rcases rm with⟨rfl,rfl⟩ | ⟨j,k',rfl,lj,rfl⟩
 .rw[qQ (O:V.int (-1)=V.int (-1))];show ba ⟨_,O,?_⟩;rw[iL,rS]at eq;subst eq;show q L H' hL s2 hl
 .rw[rB (λz=>by have:=V.int.inj z;omega:¬V.int (j:Int)=V.int (-1))];show bL ⟨λae gK=>Same H gK/\∃(ab:Int),ae=[!.ref p,!.int i,!.ref L,!.int ab]/\gK L=!.lst ⇑(pre++[(j:Int)])/\E5 ds ab k'/\(pre++[(j:Int)])++iL ds k' ab=iL ds l d.e,?_,?_⟩
  .ext ae gK ⟨s3,ab,rfl,h3,rm,eq'⟩;show⟨k',rW _,s3,pre++[(j:Int)],ab,O,h3,rm,eq'⟩
  .let⟨d2,IS⟩:=lj.nd;let rm2:=Na lj IS;let⟨a2,ea2,na2⟩:=nd.get IS;let⟨m3,s3,ha2,_⟩:=na2.ex;let pl:pre⁻¹<=999:=by have:=xJ List.length eq;rw[qI,BI,BI]at this;omega
   let s4:Same H (af H' L (.lst (⇑pre++[.int (j:Int)]))):=gZ s2 hL;show-⟨.inl ⟨O,_,ag hl⟩,_,O,L,_,_,O,O,hl,aR (by rw[qA];omega),_,O,_,O,p,_,_,_,O,O,ag (s4 _ _ hp),aU ea2,a2,_,_,_,O,O,aD (s4 _ _ ha2),O,?_⟩;show⟨s4,_,O,by rw[aj];simp,rm2,by rw[Yx IS]at eq;rw[<-eq];simp⟩
def qd6(F:Fu K "level_of" RD f fd)(T:Bn mg)(qd7:⋯ 1 "elders_of" ["book", "node"] E6):(~~~0) 2 f fd ["book", "node"] E7:=by
 rcases F.go ["book", "node"] with⟨p,i,l,ds,N,rfl,B,lv,ll,q⟩;let⟨d,ed⟩:=lv.nd;show⟨_,(aA (aH (ln T.len (cF qd7 hr (a2 '0' '1'))))),_,O,_,O,p,i,l,d,ds,N,O,B,ed,lv,ll,λL H' hL s1 h1=>?_⟩;show⟨L,_,O,.inl (ag h1),?_⟩;rw[qA,BI];show q H' s1
end K31
namespace L2
open PyProof.Rows
end L2
namespace HT
open PyProof.Rows
end HT
namespace L2
open PySem.Calls PyProof.Rows PySem.W
def Un.less(k:∀b o,h.get? b=!o->h1.get? b=!o)(hL:h.objs.size<=L)(u:Un (L::fs) [] H H' h1 h'):Un fs [] H H' h h':=by
 let ne:∀{b:Addr} {o:Obj},h.get? b=!o->b≠L:=λe z=>by
  have:=qK e;rw[z]at this;show qT this (xF hL)
 show⟨λb o e n hb he=>u.keep b o (k b o e) n (λz=>?_) he,λb o e n hb he=>u.slot b o (k b o e) n (qW _ hb) he,λb o e n he=>u.free b o (k b o e) n he,λb o e he=>u.there b o (k b o e) he,u.tups,u.frzs,u.tbls⟩;rcases qN.mp z with z | z
 .show ne e z
 .show hb z
def nD(c:Addr)(qual:Str):HO:=.ext λh=>h.CodeRec (.ref c) qual
section
variable{P:Program}{w:World}{K:W.Frag}{mg:TJ}{base:Heap}{A:Around}{outer:List Env}{s s':Shared}{H H':Hp}{h h':Heap}{l I:Addr}{xs:List V}
def HOk.but(x:HOk P w H h)(hI:H I=none)(k:∀b u,b≠I->h.get? b=!u->h'.get? b=!u):HOk P w H h':=λa o e =>
 (x a o e).stay (λb u z q=>k b u (λy=>by
  rcases z with z | z
  .rw[<-z,y,hI]at e;cases e
  .rw[y,hI]at z;cases z) q) (λ_ q=>q) λ_ _ q=>q
def HOk.reT(x:HOk P w H h)(hl:H l=none)(new:∀H2:Hp,ObjOk P w H2 h l (.lst xs)):HOk P w (af H l (.lst xs)) h:=λa o e=>by
 by_cases z:a=l
 .rw[z,aj]at e;cases e;rw[z];show new _
 .rw[aF z]at e;show(x a o e).stay (λ_ _ _ q=>q) (λb q=>by rw[aF (λz=>by rw[z,hl]at q;cases q)];show q) λb ys q=>by rw[aF (λz=>by rw[z,hl]at q;cases q)];show q
def qd8(u:Un fs [] H H' h h'):∀(l:List Env),(∀b∈cX l,b∈fs/\H b=none)->h.FunFrames base l->h'.FunFrames base l:=by
 intro l
 induction l with
 | nil=>intro _ _;trivial
 | cons env r ih =>
   intro hs hl
   let⟨hk,⟨L,o,hf,hn,ho,hd⟩,hr⟩:=hl
   let hL:=hs L (by unfold cX;rw[uI,hf];show rF)
   let⟨sl,e⟩:=u.slot L o ho hL.2 hL.1 ∅
   show⟨hk,⟨L,_,hf,hn,e,hd⟩,ih (λb hb=>hs b (by unfold cX;rw[uI,hf];show qW _ hb)) hr⟩
def Env0.un(e:Env0 P w K mg base A outer s H)(u:Un (cX outer) [] H H' s.heap s'.heap)(hok:HOk P w H' s'.heap)(bare:AllBare s'.gens)(sz: ~~~s<= ~~~s'):Env0 P w K mg base A outer s' H':=by
 let nf:∀{b:Addr} {o:Obj},base.get? b=!o->b∉cX outer:=λq hb=>by rw[(e.funs.mem hb).1]at q;cases q
 show⟨e.frames,e.mod,λb o q=>⟨u.keep b o (e.bs b o q).1 (e.bs b o q).2 (nf q) ∅,u.free b o (e.bs b o q).1 (e.bs b o q).2 ∅⟩,rK e.bsz sz,qd8 u outer (λb hb=>⟨hb,e.frf b hb⟩) e.funs,λb hb=>?_,hok,bare⟩;let⟨_,o,ho,_⟩:=e.funs.mem hb;show u.free b o ho (e.frf b hb) ∅
end
def gj(H:Hp)(Pt:Addr)(pos:Pos)(qual:Str):=∃ps:Array Value,H Pt=!.tbl ps/\TriplesOk ps.toList/\(codeAmong pos ps.toList=none\/∃c',codeAmong pos ps.toList=!.ref c'/\H c'=!nD c' qual)
def qd9(h1 h2:Heap)(x:h1.CodeRec (.ref c) qual)(k:∀o,h1.get? c=!o->h2.get? c=!o):h2.CodeRec (.ref c) qual:=by
 let⟨c2,o,vs,t,e,g,r⟩:=x;cases e;show⟨c,o,vs,t,O,k _ g,r⟩
theorem RF:∀(ps:TU),TriplesOk ps->codeAmong pos ps=none->TriplesOk (ps++[rawInt pos.line,rawInt pos.col,c])/\codeAmong pos (ps++[rawInt pos.line,rawInt pos.col,c])=!c
 | [],_,_=>⟨trivial,by simp[codeAmong,rawInt]⟩
 | .int a t :: .int b u :: v :: r, h, n => by
   let n':(if(a == (pos.line:Int) && b == (pos.col:Int))=true then !v else codeAmong pos r)=none:=n
   by_cases z:(a == (pos.line:Int) && b == (pos.col:Int))=true
   · rw[qZ z]at n';cases n'
   · rw[qX z]at n'
     let⟨h1,h2⟩:=RF r h n'
     show⟨h1,?_⟩
     show(if(a == (pos.line:Int) && b == (pos.col:Int))=true then !v else codeAmong pos (r++[rawInt pos.line,rawInt pos.col,c]))=!c
     rw[qX z]
     show h2
section
variable{X:Cx}{aa:TF}{s:Shared}{σ:St}{H:Hp}{c Pt:Addr}{params:Arguments}{body:Expr}{scope:Scope}{pos:Pos}{cl:List (Str×Addr)}{Q:TH}{E:TH}
def qea(I:Inv X aa σ H s)(C9:X.env.code=.ref c)(hC:codeHdIn X.K c Pt=true)(hPt:Pt≠mainGlobals)(tb:gj H Pt pos (X.env.qual ++ "<lambda>"))(hB:X.base.BuiltinsAt X.mg Pt)(eR:closureFor scope X.env=pure cl)(IT:defaultsOf params X.env=([],[]))(k:∀(f c':Addr) (fA:Value) (h':Heap) (tk:Nat) (H':Hp),Inv X aa σ H' {s with heap:=h',toks:=tk}->h'.get? f=!kla_obj "<lambda>" (X.env.qual ++ "<lambda>") params body scope cl ((X.mg "__name__").getD .none) c' fA-> ~~~s<=f->H f=none->H' f=none ->
   H' c'=!nD c' (X.env.qual ++ "<lambda>")->gj H' Pt pos (X.env.qual ++ "<lambda>")->(∀b,b≠Pt->∀o,H b=!o->H' b=!o)->Q (.ref f) {s with heap:=h',toks:=tk}) :
  wpAny (model X.prog X.w) X.A (eval (.Lambda params body scope pos) X.env) Q E s:=by
 let⟨ps,hT,ht,cs⟩:=tb;let eT:s.heap.get? Pt=!tabObj ps:=I.hok Pt _ hT;let bA:s.heap.BuiltinsAt X.mg Pt:=by
  let⟨bm,o,b1,b2,b3,b4,b5,r⟩:=hB;show⟨bm,o,b1,b2,b3,b4,I.bk _ _ b5,r⟩
 let hg:s.heap.Ns mainGlobals X.mg:=I.mod.glob.keeps I.bk;let C:=codeHd_of_K I.kIn hC;show kla_eval IT ?_;rcases cs with hn | ⟨c',hs,eK⟩
 .refine kla_makeFunction eR I.ok.glob hg C9 C eT ht hn (rV hPt) bA λc' fA h' tk hx nE aX RG RH=>?_
  let⟨tm,cm⟩:=RF (c:=.ref c') (pos:=pos) ps.toList ht hn;let cP:c'≠Pt:=λz=>by
   have:=qK eT;rw[<-z]at this;show qT this (xF nE)
  let nc:H c'=none:=I.hok.fresh nE;let kk:∀b o,b≠Pt->s.heap.get? b=!o->(h'.push (kla_obj "<lambda>" (X.env.qual ++ "<lambda>") params body scope cl ((X.mg "__name__").getD .none) c' fA)).get? b=!o:=λb o n e=>qE _ (hx b o n e)
  let sz: ~~~s<=h'.objs.size:=rX (yB nE aX);let fr:=qR h' (o:=kla_obj "<lambda>" (X.env.qual ++ "<lambda>") params body scope cl ((X.mg "__name__").getD .none) c' fA) O;let Da:∀{b:Addr} {o:HO},H b=!o->(∀qs,o≠.tbl qs)->b≠Pt:=λe n z=>by rw[z,hT]at e;cases e;show n _ O
  let pI:∀{b:Addr} {o:HO},H b=!o->b≠c':=λe z=>by rw[z,nc]at e;cases e
  let fc:h'.objs.size≠c':=yG aX;let fP:h'.objs.size≠Pt:=yG (rA (qK eT) sz);let nF:H h'.objs.size=none:=I.hok.fresh sz;let H'f:af (af H Pt (.tbl (ps++#[rawInt pos.line,rawInt pos.col,.ref c']))) c' (nD c' (X.env.qual ++ "<lambda>")) h'.objs.size=none:=by rw[aF fc,aF fP];show nF
  let old:∀b,b≠Pt->∀o,H b=!o->af (af H Pt (.tbl (ps++#[rawInt pos.line,rawInt pos.col,.ref c']))) c' (nD c' (X.env.qual ++ "<lambda>")) b=!o:=λb n o e=>by rw[aF (pI e),aF n];show e
  show k h'.objs.size c' fA _ tk _ (I.un (t':=tk) ⟨λb o e n hb he=>kk b o (λz=>by rw[z,hT]at n;cases n) e,λb o e n hb he=>⟨o.slots,kk b o (λz=>by rw[z,hT]at n;cases n) e⟩,λb o e n he=>?_,λb o e he=>?_,λb ys e=>old b (Da e λ_ z=>nomatch z) _ e,λb o z e=>old b (Da e λ_ z=>nomatch z) _ e,λb qs e=>?_⟩ λa o e=>?_) fr sz nF H'f aj ⟨_,by rw[aF (rV cP),aj],‹tm›,.inr ⟨c',‹cm›,aj⟩⟩ old
  .rw[aF (λz=>by have:=qK e;rw[z]at this;show qT this (xF nE)),aF (λz=>by rw[z,hT]at n;cases n)];show n
  .by_cases z:b=Pt
   .rw[z];show⟨_,qE _ RH⟩
   .show⟨o,kk b o z e⟩
  .by_cases z:b=Pt
   .rw[z,hT]at e;cases e;rw[z];show⟨_,by rw[aF (rV cP),aj]⟩
   .show⟨#[],by rw[old b z _ e];simp⟩
  .by_cases za:a=c'
   .rw[za,aj]at e;cases e;let⟨c2,oc,vs,t,e2,g2,r2⟩:=id RG;cases e2;rw[za];show⟨RG.push _,⟨_,qE _ g2⟩,qd9⟩
   .rw[aF za]at e
    by_cases zp:a=Pt
    .rw[zp,aj]at e;cases e;rw[zp];show qE _ RH
    .rw[aF zp]at e;show(I.hok a o e).stay (λb u z q=>kk b u (λy=>?_) q) (λb q=>old b (Da q λ_ z=>nomatch z) _ q) λb ys q=>old b (Da q λ_ z=>nomatch z) _ q
     rcases z with z | z
     .show zp (z.symm.trans y)
     .rw[y,hT]at z;cases z
 .show kla_makeFunctionHit eR I.ok.glob hg C9 C eT ht hs bA λfA h' tk hx hsz=>?_
  let fr:=qR h' (o:=kla_obj "<lambda>" (X.env.qual ++ "<lambda>") params body scope cl ((X.mg "__name__").getD .none) c' fA) O;show k h'.objs.size c' fA _ tk H (I.kept (t':=tk) λb o e=>qE _ (hx b o e)) fr hsz (I.hok.fresh hsz) (I.hok.fresh hsz) eK ⟨ps,hT,ht,.inr ⟨c',hs,eK⟩⟩ λb _ o e=>e
end
end L2
namespace Stb
open PyProof.Rows Tim
abbrev kk(x:Keyed):Int:=numOf x.1
abbrev nn(x:Keyed):Int:=numOf x.2
def Lx(x y:Keyed):Prop:=kk x<kk y\/(kk x=kk y/\nn x<nn y)
def Lx.le{x y:Keyed}(h:Lx x y):kk x<=kk y:=h.elim wF λq=>Int.le_of_eq q.1
def RI(xs:Array Keyed)(i:Nat):K xs i=kk (T xs i):=by
 unfold K T;cases xs[i]?<;>rfl
def Sto(xs:Array Keyed)(k:Nat):=∀i j,i<j->j<k->Lx (T xs i) (T xs j)
def An(xs:Array Keyed)(k:Nat):=∀i j,i<j->j<k->Lx (T xs j) (T xs i)
def Sto.le{xs:Array Keyed}{k i j:Nat}(h:Sto xs k)(eI:i<=j)(hj:j<k):kk (T xs i)<=kk (T xs j):=by
 rcases Nat.lt_or_eq_of_le eI with c | rfl
 .show(h i j c hj).le
 .show xD _
structure Dv(xs:Array Keyed)(p x:Nat):Prop where
 lt:p<x
 fa:An xs p
 mi:∀i j,i<p->p<=j->j<x->kk (T xs j)<kk (T xs i)
 al:∀i j,p<=i->i<j->j<x->kk (T xs i)=kk (T xs j)/\nn (T xs i)<nn (T xs j)
structure Bs(a₀:Array Keyed)(m:Nat)(st:SortSt):Prop where
 b:SBase a₀ st
 out:∀t,m<=t->t<a₀.size->nn (T (arrOf st) t)=t
 lo:∀t,t<m->nn (T (arrOf st) t)<m
section
variable{prog:Program}{w:World}{A:Around}{E:TH}{s:Shared}{a₀:Array Keyed}{st:SortSt}{xs:Array Keyed}{m n p x:Nat}
def Bs.up(h:Bs a₀ m st)(hm:m<a₀.size):Bs a₀ (m+1) st:=⟨h.b,λt a b=>h.out t (Nat.le_of_succ_le a) b,λt a=>by
 rcases yD.mp a with c | rfl
 .have:=h.lo t c;omega
 .rw[h.out t (qG _) hm];omega⟩
def Bs.mir(h:Bs a₀ m st){i j:Nat}(hj:j<=m)(hm:m<=a₀.size):Bs a₀ m (setArr st (mirror (arrOf st) i j ((j-i) / 2))):=by
 let sz:j<=(arrOf st).size:=by rw[h.b.size];show rK hj hm
 show⟨h.b.setArr (mirror_perm _ _ _ _),λt a b=>?_,λt a=>?_⟩
 .show nn (T (mirror (arrOf st) i j ((j-i) / 2)) t)=t;rw[jU sz,qX λq=>xF (rK hj a) q.2];show h.out t a b
 .show nn (T (mirror (arrOf st) i j ((j-i) / 2)) t)<m;rw[jU sz]
  split
  .show h.lo _ ()
  .show h.lo _ a
def Ao{i j:Nat}{Q:Option Bool->SortSt->Prop}(h0:IntKeys a₀)(hB:Bs a₀ m st)(hi:i<a₀.size)(hj:j<=i\/j<a₀.size)(h1:kk (T (arrOf st) i)<kk (T (arrOf st) j)->Q (!true) st)(h2:kk (T (arrOf st) j)<=kk (T (arrOf st) i)->Q (!false) st):wpS (model prog w) A E s (ltAt' i j) Q st:=by
 show wpS_ltK hB.b h0 hi (hj.elim (λq=>yB q hi) id) ?_;rw[RI,RI]
 by_cases h:kk (T (arrOf st) i)<kk (T (arrOf st) j)
 .rw[qQ h];show h1 h
 .rw[rB h];show h2 (Int.not_lt.mp h)
def Dv.least(h:Dv xs p x){i:Nat}(hi:i<x):kk (T xs (x-1))<=kk (T xs i):=by
 by_cases hp:i<p
 .show wF (h.mi i (x-1) hp (vF h.lt) ())
 .by_cases e:i=x-1
  .rw[e];show xD _
  .rw[(h.al i (x-1) (xW hp) () ()).1];show xD _
def Dv.fal(h:Dv xs p x)(hx:x<=xs.size):An (mirror xs p x ((x-p) / 2)) x:=by
 intro i j eI hj;rw[jU hx,jU hx]
 by_cases ci:p<=i
 .rw[qZ ⟨rK ci (rX eI),hj⟩,qZ ⟨ci,uK eI hj⟩];show .inr (h.al _ _ () () ())
 .by_cases cj:p<=j
  .rw[qZ ⟨cj,hj⟩,qX λq=>ci q.1];show .inl (h.mi i _ (Nat.lt_of_not_le ci) () ())
  .rw[qX λq=>cj q.1,qX λq=>ci q.1];show h.fa i j eI (Nat.lt_of_not_le cj)
def Dv.fal1(h:Dv xs p x)(e:x<=p+1):An xs x:=λi j eI hj=>by
 by_cases c:j<p
 .show h.fa i j eI c
 .show .inl (h.mi i j () (xW c) hj)
def Db(h:An xs x)(hl:∀i,i<x->kk (T xs x)<kk (T xs i)):Dv xs x (x+1) :=
 ⟨rW _,h,λi j a b c=>by
  obtain rfl:j=x:=vL (vP c) b;show hl i a,λi j a b c=>qT c ()⟩
def RJ{a:Nat}{Q:AscSt->SortSt->Prop}(h0:IntKeys a₀)(ha:1<=a)(RK:a<=a₀.size)(hB:Bs a₀ a st)(hs:Sto (arrOf st) a)(h:∀n,a<=n->n<=a₀.size->Bs a₀ n st->Sto (arrOf st) n->(n=a₀.size\/kk (T (arrOf st) n)<kk (T (arrOf st) (n-1)))->Q (none,n) st):wpS (model prog w) A E s (ascLoop a a₀.size) Q st:=by
 unfold ascLoop;show wpS_forRange (I:=λx c aO=>aO=st/\c=(none,x)/\Bs a₀ x st/\Sto (arrOf st) x) ?step ?fin ⟨O,O,hB,hs⟩
 case fin =>
  ext c aO ⟨rfl,rfl,bC,bw⟩;rw[Nat.max_eq_right RK]at bC bw⊢;show h _ RK (qG _) bC bw (.inl O)
 case step =>
  ext x c aO IU iA ⟨rfl,rfl,bC,bw⟩;dsimp only;show wpS_bind (Ao h0 bC iA (.inl (Nat.sub_le _ _)) (λhl=>?_) λhl=>?_)
  .show wpS_pure (h x IU (rX iA) bC bw (.inr hl))
  .show wpS_pure ⟨O,O,bC.up iA,λi j eI hj=>?_⟩;rcases yD.mp hj with c | rfl
   .show bw i j eI c
   .let e1:=bC.out j (qG _) iA;let e2:=bC.lo i eI;let le:=yC (bw.le (vF eI) ()) hl;unfold Lx;omega
def RL{Q:Option Nat->SortSt->Prop}(h0:IntKeys a₀)(h1:1<=n)(nG:n<=a₀.size)(hB:Bs a₀ n st)(hs:An (arrOf st) n)(h:∀m aO,Bs a₀ m aO->1<=m->m<=a₀.size->Sto (arrOf aO) m->Q (!m) aO):wpS (model prog w) A E s (tail3 n a₀.size) Q st:=by
 unfold tail3;show wpS_bind (wpS_reverse ?_);show wpS_bind (RJ h0 h1 nG (hB.mir (qG _) nG) (λi j eI hj=>?_) λm a b c d _=>wpS_pure (h m _ c (rK h1 a) b d));show Lx (T (mirror (arrOf st) 0 n ((n-0) / 2)) i) (T (mirror (arrOf st) 0 n ((n-0) / 2)) j);let sz:n<=(arrOf st).size:=by rw[hB.b.size];show nG
 rw[jU sz,jU sz,qZ ⟨rL _,uK eI hj⟩,qZ ⟨rL _,hj⟩];show hs _ _ () ()
def qeb{Q:DescSt->SortSt->Prop}(h0:IntKeys a₀)(nG:n+1<=a₀.size)(hB:Bs a₀ (n+1) st)(hs:Dv (arrOf st) n (n+1))(h:∀m q aO,Bs a₀ m aO->n+1<=m->m<=a₀.size->q+1<=m->Dv (arrOf aO) (m-(q+1)) m->Q (none,m,q) aO):wpS (model prog w) A E s (descLoop (n+1) a₀.size) Q st:=by
 unfold descLoop;show wpS_forRange (I:=λx c aO=>∃q,c=(none,x,q)/\Bs a₀ x aO/\q+1<=x/\Dv (arrOf aO) (x-(q+1)) x) ?step ?fin ⟨0,O,hB,yO (rL _),hs⟩
 case fin =>
  ext c aO ⟨q,rfl,bC,hq,hd⟩;rw[Nat.max_eq_right nG]at bC hq hd⊢;show h _ q aO bC nG (qG _) hq hd
 case step =>
  ext x c aO IU iA ⟨q,rfl,bC,hq,hd⟩;dsimp only;let IV:=rX iA;let sz:x<=(arrOf aO).size:=by rw[bC.b.size];show IV
  show wpS_bind (Ao h0 bC iA (.inl (Nat.sub_le _ _)) (λhl=>?_) λhl=>?_)
  .dsimp only;rw[qZ O]
   by_cases Ap:q>0
   .rw[qZ Ap];show wpS_bind (wpS_reverse (wpS_pure ⟨0,O,(bC.mir (qG _) IV).up iA,yO (rL _),?_⟩));show Dv (mirror (arrOf aO) (x-(q+1)) x ((x-(x-(q+1))) / 2)) x (x+1);show Db (hd.fal sz) λi hi=>?_
    rw[jU sz,jU sz,qX λz=>rP _ z.2]
    split
    .show uY hl (hd.least ())
    .show uY hl (hd.least hi)
   .rw[qX Ap];show wpS_pure ⟨0,O,bC.up iA,yO (rL _),Db (hd.fal1 ()) λi hi=>uY hl (hd.least hi)⟩
  .dsimp only;rw[qX qU];show wpS_bind (Ao h0 bC (yB (Nat.sub_le _ _) iA) (.inr iA) (λhg=>?_) λhg=>?_)
   .show wpS_pure (h x q aO bC IU IV hq hd)
   .have e:=wC hg hl;show wpS_pure ⟨q+1,O,bC.up iA,yO hq,?_⟩;rw[Nat.succ_sub_succ];show⟨xQ hd.lt,hd.fa,λi j a b c=>?_,λi j a b c=>?_⟩
    .rcases yD.mp c with cj | rfl
     .show hd.mi i j a b cj
     .rw[e];show hd.mi i _ a (vF hd.lt) ()
    .rcases yD.mp c with cj | rfl
     .show hd.al i j a b cj
     .rw[bC.out j (qG _) iA,e];show⟨?_,uY (bC.lo i b) (xD _)⟩
      by_cases ei:i=j-1
      .rw[ei]
      .show(hd.al i (j-1) a () ()).1
def RM{Q:Option Nat->SortSt->Prop}(h0:IntKeys a₀)(nG:n+1<=a₀.size)(hB:Bs a₀ (n+1) st)(hs:Dv (arrOf st) n (n+1))(h:∀m aO,Bs a₀ m aO->1<=m->m<=a₀.size->Sto (arrOf aO) m->Q (!m) aO):wpS (model prog w) A E s (descPart n a₀.size) Q st:=by
 unfold descPart;show wpS_bind (wpS_lift (wpAny_rule ⟨O,?_⟩));show wpS_bind (qeb h0 nG hB hs λm q aO bC IX pj hq hd=>?_);dsimp only;let m1:1<=m:=rK (yO (rL _)) IX
 by_cases Ap:q>0
 .rw[qZ Ap];show wpS_bind (wpS_reverse (RL h0 m1 pj (bC.mir (qG _) pj) (hd.fal (by rw[bC.b.size];show pj)) h))
 .rw[qX Ap];show RL h0 m1 pj bC (hd.fal1 ()) h
def qec{Q:Option Nat->SortSt->Prop}(h0:IntKeys a₀)(h1:1<=a₀.size)(hB:Bs a₀ 1 st)(h:∀m aO,Bs a₀ m aO->1<=m->m<=a₀.size->Sto (arrOf aO) m->Q (!m) aO):wpS (model prog w) A E s (countRun' 0 a₀.size) Q st:=by
 rw[countRun0_eq];show wpS_bind (RJ h0 (qG 1) h1 hB (λi j a b=>qT b ()) λn Aq sG sJ Ar hor=>?_);dsimp only
 by_cases Dc:n=a₀.size
 .rw[qZ ‹Dc›];show wpS_pure (h n st sJ Aq sG Ar)
 .rw[qX ‹Dc›];let aX:=hor.resolve_left Dc;let sK:=Nat.lt_of_le_of_ne sG Dc
  by_cases IY:n>1
  .rw[qZ IY];show wpS_bind (Ao h0 sJ h1 (.inr (yB (Nat.sub_le _ _) sK)) (λhr=>?_) λhr=>?_)
   .show wpS_pure (h n st sJ Aq sG Ar)
   .let sz:n<=(arrOf st).size:=by rw[sJ.b.size];show sG
    let n1:n-1<n:=Nat.sub_lt Aq Nat.one_pos;let eq:∀i,i<n->kk (T (arrOf st) i)=kk (T (arrOf st) (n-1)):=λi hi=>wC (Ar.le (vF hi) n1) (yC hr (Ar.le (rL _) hi))
    let dv:Dv (arrOf st) 0 n:=⟨Aq,λi j _ b=>qT b (xP _),λi j a=>qT a (xP _),λi j _ a b=>by
     let e:kk (T (arrOf st) i)=kk (T (arrOf st) j):=(eq i (uK a b)).trans (eq j b).symm;show⟨e,(Ar i j a b).elim (λq=>?_) (·.2)⟩;rw[e]at q;show qT q (Int.lt_irrefl _)⟩
    show wpS_bind (wpS_reverse (RM h0 sK ((sJ.up sK).mir (yS _) sK) ?_ h));show Dv (mirror (arrOf st) 0 n ((n-0) / 2)) n (n+1);show Db (dv.fal sz) λi hi=>?_
    rw[jU sz,jU sz,qX λz=>rP _ z.2,qZ ⟨rL _,hi⟩,eq (0+n-1-i) ()];show aX
  .rw[qX IY];obtain rfl:n=1:=vL (xW IY) Aq;show RM h0 sK (sJ.up sK) (Db (λi j a b=>qT b ()) λi hi=>?_) h;obtain rfl:=Nat.lt_one_iff.mp hi;show aX
def qed{ok:Nat}{Q:Bool->SortSt->Prop}(h0:IntKeys a₀)(h1:1<=ok)(hok:ok<=a₀.size)(hB:Bs a₀ ok st)(hs:Sto (arrOf st) ok)(h:∀ aO,SBase a₀ aO->Sto (arrOf aO) a₀.size->Q true aO):wpS (model prog w) A E s (binarySort' 0 a₀.size ok) Q st:=by
 rw [binarySort'_eq,Nat.max_eq_left h1]
 simp only [Nat.zero_add]
 show wpS_bind (wpS_mono (wpS_forRange (I:=λk c aO=>c=(none,Unit.unit)/\Bs a₀ k aO/\Sto (arrOf aO) k) (Q:=λc aO=>c=(none,Unit.unit)/\SBase a₀ aO/\Sto (arrOf aO) a₀.size) ?step ?fin ⟨O,hB,hs⟩) ?post)
 case post =>
  ext c aO ⟨rfl,bC,bw⟩
  show wpS_pure (h aO bC bw)
 case fin =>
  ext c aO ⟨hc,bC,bw⟩
  rw [Nat.max_eq_right hok] at bw
  show ⟨hc,bC.b,bw⟩
 case step =>
  ext k c aO hak hk ⟨rfl,bC,bw⟩
  show wpS_bind (wpS_mono (wpS_forRange (I:=λy c cN=>cN=aO/\∃ l r,c=(none,l,r)/\l<=r/\r<=k/\r - l<=k - y/\(∀ i,i < l->kk (T (arrOf aO) i)<=kk (T (arrOf aO) k))/\(∀ i,r<=i->i < k->kk (T (arrOf aO) k) < kk (T (arrOf aO) i)))
   (Q:=λc cN=>cN=aO/\∃ l r,c=(none,l,r)/\l<=k/\(∀ i,i < l->kk (T (arrOf aO) i)<=kk (T (arrOf aO) k))/\(∀ i,l<=i->i < k->kk (T (arrOf aO) k) < kk (T (arrOf aO) i))) ?istep ?ifin ⟨O,0,k,O,rL _,qG _,qG _,λi hi=>qT hi (xP _),λi a b=>qT b (xF a)⟩) ?ipost)
  case ifin =>
   ext c cN ⟨rfl,l,r,rfl,RN,As,hm,og,sO⟩
   obtain rfl:l=r:=()
   show ⟨O,l,l,O,As,og,sO⟩
  case istep =>
   ext y c cN _ hyk ⟨rfl,l,r,rfl,RN,As,hm,og,sO⟩
   dsimp only
   by_cases nE:l ≥ r
   .rw [qZ nE]
    obtain rfl:=vL RN nE
    show wpS_pure ⟨O,l,l,O,As,og,sO⟩
   .rw [qX nE]
    let mr:(l+r) / 2 < r:=()
    let mk:=rA mr As
    let lm:l<=(l+r) / 2:=()
    show wpS_bind (Ao h0 bC hk (.inl (rX mk)) (λhl=>?_) λhl=>?_)
    .show wpS_pure ⟨O,l,(l+r) / 2,O,lm,rX mk,(),og,λi a b=>uY hl (bw.le a b)⟩
    .show wpS_pure ⟨O,(l+r) / 2+1,r,O,mr,As,(),λi a=>yC (bw.le (vP a) mk) hl,sO⟩
  case ipost =>
   ext c cN ⟨rfl,l,r,rfl,nH,og,sO⟩
   show wpS _ _ _ _ (do moveDown' k l; pure (ForInStep.yield (none,Unit.unit))) _ _
   rw [moveDown'_eq]
   let kY:k < (arrOf cN).size:=by rw [bC.b.size]; show hk
   let b1:T (bubble (arrOf cN) k (k - l)) l=T (arrOf cN) k:=by rw [E1 kY (Nat.sub_le _ _),qZ (Nat.sub_sub_self nH).symm]
   let b2:∀ t,l<=t->t < k->T (bubble (arrOf cN) k (k - l)) (t+1)=T (arrOf cN) t:=λt a b=>by
    rw [E1 kY (Nat.sub_le _ _),Nat.sub_sub_self nH,qX (),qZ ⟨Nat.lt_succ_of_le a,b⟩]
    rfl
   let b3:∀ t,t < l\/k < t->T (bubble (arrOf cN) k (k - l)) t=T (arrOf cN) t:=λt a=>by
    rw [E1 kY (Nat.sub_le _ _),Nat.sub_sub_self nH,qX (),qX ()]
   let nk:=bC.out k (qG _) hk
   let all:∀ {M:Nat->Keyed->Prop},(∀ t,t < l->M t (T (arrOf cN) t))->M l (T (arrOf cN) k)->(∀ t,l<=t->t < k->M (t+1) (T (arrOf cN) t))->∀ t,t < k+1->M t (T (bubble (arrOf cN) k (k - l)) t):=λ{M} m1 m2 m3 t ht=>by
    rcases Nat.lt_trichotomy t l with c | rfl | c
    .rw [b3 t (.inl c)]; show m1 t c
    .rw [b1]; show m2
    .obtain ⟨u,rfl⟩:∃ u,t=u+1:=⟨t - 1,()⟩
     rw [b2 u (vP c) (vQ ht)]
     show m3 u (vP c) (vQ ht)
   show wpS_bind (wpS_modify (wpS_pure ⟨O,⟨bC.b.setArr (bubble_perm _ _ _),λt a b=>?_,all (M:=λ_ x=>nn x < ((k+1:Nat):Int)) ?_ ?_ ?_⟩,λi j eI hj=>all (M:=λj x=>i < j->Lx (T (bubble (arrOf cN) k (k - l)) i) x) ?_ ?_ ?_ j hj eI⟩))
   .show nn (T (bubble (arrOf cN) k (k - l)) t)=t
    rw [b3 t (.inr a)]
    show bC.out t (Nat.le_of_succ_le a) b
   .show λt a=>Int.lt_trans (bC.lo t (rA a nH)) ()
   .rw [nk]; omega
   .show λt _ a=>Int.lt_trans (bC.lo t a) ()
   .intro t a hi
    rw [b3 i (.inl (uK hi a))]
    show bw i t hi (rA a nH)
   .intro hi
    rw [b3 i (.inl hi)]
    let a:=og i hi
    let b:=bC.lo i (rA hi nH)
    unfold Lx
    omega
   .intro t a b hi
    show all (M:=λi x=>i < t+1->Lx x (T (arrOf cN) t)) (λu c _=>bw u t (rA c a) b) (λ_=>.inl (sO t a b)) (λu c d e=>bw u t (vQ e) b) i (uK eI hj) hi
def IZ(a₀:Array Keyed)(aO:SortSt):=(arrOf aO).Perm a₀/\failedOf aO=none/\pendingOf aO=#[(0,a₀.size,0)]/\Sto (arrOf aO) a₀.size
def wp_stb{Q:Unit->SortSt->Prop}(h0:IntKeys a₀)(hp:∀t,t<a₀.size->nn (T a₀ t)=t)(ha:arrOf st=a₀)(hB:SBase a₀ st)(h2:2<=a₀.size)(fI:a₀.size<64)(h:∀aO,(arrOf aO).Perm a₀->failedOf aO=none->Sto (arrOf aO) a₀.size->Q Unit.unit aO):wpS (model prog w) A E s sortRuns' Q st:=by
 let h1:1<=a₀.size:=Nat.le_of_succ_le h2;let B1:Bs a₀ 1 st:=⟨hB,λt _ b=>by rw[ha];show hp t b,λt a=>by rw[ha,hp t (rA a h1)];omega⟩;rw[sortRuns'_eq];show wpS_bind (wpS_get ?_);dsimp only;let hmr:minRun' a₀.size a₀.size 0=a₀.size:=by
  obtain⟨f,hf⟩:∃f,a₀.size=f+1:=⟨a₀.size-1,()⟩;have:minRun' (f+1) a₀.size 0=a₀.size:=by rw[minRun'_succ,qZ fI];rfl
  rwa [<-hf]at this
 simp only[hB.size,hmr];let fin:∀{aO:SortSt},SBase a₀ aO->Sto (arrOf aO) a₀.size->IZ a₀ (setPending aO ((pendingOf aO).push (0,a₀.size,0))):=λbC hs=>⟨bC.perm,bC.failed,by show(pendingOf _).push _=_;rw[bC.pend];rfl,hs⟩
 show wpS_bind (wpS_mono (wpS_forRange (I:=λy c aO=>(y=0/\c=(none,0)/\aO=st)\/(1<=y/\c=(none,a₀.size)/\IZ a₀ aO)) (Q:=λc aO=>c=(none,a₀.size)/\IZ a₀ aO) ?step ?fin (.inl ⟨O,O,O⟩)) ?post)
 case fin =>
  ext c aO (⟨hx,_,_⟩ | ⟨_,hc,hD⟩)
  .omega
  .show⟨hc,hD⟩
 case step =>
  ext y c aO _ hx (⟨rfl,rfl,rfl⟩ | ⟨hx1,rfl,hD⟩)
  .dsimp only;rw[qX (Nat.not_le_of_lt h1)];simp only[Nat.sub_zero,Nat.min_self,Nat.zero_add];show wpS_bind (qec h0 h1 B1 λm gn Ja IX pj fE=>?_);dsimp only;let RO:∀{kF:SortSt},SBase a₀ kF->Sto (arrOf kF) a₀.size->(pendingOf kF).back?=none:=λDd _=>by rw[Dd.pend];rfl
   by_cases aX:m<a₀.size
   .rw[qZ aX];show wpS_bind (wpS_lift (wpAny_rule ⟨O,?_⟩));show wpS_bind (qed h0 IX pj Ja fE λkF Dd RP=>?_);simp only[Bool.not_true,Bool.false_eq_true,if_false];show wpS_bind (wpS_get ?_);rw[RO Dd RP];show wpS_bind (wpS_modify (wpS_pure (.inr ⟨qG _,O,fin Dd RP⟩)))
   .rw[qX aX];obtain rfl:m=a₀.size:=vL pj (xW aX);show wpS_bind (wpS_get ?_);rw[RO Ja.b fE];show wpS_bind (wpS_modify (wpS_pure (.inr ⟨qG _,O,fin Ja.b fE⟩)))
  .dsimp only;rw[qZ (qG _)];show wpS_pure ⟨O,hD⟩
 case post =>
  ext c aO ⟨rfl,hD⟩;dsimp only;show wpS_bind (wpS_mono (wpS_forRange (I:=λ_ c cN=>cN=aO/\c=(none,Unit.unit)) (Q:=λc cN=>cN=aO/\c=(none,Unit.unit)) ?_ (λ_ _ hh=>hh) ⟨O,O⟩) ?_)
  .ext y c cN _ _ ⟨rfl,rfl⟩;show wpS_bind (wpS_get ?_);rw[qZ (by rw[hD.2.2.1];show qG 1)];show wpS_pure ⟨O,O⟩
  .ext c cN ⟨rfl,rfl⟩;show wpS_pure (h _ hD.1 hD.2.1 hD.2.2.2)
end
end Stb
namespace L2
open PyProof.Rows
def pz(kz:TN)(vs out:TU):=∃ps:List (Int×Value),ps.Perm (kz.zip vs)/\out=ps.map Prod.snd/\ps.Pairwise λp q=>p.1<q.1\/(p.1=q.1/\numOf p.2<numOf q.2)
def qee{bf:Array Value}{vs:TU}{kz:TN}(hk:IntsAre bf.toList kz){xs:Array Keyed}(hp:xs.Perm (bf.zip vs.toArray))(hs:Stb.Sto xs xs.size):pz kz vs (xs.map (·.2)).toList:=by
 show⟨xs.toList.map λp=>(numOf p.1,p.2),?_,by rw[Array.toList_map,rZ];rfl,?_⟩
 .let hl:=Array.perm_iff_toList_perm.mp hp;rw[ksk_zip]at hl;rw[<-hk.nums,List.zip_map_left];show hl.map _
 .rw[List.pairwise_iff_getElem];intro i j hi hj eI;rw[qA,xG]at hi hj;let q:=hs i j eI hj;let e:∀{i:Nat} (h:i<xs.size),Tim.T xs i=xs[i]:=λh=>rD ((Tim.T_at h).symm.trans (yP h))
  rw[e hi,e hj]at q;simpa[Stb.Lx]using q
structure Au{Γ:Type}(prog:Program)(w:World)(A:Around)(f:Value)(a kS:Addr)(vs:TU)(kz:TN)(G:Γ->Shared->Prop):Prop where
 ne:kS≠a
 pl:∀(i:Nat) (x:Value),vs[i]?=!x->∃t,x=Value.int (i:Nat) t
 put:∀(γ:Γ) (s:Shared) (b:Addr) (fn:Array Value->Array Value),b=a\/b=kS->G γ s->G γ {s with heap:=s.heap.update b (Obj.mapSeq fn)}
 turn:∀(i:Nat) (v:Value) (k:Int),vs[i]?=!v->kz[i]?=!k->∀(γ:Γ) (s:Shared) (oA oS:Obj),G γ s->s.heap.get? a=!oA->s.heap.get? kS=!oS ->
  wpAny (model prog w) A (call f [v]) (λx s'=>∃γ' t,x=.int k t/\G γ' s'/\s'.heap.get? a=!oA/\s'.heap.get? kS=!oS) (λ_ _=>False) s
section
variable{prog:Program}{w:World}{A:Around}{f:Value}{a kS:Addr}{vs:TU}{kz:TN}{Γ:Type}{G:Γ->Shared->Prop}{P:Fin->Shared->Prop}{E:TH}{e1:Nat}
def RQ(T:Au prog w A f a kS vs kz G){γ:Γ}{s:Shared}{bf:Array Value}{e:Nat}{st:SortSt}(g:G γ s)(ga:s.heap.get? a=!seqObj "list" #[] e1)(gk:s.heap.get? kS=!seqObj "list" bf e)(hk:IntsAre bf.toList kz)(bK:kz⁻¹=vs⁻¹)(fI:vs⁻¹<64)(hp:(arrOf st).Perm (bf.zip vs.toArray))(hs:Stb.Sto (arrOf st) (arrOf st).size)(hf:failedOf st=none)(h:∀γ' s' out c,G γ' s'->s'.heap.get? a=!seqObj "list" out c->pz kz vs out.toList->P (.done (.ret .none)) s') :
  wpAny (model prog w) A (ksk_tail a false e1 (.ref kS) st) P E s:=by
 let z1:bf.size=vs⁻¹:=by
  have:=hk⁻¹;rw[xG]at this;omega
 let z2:(arrOf st).size=vs⁻¹:=by rw[hp.size_eq,Array.size_zip,z1,qY,Nat.min_self]
 let line:(64:Nat)<=sizeLine:={}
 unfold ksk_tail;dsimp only;let g1:=T.put γ s kS (λ_=>(#[]:Array Value)) (.inr O) g;let sb:=Heap.SameBut.update s.heap kS (Obj.mapSeq λ_=>(#[]:Array Value));let Jb:=(sb.2 a T.ne.symm).trans ga;show qC (listUpdate_at gk O (qC (wpAny_letGo (qC (seqEpoch_at Jb O ?_)))) () (rL _));let g2:=T.put γ _ a (λ_=>(arrOf st).map (·.2)) (.inl O) g1;show qC (listUpdate_at Jb O ?_ (rL _) (by rw[qX qU,Array.size_map];omega));rw[hf];simp only[bne_self_eq_false,Bool.false_eq_true,if_false];obtain⟨c,hc⟩:∃c,((s.heap.update kS (Obj.mapSeq λ_=>(#[]:Array Value))).update a (Obj.mapSeq λ_=>(arrOf st).map (·.2))).get? a=!seqObj "list" ((arrOf st).map (·.2)) c:=⟨_,get?_update_seq Jb λ_=>(arrOf st).map (·.2)⟩;show qM (h γ _ _ c g2 hc ‹qee hk hp hs›)
def qef(T:Au prog w A f a kS vs kz G){γ:Γ}{bf:Array Value}{e:Nat}(g:G γ s)(ga:s.heap.get? a=!seqObj "list" #[] e1)(gk:s.heap.get? kS=!seqObj "list" bf e)(hk:IntsAre bf.toList kz)(bK:kz⁻¹=vs⁻¹)(fI:vs⁻¹<64)(h:∀γ' s' out c,G γ' s'->s'.heap.get? a=!seqObj "list" out c->pz kz vs out.toList->P (.done (.ret .none)) s') :
  wpAny (model prog w) A (ksk_end a false vs.toArray e1 (.ref kS) bf) P E s:=by
 let z1:bf.size=vs⁻¹:=by
  have:=hk⁻¹;rw[xG]at this;omega
 let z0:(bf.zip vs.toArray).size=vs⁻¹:=by rw[Array.size_zip,z1,qY,Nat.min_self]
 unfold ksk_end;dsimp only;rw[qX qU]
 by_cases h2:vs⁻¹<2
 .let Av:vs.toArray.size<2:=by rw[qY];show h2
  rw[qZ Av,qZ Av];show qC (qM ?_);rw[StateT.run_pure];show qC (qM ?_);dsimp only;show RQ T (st:=SortSt.mk' general' (bf.zip vs.toArray) #[] 7 none) g ga gk hk bK fI (Array.Perm.refl _) (λi j eI hj=>?_) O h;let CM:j<(bf.zip vs.toArray).size:=hj;omega
 .let Av:¬vs.toArray.size<2:=by rw[qY];show h2
  rw[qX Av,qX Av,ksk_kind hk ()];show qC (qM ?_);let ss:=Stb.wp_stb (prog:=prog) (w:=w) (A:=A) (E:=E) (s:=s) (a₀:=bf.zip vs.toArray) (st:=SortSt.mk' oneType' (bf.zip vs.toArray) #[] 7 none) (Q:=λ_ aO=>(arrOf aO).Perm (bf.zip vs.toArray)/\failedOf aO=none/\Stb.Sto (arrOf aO) (bf.zip vs.toArray).size) (ksk_intKeys hk) (λt ht=>?_) O ⟨Array.Perm.refl _,O,O,O⟩ () () λaO p1 p2 p3=>⟨p1,p2,p3⟩
  rotate_left
  .let hv:t<vs⁻¹:=()
   let⟨u,e⟩:=T.pl t _ (qB hv);let e2:Tim.T (bf.zip vs.toArray) t=(bf.zip vs.toArray)[t]:=rD ((Tim.T_at ht).symm.trans (yP ht));rw[e2,Array.getElem_zip];show numOf vs.toArray[t]=t;rw[List.getElem_toArray,e];rfl
  show qC (xN ss ?_ λ_ _ z=>z);ext⟨⟨⟩,aO⟩ s' ⟨rfl,hp,hf,hs⟩;dsimp only;show RQ T g ga gk hk bK fI hp (by rw[hp.size_eq];show hs) hf h
def qeg(T:Au prog w A f a kS vs kz G)(g:G γ s)(ga:s.heap.get? a=!seqObj "list" #[] e1)(gk:s.heap.get? kS=!seqObj "list" #[] 0)(bK:kz⁻¹=vs⁻¹)(fI:vs⁻¹<64)(h:∀γ' s' out c,G γ' s'->s'.heap.get? a=!seqObj "list" out c->pz kz vs out.toList->P (.done (.ret .none)) s') :
  wpAny (model prog w) A (ksk_rest a f false vs.toArray e1 (.ref kS)) P E s:=by
 let line:(64:Nat)<=sizeLine:={}
 unfold ksk_rest;show qC (wpAny_rule ?_);rw[List.forIn_toArray];show qC (ksk_fold (λi s'=>∃γ' kA e,G γ' s'/\s'.heap.get? a=!seqObj "list" #[] e1/\s'.heap.get? kS=!seqObj "list" kA e/\IntsAre kA.toList (kz.take i)) vs 0 s ⟨γ,#[],0,g,ga,gk,‹IntsAre.nil›⟩ ?_ ?_)
 .ext j x s' hx ⟨γ',kA,e,g',Jc,De,hk⟩;rw[Nat.zero_add]at hk⊢;let hj:j<vs⁻¹:=(qF.mp hx).1;let ek:kz[j]?=!kz[j]:=qB ();let zk:kA.size<=vs⁻¹:=by
   have:=hk⁻¹;rw[xG,xO]at this;omega
  show qC (wpAny_attempt (xN (T.turn j x _ hx ek γ' s' _ _ g' Jc De) (λv s2 hv=>?_) λ_ _ z=>z.elim));let⟨γ2,t,rfl,g2,ga2,RS⟩:=hv;dsimp only;let g3:=T.put γ2 s2 kS (λq=>q.push (.int kz[j] t)) (.inr O) g2;let sb:=Heap.SameBut.update s2.heap kS (Obj.mapSeq λq=>q.push (.int kz[j] t));obtain⟨c2,hc2⟩:∃c2,(s2.heap.update kS (Obj.mapSeq λq=>q.push (.int kz[j] t))).get? kS=!seqObj "list" (kA.push (.int kz[j] t)) c2:=⟨_,get?_update_seq RS λq=>q.push (.int kz[j] t)⟩;show qC (listUpdate_at RS O (qM ⟨O,γ2,kA.push (.int kz[j] t),c2,g3,(sb.2 a T.ne.symm).trans ga2,hc2,?_⟩) () (by rw[Array.size_push];omega));rw[List.take_add_one,ek,Array.toList_push];show ksk_snoc hk
 .ext s' ⟨γ',kA,e,g',Jc,De,hk⟩;rw[Nat.zero_add,qH ()]at hk;show qC (listItems_at De O ?_);show qef T g' Jc De hk bK fI h
end
section
variable{prog:Program}{w:World}{A:Around}{f:Value}{a:Addr}{vs:TU}{kz:TN}{Γ:Type}{G:Γ->Shared->Prop}{P:Fin->Shared->Prop}{E:TH}{s:Shared}
def sP(h:Heap)(a:Addr)(vs:TU):Heap:=((h.update a (Obj.mapSeq λ_=>(#[]:Array Value))).push (seqObj "tuple" vs.toArray 0)).push (seqObj "list" #[] 0)
def qeh{n:Nat}(ho:s.heap.get? a=!seqObj "list" vs.toArray n)(T:Au prog w A f a (~~~s+1) vs kz G)(g:G γ {s with heap:=sP s.heap a vs})(bK:kz⁻¹=vs⁻¹)(fI:vs⁻¹<64)(h:∀γ' s' out c,G γ' s'->s'.heap.get? a=!seqObj "list" out c->pz kz vs out.toList->P (.done (.ret .none)) s'):wpAny (model prog w) A (ksk_tree a f false) P E s:=by
 let line:(64:Nat)<=sizeLine:={}
 let lt:a< ~~~s:=qK ho;obtain⟨e1,g1⟩:∃e1,(s.heap.update a (Obj.mapSeq λ_=>(#[]:Array Value))).get? a=!seqObj "list" #[] e1:=⟨_,get?_update_seq ho λ_=>#[]⟩;let z:((s.heap.update a (Obj.mapSeq λ_=>(#[]:Array Value))).push (seqObj "tuple" vs.toArray 0)).objs.size= ~~~s+1:=by rw[size_push',Heap.size_update]
 unfold ksk_tree;show qC (listItems_at ho O (qC (listUpdate_at ho O ?_ (by rw[qY];omega) (rL _))));show qC (seqEpoch_at g1 O (qC (wpAny_newTuple ?_ (by show vs⁻¹<=_;omega))));show qC (wpAny_newList ?_ (rL _));show xZ ?_;show wpAny (model prog w) A (ksk_rest a f false vs.toArray e1 (.ref ((s.heap.update a (Obj.mapSeq λ_=>(#[]:Array Value))).push (seqObj "tuple" vs.toArray 0)).objs.size)) P E {s with heap:=sP s.heap a vs};rw[z];show qeg T g (qE _ (qE _ g1)) (by rw[<-z];show qR _ O) bK fI h
def qei{i b c:Int}{n:Nat}{Q:TU->Shared->Prop}(hh:A.handled=none)(hr:IsRange s.heap r i b c t u v)(qej:Builtin.Range.small i b c=true)(hn:Builtin.Range.rangeSize i b c=n)(bK:n<=2 ^ 24)(h:∀ h' tk acc e,(∀ q o,s.heap.get? q=!o->h'.get? q=!o)->h'.get? (~~~s)=!seqObj "list" acc e->ItemsOf (λj x=>∃ t,x=.int (i+j*c) t) acc n->Q acc.toList { s with heap:=h',toks:=tk }) :
  wpAny (model prog w) A (collect (.ref r)) Q E s:=by
 unfold collect
 show qC (wpAny_runValue (xV entry_proto_collect' ?_))
 show wpAny _ _ (do again (.builtin "list.__iadd__" ⟨[<- newList [],.ref r],[]⟩)) _ _ s
 show qC (wpAny_newList (qM ⟨yV PySem.F.plain_list_iadd _,xV PySem.F.entry_list_iadd ?_⟩))
 let kp:∀ q o,s.heap.get? q=!o->(s.heap.push (seqObj "list" #[] 0)).get? q=!o:=λq o e=>qE _ e
 let ne:∀ q o,s.heap.get? q=!o->q≠~~~s:=λq o e=>rC (qK e)
 rw [xI PySem.F.plain_list_iadd _]
 show wpAny_extend_range (R:=λr s'=>match r with | .ok (.ret v)=>wpAny (model prog w) A (match v with | .ref a=>do { let o <- load a; match o.data with | .seq xs _=>pure xs.toList | _=>unsupported "internal:collect" } | _=>unsupported "internal:collect") Q E s' | .ok _=>False | .error e=>E e s') (s:={ s with heap:=s.heap.push (seqObj "list" #[] 0) }) hh (kp r _ hr) qej hn bK (~~~s) (.ref (~~~s)) 0 (qR _ O) λh' tk acc e k' hS it=>?_
 show qC (wpAny_load hS (qM ?_))
 show h h' tk acc e (λq o z=>k' q o (ne q o z) (kp q o z)) hS it
end
section
variable{prog:Program}{w:World}{A:Around}{q r:Addr}{kz:TN}{E:TH}{s:Shared}{Q:TH}{n:Nat}{t u v:Tok}
def qek(hh:A.handled=none)(hr:IsRange s.heap r 0 n 1 t u v)(fI:n<64)(bK:kz⁻¹=n)(T:∀(h1:Heap) (tk:Nat) (vs:TU) (a:Addr),(∀b o,s.heap.get? b=!o->h1.get? b=!o)-> ~~~s<=a->a<h1.objs.size->h1.get? a=!seqObj "list" vs.toArray 0->vs⁻¹=n->(∀(i:Nat) (x:Value),vs[i]?=!x->∃t,x=Value.int (i:Nat) t) ->
   ∃(Γ:Type) (G:Γ->Shared->Prop) (γ:Γ),Au prog w A.in1.in1 (.ref q) a (h1.objs.size+1) vs kz G/\G γ {s with heap:=sP h1 a vs,toks:=tk}/\∀γ' s' out c,G γ' s'->s'.heap.get? a=!seqObj "list" out c->pz kz vs out.toList->Q (.ref a) s') :
  wpAny (model prog w) A (call (.builtin "sorted") [.ref r] [(s!"key",.ref q)]) Q E s:=by
 let line:(64:Nat)<=sizeLine:={}
 show call_function_entry_kw kind_sorted plain_sorted entry_sorted (ksk_s1 _ _) ?_;unfold Builtin.«sorted»;show qC (m:=checkCount "sorted" 1 1 _) (qM (qC (qei (n:=n) hh hr (small_one () () () ()) (by rw[rangeSize_one];split<;>omega) () λh' tk acc e kp gs it=>?_)));let⟨i1,i2⟩:=it;let la:acc.toList⁻¹=n:=by rw[xG];show i1
 show qC (wpAny_newList ?_ ());let ga:(h'.push (seqObj "list" acc.toList.toArray 0)).get? h'.objs.size=!seqObj "list" acc.toList.toArray 0:=qR _ O;let⟨Γ,G,γ,TT,g,fin⟩:=T (h'.push (seqObj "list" acc.toList.toArray 0)) tk acc.toList h'.objs.size (λb o z=>qE _ (kp b o z)) (rX (qK gs)) (qK ga) ga la λj x hx=>by
  let⟨t,e⟩:=i2 j x ‹hx›;show⟨t,by rw[e];congr 1;omega⟩
 show qC (xZ (wpAny_call_entry_kw slot_list_sort ⟨_,ga,O⟩ entry_list_sort ?_ (ksk_l1 _ _)));show wpAny (model prog w) A.in1.in1 (Builtin.«list.sort» ⟨[.ref h'.objs.size],[(s!"key",.ref q)]⟩) _ _ _;rw[ksk_t1];show qeh (s:={s with heap:=h'.push (seqObj "list" acc.toList.toArray 0),toks:=tk}) ga TT g () () λγ' s' out c g' go ko=>-⟨qM ⟨_,O,fin γ' s' out c g' go ko⟩⟩
end
end L2
namespace L2
open PySem.Calls PyProof.Rows PySem.W
structure Df(scope:Scope)(body:Expr)(fn x y:Str):Prop where
 kind:scope.kind=.function
 co:scope.isCoroutine=false
 gen:scope.isGenerator=false
 nocell:∀z∈scope.names,z.2≠.cell
 loc:scope.names.lookup y=!.local
 fre:scope.names.lookup x=!.free
 glo:scope.names.lookup fn=!.globalImplicit
 bd:∃p0 p1 p2 pos eL,body=.UnaryOp .USub (.Call (.Name fn p0) [.Name x p1,.Name y p2] [] pos) eL
 d0:(fn == ("__debug__" : Str))=false
 d1:(x == ("__debug__" : Str))=false
 d2:(y == ("__debug__" : Str))=false
 d3:(x == ("__classdict__" : Str))=false
section
variable{P:Program}{w:World}{K:W.Frag}{mg:TJ}{base:Heap}{A:Around}{outer:List Env}{s:Shared}{H:Hp}{k:Nat}{f fp c' cc:Addr}{dp:FuncData}{fn x y qual:Str}{ps:TV}{sp:Sp}{params:Arguments}{body:Expr}{scope:Scope}{cl:List (Str×Addr)}{pm fA v ux:Value}{xv yv:V}{Φ:Hp->Prop}{kn:Int}{E:XK}{CX:dg}
def qel(LO:Df scope body fn x y)(hr:Room (k+1) A)(e0:Env0 P w K mg base A outer s H)(ho:s.heap.get? f=!kla_obj "<lambda>" qual params body scope cl pm c' fA)(fO:s.heap.CodeRec (.ref c') qual)(pA:bindArgs (kla_fn "<lambda>" qual params body scope cl pm (.ref c') fA) ⟨[v],[]⟩=pure [(y,v)])(eR:cl.lookup x=!cc)(jF:s.heap.IsCell cc (!ux))(F:aN P w K mg base CX k fp dp ps sp)(hb:Binds K dp ps [])(kp:W.keepIn K (.ref fp)=true)(hm:mg fn=!.ref fp)(hx:∀o h s2 e s3,CX o h s2 E e s3->False)(rx:RelV xv ux)(ry:RelV yv v)(q:sp [xv,yv] H (λkv H2=>Φ H2/\kv=.int kn) E) :
  codeAny (model P w) A (.call (.ref f) ⟨[v],[]⟩) (λr s'=>match r with | .ok (.ret u)=>CE outer P w H s (λkv H2=>Φ H2/\kv=.int (-kn)) u s' | _=>False) s:=by
 let kb:∀b o,base.get? b=!o->s.heap.get? b=!o:=λb o e=>(e0.bs b o e).1
 show kla_callFunE hr.depth ho O LO.co LO.gen O fO ?_;rw[pA];show qM (wpAny_newFunctionEnv LO.nocell (λz hz=>by rw[rQ.mp hz];show LO.loc) (λh1 sQ Bm=>⟨(e0.mod.nolimit.keeps kb).fresh _ Bm,?_⟩) LO.kind);show codeAny _ _ (.expr body (envX qual scope (~~~s) f (.ref c') cl)) _ _;let k1:∀b o,s.heap.get? b=!o->h1.get? b=!o:=λb o e=>Bm.extBut b o (rC (qK e)) (qE _ e)
 let Dg:∀b o,base.get? b=!o->h1.get? b=!o:=λb o e=>k1 b o (kb b o e)
 let sz1: ~~~s<h1.objs.size:=sQ.lt;let⟨p0,p1,p2,pos,eL,rfl⟩:=LO.bd;show kla_codeExpr (xN (E:=λ_ _=>False) (UnaryOp_ ?_) (λu s' h=>h) λ_ _ z=>z.elim);let e1:Env0 P w K mg base (A.deeper (envX qual scope (~~~s) f (.ref c') cl)) (envX qual scope (~~~s) f (.ref c') cl::outer) {s with heap:=h1,toks:=s.toks+[(y,v)]⁻¹} H:=by
  let bn:base.get? (~~~s)=none:=Heap.get?_none_of_le e0.bsz;show⟨Around.frames_deeper e0.frames,e0.mod,λb o e=>⟨Dg b o e,(e0.bs b o e).2⟩,rK e0.bsz (rX sz1),Heap.FunFrames.cons (by show scope.kind≠_;rw[LO.kind];show λz=>nomatch z) O sQ bn (e0.funs.of_keeps λb o e _=>⟨o,k1 b o e,O⟩),λb hb=>?_,e0.hok.kept k1,e0.bare⟩;rcases qN.mp (show b∈~~~s::cX outer from hb)with z | z
  .rw[z];show e0.hok.fresh (qG _)
  .show e0.frf b z
 show uP (Calls.Name_function_global LO.kind LO.glo (Calls.loadGlobal_global (e0.mod.glob.keeps Dg) hm ?_) LO.d0);show W.callWith_K (h₀:=base) e0.mod.kin kp (Calls.spliced_cons (wpAny_Name (wpAny_loadName_free LO.kind LO.fre eR (jF.keeps k1) ?_ LO.d3) LO.d1)) O O;let hv:(λz=>[(y,v)].reverse.lookup z) y=!v:=∅
 show wpAny _ _ (spliced ((false,eval (.Name y p2) (envX qual scope (~~~s) f (.ref c') cl))::backTo pos (starEach [] (envX qual scope (~~~s) f (.ref c') cl)))) _ _ _;show Calls.spliced_cons (wpAny_Name (wpAny_loadName_local LO.kind LO.loc sQ hv ?_) LO.d2);show Calls.spliced_nil ⟨e0.mod.kin.keeps Dg,?_⟩;show wpAny_call (uT (F.run _ _ _ H ⟨[ux,v],[]⟩ [ux,v] [xv,yv] _ E (hr.deeper _) e1 (hb _ [ux,v] (e0.mod.kin.keeps Dg) (F.len _ _ _ _ q)) (.cons rx (.cons ry .nil)) q) λr s' hq=>?_);cases r with
 | error e=>show(hx _ _ _ _ _ hq).elim
 | ok fl =>
   cases fl with
   | next=>show False.elim hq
   | brk=>show False.elim hq
   | cont=>show False.elim hq
   | ret u =>
     let⟨v',H',os,bare,un,hok,r',ph,rfl⟩:=hq
     let⟨t,rfl⟩:=r'
     show neg_int ⟨.int (-kn),H',os,bare,Un.less k1 (qG _) un,hok,⟨_,O⟩,ph,O⟩
end
def nM:Value->Nat
 | .int i _=>i.toNat
 | _=>0
def qem{n:Nat}{bf:Nat->Int}(hv:vs⁻¹=n)(fL:∀(i:Nat) (x:Value),vs[i]?=!x->∃t,x=Value.int (i:Nat) t)(h:pz ((List.range n).map bf) vs out) :
  ∃ms:TM,ms.Perm (List.range n)/\Vals ⇑(ms.map λ(i:Nat)=>(i:Int)) out/\ms.Pairwise λa b=>bf a<bf b\/(bf a=bf b/\a<b):=by
 let⟨ps,hp,rfl,hs⟩:=h;let zl:(((List.range n).map bf).zip vs)⁻¹=n:=by rw[List.length_zip,qA,yJ,hv,Nat.min_self]
 let RT:∀i,i<n->∃t,(((List.range n).map bf).zip vs)[i]?=!(bf i,Value.int (i:Nat) t):=λi hi=>by
  let ev:vs[i]?=!vs[i]:=qB ();let⟨t,e⟩:=fL i _ ev;show⟨t,?_⟩;rw[List.getElem?_zip_eq_some,qJ,xA hi,ev,e];show⟨O,O⟩
 let all:∀p∈((List.range n).map bf).zip vs,∃t,p=(bf (nM p.2),Value.int (nM p.2:Nat) t):=λp hp=>by
  let⟨i,hi,e⟩:=x8.mp hp;let bW:i<n:=()
  let⟨t,e2⟩:=RT i bW;rw[qB hi,e]at e2;let e3:=rD e2;show⟨t,?_⟩;rw[e3];rfl
 let Dh:∀p∈ps,∃t,p=(bf (nM p.2),Value.int (nM p.2:Nat) t):=λp h=>all p (hp.mem_iff.mp h)
 show⟨ps.map λp=>nM p.2,?_,?_,?_⟩
 .let e:(((List.range n).map bf).zip vs).map (λp=>nM p.2)=List.range n:=by
   apply vD;intro i;rw[qJ]
   by_cases hi:i<n
   .let⟨t,e⟩:=RT i hi;rw[e,xA hi];rfl
   .rw[xM (),xM (by rw[yJ];omega)];rfl
  rw[<-e];show hp.map _
 .clear hp hs all
  induction ps with
  | nil=>show .nil
  | cons p r ih =>
    let⟨t,e⟩:=Dh p rF
    show .cons ⟨t,?_⟩ (ih λq hq=>Dh q (qW _ hq))
    rw[e]
    rfl
 .rw[List.pairwise_map];show hs.imp_of_mem λ{p q} fV hq' h=>?_
  let⟨t,e⟩:=Dh p fV;let⟨t',e'⟩:=Dh q hq';rw[e,e']at h;rcases h with h | ⟨h1,h2⟩
  .show .inl h
  .let h2:((nM p.2:Nat):Int)<((nM q.2:Nat):Int):=h2;show .inr ⟨h1,()⟩
section
variable{P:Program}{w:World}{K:W.Frag}{mg:TJ}{base:Heap}{A:Around}{outer:List Env}{s:Shared}{H:Hp}{k n:Nat}{f fp c' cc r:Addr}{dp:FuncData}{fn x y qual:Str}{ps:TV}{sp:Sp}{params:Arguments}{body:Expr}{scope:Scope}{cl:List (Str×Addr)}{pm fA ux:Value}{xv:V}{Q:VK}{E:XK}{CX:dg}{Ex:TH}
structure Jd(P:Program)(w:World)(outer:List Env)(s:Shared)(H:Hp)(a kS:Addr)(Φ:Hp->Prop)(H':Hp)(t:Shared):Prop where
 un:Un (cX outer) [] H H' s.heap t.heap
 hok:HOk P w H' t.heap
 bare:AllBare t.gens
 os:t.os=s.os
 phi:Φ H'
 nA:H' a=none
 nK:H' kS=none
 sz: ~~~s<= ~~~t
def qen(LO:Df scope body fn x y)(hr:Room (k+3) A)(e0:Env0 P w K mg base A outer s H)(ho:s.heap.get? f=!kla_obj "<lambda>" qual params body scope cl pm c' fA)(hf:H f=none)(ff:f∉cX outer)(pA:∀v,bindArgs (kla_fn "<lambda>" qual params body scope cl pm (.ref c') fA) ⟨[v],[]⟩=pure [(y,v)])(eR:cl.lookup x=!cc)(jF:s.heap.IsCell cc (!ux))(gM:H cc=none)(fcc:cc∉cX outer)(F:aN P w K mg base CX k fp dp ps sp)(hb:Binds K dp ps [])(kp:W.keepIn K (.ref fp)=true)(hm:mg fn=!.ref fp)(hx:∀o h s2 e s3,CX o h s2 E e s3->False)(rx:RelV xv ux)(hR:H r=!.rng 0 n)(fI:n<64)(Φ:Hp->Prop)(p0:Φ H)(pc:∀H',Φ H'->H' c'=!nD c' qual)(bf:Nat->Int)(Je:∀(i:Nat) (H':Hp),i<n->Φ H'->sp [xv,.int i] H' (λkv H2=>Φ H2/\kv=.int (bf i)) E)(h:∀(a:Addr) (ms:TM) (H':Hp),Φ H'->H' a=none->ms.Perm (List.range n)->(ms.Pairwise λa b=>-(bf a) < -(bf b)\/(-(bf a)=-(bf b)/\a<b))->Q (.ref a) (af H' a (.lst ⇑(ms.map λ(i:Nat)=>(i:Int))))) :
  wpAny (model P w) A (call (.builtin "sorted") [.ref r] [(s!"key",.ref f)]) (λu s'=>CE outer P w H s Q u s') Ex s:=by
 obtain⟨t1,t2,t3,er⟩:∃t u v,s.heap.get? r=!{cls:=.type "range",data:=.fields #[.int 0 t,.int n u,.int 1 v]}:=e0.hok r _ hR;let nf:∀{b:Addr},~~~s<=b->b∉cX outer:=λhb z=>by
  let⟨_,o,q,_⟩:=e0.funs.mem z;show qT (qK q) (xF hb)
 show qek (kz:=(List.range n).map λi=>-(bf i)) hr.hd er fI ∅ λh1 tk vs a Jf sa la ga lv fL=>?_
 let ak:h1.objs.size+1≠a:=yG (xQ la);let ks: ~~~s<=h1.objs.size+1:=rK sa (yT (rX la));let moved:∀{H':Hp} {t:Shared} {h':Heap} {tk:Nat} {J:Addr},Jd P w outer s H a (h1.objs.size+1) Φ H' t-> ~~~s<=J->H' J=none->(∀b o,b≠J->t.heap.get? b=!o->h'.get? b=!o)-> ~~~t<=h'.objs.size->Jd P w outer s H a (h1.objs.size+1) Φ H' {t with heap:=h',toks:=tk}:=λ{H' t h' tk J} g hJ nJ kk zz=>by
  let ne:∀{b:Addr} {o:Obj},s.heap.get? b=!o->b≠J:=λe z=>by
   have:=qK e;rw[z]at this;show qT this (xF hJ)
  show⟨⟨λb o e n hb he=>kk b o (ne e) (g.un.keep b o e n hb he),λb o e n hb he=>?_,g.un.free,λb o e he=>?_,g.un.tups,g.un.frzs,g.un.tbls⟩,HOk.but g.hok nJ kk,g.bare,g.os,g.phi,g.nA,g.nK,rK g.sz zz⟩
  .let⟨sl,q⟩:=g.un.slot b o e n hb he;show⟨sl,kk b _ (ne e) q⟩
  .let⟨o',q⟩:=g.un.there b o e he;show⟨o',kk b _ (ne e) q⟩
 show⟨Hp,Jd P w outer s H a (h1.objs.size+1) Φ,H,⟨ak,fL,λH' t b fn hb g=>?_,λi v kz hv hk H' t oA oS g gA gS=>?_⟩,?_,λH' t out c g go ko=>?_⟩
 .let sb:=Heap.SameBut.update t.heap b (Obj.mapSeq fn);let nb:H' b=none:=by rcases hb with rfl | rfl;show g.nA;show g.nK
  let sbz: ~~~s<=b:=by rcases hb with rfl | rfl;show sa;show ks
  show moved (tk:=t.toks) g sbz nb (λq o nq e=>by rw[sb.2 q nq];show e) (by rw[Heap.size_update];show qG _)
 .have hi:i<n:=by
   have:=(qF.mp hv).1;omega
  rw[qJ,xA hi]at hk;let ek:-(bf i)=kz:=rD hk;subst ek;let⟨t',rfl⟩:=fL i v hv;let⟨oc,qc,dc⟩:=jF;show wpAny_call (uT (qel (Φ:=Φ) (kn:=bf i) LO (hr.in1.in1) ((e0.un g.un g.hok g.bare g.sz).in1.in1) (g.un.keep f _ ho hf ff ∅) (g.hok c' _ (pc H' g.phi)).1 (pA _) eR ⟨oc,g.un.keep cc _ qc gM fcc ∅,dc⟩ F hb kp hm hx rx (yv:=.int i) ⟨t',O⟩ (Je i H' hi g.phi)) λrr s' hq=>?_);cases rr with
  | error e=>show False.elim hq
  | ok fl =>
    cases fl with
    | next=>show False.elim hq
    | brk=>show False.elim hq
    | cont=>show False.elim hq
    | ret u =>
      let⟨v',H2,os,bare,un,hok,r',ph,rfl⟩:=hq
      let⟨t2',rfl⟩:=r'
      let kA:=un.keep _ _ gA g.nA (nf sa) ∅
      let kS:=un.keep _ _ gS g.nK (nf ks) ∅
      show⟨H2,t2',O,⟨g.un.trans un,hok,bare,os.trans g.os,ph,un.free _ _ gA g.nA ∅,un.free _ _ gS g.nK ∅,?_⟩,kA,kS⟩
      show rX (yB sa (qK kA))
 .let kk:∀b o,s.heap.get? b=!o->(sP h1 a vs).get? b=!o:=λb o e=>by
   show qE _ (qE _ ?_);rw[Heap.get?_update_ne _ _ _ _ (λz=>by have:=qK e;rw[z]at this;show qT this (xF sa))];show Jf b o e
  show⟨Un.kept kk,e0.hok.kept kk,e0.bare,O,p0,e0.hok.fresh sa,e0.hok.fresh ks,?_⟩;show ~~~s<=(sP h1 a vs).objs.size;unfold sP;rw[size_push',size_push',Heap.size_update];show rK sa (rK (rX la) (yT (yS _)))
 .let⟨ms,m1,m2,m3⟩:=qem lv fL ko;let lm:ms⁻¹=n:=by rw[m1.length_eq,yJ]
  show⟨.ref a,af H' a (.lst ⇑(ms.map λ(i:Nat)=>(i:Int))),g.os,g.bare,⟨g.un.keep,g.un.slot,λb o e nb he=>?_,g.un.there,λb ys e=>?_,λb o z e=>?_,λb qs e=>?_⟩,HOk.reT g.hok g.nA λ_=>⟨?_,out.toList,c,m2,‹go›⟩,O,h a ms H' g.phi g.nA m1 m3⟩
  .rw[aF (λz=>by have:=qK e;rw[z]at this;show qT this (xF sa))];show g.un.free b o e nb he
  .let nb:b≠a:=λz=>by let q:=g.un.tups b ys e;rw[z,g.nA]at q;cases q
   rw[aF nb];show g.un.tups b ys e
  .let nb:b≠a:=λy=>by let q:=g.un.frzs b o z e;rw[y,g.nA]at q;cases q
   rw[aF nb];show g.un.frzs b o z e
  .let nb:b≠a:=λy=>by let⟨qs',q⟩:=g.un.tbls b qs e;rw[y,g.nA]at q;cases q
   rw[aF nb];show g.un.tbls b qs e
  .rw[qA,qA,lm];show rK (rX fI) {}
end
def qeo(ta:TA)(ix:Nat)(sp:Sp)(E:XK)(Pt:Addr)(Aw:Pos)(qual:Str):TE:=λσ H Q=>ta σ H λvs H1=>∃(r:Addr) (n:Nat) (xv:V) (bf:Nat->Int),vs=[.ref r]/\H1 r=!.rng 0 n/\n<64/\gj H1 Pt Aw qual/\σ[ix]?=!!xv /\
 ∀(H2:Hp) (c':Addr),(∀b,b≠Pt->∀o,H1 b=!o->H2 b=!o)->gj H2 Pt Aw qual->H2 c'=!nD c' qual ->
  ∃Φ:Hp->Prop,Φ H2/\(∀H',Φ H'->H' c'=!nD c' qual)/\(∀(i:Nat) (H':Hp),i<n->Φ H'->sp [xv,.int i] H' (λkv H3=>Φ H3/\kv=.int (bf i)) E) /\
   ∀(a:Addr) (ms:TM) (H':Hp),Φ H'->H' a=none->ms.Perm (List.range n)->(ms.Pairwise λa b=>-(bf a) < -(bf b)\/(-(bf a)=-(bf b)/\a<b))->Q (.ref a) (af H' a (.lst ⇑(ms.map λ(i:Nat)=>(i:Int))))
section
variable{X:Cx}{CX:dg}{k:Nat}{e:Expr}{ta:TA}{ix:Nat}{c Pt fp:Addr}{dp:FuncData}{fn x y:Str}{ps:TV}{sp:Sp}{E:XK}{params:Arguments}{body:Expr}{scope:Scope}{Aw Jf p pos:Pos}
def qep(hc:X.calm=true)(hg:Gl X "sorted")(hm:X.mg "sorted" = none)(hv:bootBuiltins "sorted" = !.builtin "sorted")(ha:PA X [e] ta)(LO:Df scope body fn x y)(hr:Room (k+3) X.A)(hN:X.N[ix]?=!x)(Jg:X.env.kindOf x=!.cell)(tF:X.fn x=true)(C9:X.env.code=.ref c)(hC:codeHdIn X.K c Pt=true)(hPt:Pt≠mainGlobals)(hB:X.base.BuiltinsAt X.mg Pt)(eR:∀cc,X.env.cells.lookup x=!cc->closureFor scope X.env=pure [(x,cc)])(IT:defaultsOf params X.env=([],[]))(pA:∀(qual:Str) (cl:List (Str×Addr)) (pm:Value) (c':Addr) (fA v:Value),bindArgs (kla_fn "<lambda>" qual params body scope cl pm (.ref c') fA) ⟨[v],[]⟩=pure [(y,v)])(F:aN X.prog X.w X.K X.mg X.base CX k fp dp ps sp)(hb:Binds X.K dp ps [])(kp:W.keepIn X.K (.ref fp)=true)(hmf:X.mg fn=!.ref fp)(Ax:∀o h s2 e s3,CX o h s2 E e s3->False)(he:starEach [e] X.env=[(false,eval e X.env)]:=by rfl) :
  PE X (.Call (.Name "sorted" p) [e] [⟨!"key",.Lambda params body scope Aw,Jf⟩] pos) (qeo ta ix sp E Pt Aw (X.env.qual ++ "<lambda>")):=by
 intro aa s σ H Q I h;show uP (i5 I hg hm hv ?_ {} {});show callWith_kw (aT (ha pos aa s σ H _ I h) λus s1 hx=>?_) (by rw[he];rfl) (by rw[he];rfl);let⟨vs,H1,I1,r1,r,n,xv,bf,e1,hR,fI,tb,hσ,rest⟩:=hx;subst e1;let⟨u,rfl,rx⟩:=vals1 r1;cases rx;let tO:pH X.env.scope x:=.inr (.inl Jg);let⟨cc,gM⟩:=I1.ok.has x (.inl Jg);show kws_cons (qea I1 C9 hC hPt tb hB (eR cc gM) IT λf c' fA h' tk H2 I2 ho hsz nf hf eK Jh Di=>kws_nil ?_);let⟨Φ,p0,pc,Je,fin⟩:=rest H2 c' Di Jh eK;let⟨m,hn,qeq⟩:=I2.loc;let⟨u,ru,lk⟩:=qeq ix x xv hN hσ tO;let jF:h'.IsCell cc (!u):=by
  rcases lk with⟨kd,_⟩ | ⟨_,c2,e2,z⟩
  .rw[Jg]at kd;cases kd
  .rw[gM]at e2;cases e2;show z
 let fs:∀{b:Addr},b∈cX X.stack->b≠f/\b≠cc:=λ{b} hb=>by
  show⟨λz=>?_,λz=>?_⟩
  .let⟨_,o,q,_⟩:=I1.stack.mem hb;have:=qK q;rw[z]at this;show qT this (xF hsz)
  .rcases qN.mp (I1.stkSub b hb)with y | y
   .show I1.cne x cc gM (z.symm.trans y)
   .let⟨_,o,q,_⟩:=I1.ok.funs.mem y;have:=qK q;rw[z]at this;show qT this (xF (I1.ok.cab x cc tF gM))
 let hR2:H2 r=!.rng 0 n:=Di r (λz=>by let⟨qs,e,_⟩:=tb;rw[z,e]at hR;cases hR) _ hR;show wpAny _ _ (call (.builtin "sorted") [.ref r] [(s!"key",.ref f)]) _ _ _;show xN (qen (Ex:=X.xe) LO hr I2.env0 ho hf (λz=>(fs z).1 O) (λv=>pA _ _ _ _ _ v) ∅ jF (I2.freeC x cc gM) (λz=>(fs z).2 O) F hb kp hmf Ax ru hR2 fI Φ p0 pc bf Je fin) (λu s' ce=>I2.after ce) λ_ _ z=>z
end
end L2
namespace Ins
open L2 Bk Gen Gd Shr Sp0
open Bd
def SameD(H H':Hp):=∀b o,(∀qs,o≠HO.tbl qs)->H b=!o->H' b=!o
section
variable{H H':Hp}
def SameD.of(s:Same H H'):SameD H H':=λb o _ e=>s b o e
def pB{β:Type}{F:Hp->Addr->β->Prop}{xs:List β}(hF:∀a x,F H a x->F H' a x)(k:SameD H H')(h:LstAt F H L xs):LstAt F H' L xs:=by
 let⟨as,e,p⟩:=h;show⟨as,k _ _ (λ_ z=>nomatch z) e,p.mono hF⟩
def Ji(k:SameD H H')(h:b8 (λ_=>True) H B ds):b8 (λ_=>True) H' B ds:=by
 let⟨as,e,p⟩:=h;show⟨as,k _ _ (λ_ z=>nomatch z) e,p.mono λa d q=>?_⟩;let⟨_,m,s,e1,_,e2,_,vs,e3,pr⟩:=q;show⟨trivial,m,s,k _ _ (λ_ z=>nomatch z) e1,trivial,k _ _ (λ_ z=>nomatch z) e2,trivial,vs,k _ _ (λ_ z=>nomatch z) e3,pr.mono λv x y=>?_⟩;cases x with
 | int n=>show y
 | tri s x t =>
   let⟨b,rfl,_,e4⟩:=y
   show⟨b,O,trivial,k _ _ (λ_ z=>nomatch z) e4⟩
def RU{ls:TB}(k:SameD H H')(h:LstAt LkAt H p ls):LstAt LkAt H' p ls:=pB (λ_ _ e=>k _ _ (λ_ z=>nomatch z) e) k h
def RV{ls:TC}(k:SameD H H')(h:LstAt PrAt H p ls):LstAt PrAt H' p ls:=pB (λ_ _ e=>k _ _ (λ_ z=>nomatch z) e) k h
def qer(k:SameD H H')(h:LstAt Bw.RowAt H p us):LstAt Bw.RowAt H' p us:=pB (λ_ _ e=>pB (λ_ _ ⟨nl,e1,l,e2⟩=>⟨nl,k _ _ (λ_ z=>nomatch z) e1,l,k _ _ (λ_ z=>nomatch z) e2⟩) k e) k h
def SzX.g{N:Addr->Prop}{x:Sz×Addr×Addr}(k:SameD H H')(h:SzX N H a x):SzX N H' a x:=by
 let⟨h1,n1,h2,n2,bs,h3,h4⟩:=h;show⟨k _ _ (λ_ z=>nomatch z) h1,n1,pB (λ_ _ e=>k _ _ (λ_ z=>nomatch z) e) k h2,n2,bs,k _ _ (λ_ z=>nomatch z) h3,h4.mono λc os y=>⟨k _ _ (λ_ z=>nomatch z) y.1,y.2⟩⟩
def sR(k:∀b o,(∀xs,o≠HO.lst xs)->H b=!o->H' b=!o)(h:gj H Pt pos qual):gj H' Pt pos qual:=by
 let⟨ps,e,t,c⟩:=h;show⟨ps,k _ _ (λ_ z=>nomatch z) e,t,c.imp id λ⟨c',y,z⟩=>⟨c',y,k _ _ (λ_ z=>nomatch z) z⟩⟩
end
end Ins
namespace K31
open L2 Bk Gd Shr Sp0 Ins
open Bd
open Gen
abbrev fB:=top 101
def qes:Stmt->Option (Arguments×Expr×Scope×Pos)
 | .FunctionDef _ _ b _ _ _ _ _ _ _ => match b with
   | _ :: .For _ (.Call _ _ (⟨_,.Lambda a e s p,_⟩::_) _) _ _ _::_=>!(a,e,s,p)
   | _=>none
 | _=>none
def iB:Arguments×Expr×Scope×Pos:=(qes fB).getD (⟨[],[],none,[],[],none,[]⟩,.Constant .none 0 ⟨0,0,0,0⟩,default,⟨0,0,0,0⟩)
def qet:Df iB.2.2.1 iB.2.1 "level_of" "book" "one":=⟨by ac_rfl,by ac_rfl,by ac_rfl,by ac_rfl,by ac_rfl,by ac_rfl,by ac_rfl,⟨_,_,_,_,_,O⟩,{},{},{},{}⟩
def qeu:iB.2.2.1.names=[(s!"one",.local),(s!"book",.free),(s!"level_of",.globalImplicit)]:=by ac_rfl
def qev(e:env.cells.lookup (s!"book")=!cc):closureFor iB.2.2.1 env=pure [(s!"book",cc)]:=by
 unfold closureFor;rw[qeu];simp[cellOf,e]
def ky:Str:=(s!"all_sizes" ++ s!".<locals>.")++s!"<lambda>"
inductive Dj(Pt:Addr):List V->Hp->VK->XK->Prop
|m (B p U Sp:Addr) (ds:List Nd) (ls:TB) (us:List (List Un)) (sp:TC):vs=[.ref B,.ref p,.ref U,.ref Sp]->b8 (λ_=>True) H B ds->LstAt LkAt H p ls->LstAt Bw.RowAt H U us->LstAt PrAt H Sp sp->(∀sz:List Sz,sz⁻¹=ds⁻¹->mQ ds ls sz sp us)->(∀n,0<=aC ls n 2)->ds⁻¹<64->gj H Pt iB.2.2.2 ky->(∀(S:Addr) (xs:List (Sz×Addr×Addr)) (H':Hp),H S=none->SameD H H'->LstAt (SzX λb=>H b=none/\b≠S) H' S xs->xs⁻¹=ds⁻¹->Apt (xs.map Prod.snd)->Ie ds ls us sp (xs.map Prod.fst)->(∀x∈xs,0<=x.1.h)->gj H' Pt iB.2.2.2 ky->Q (.ref S) H')->Dj Pt vs H Q E
def RW:nX ["book", "looks", "units", "spans", "sizes", "node"] ["book", "looks", "units", "spans"] (bH fB):=⟨O,O,O,by ac_rfl,O,by ac_rfl,by ac_rfl⟩
def qew{f c Pt fl:Addr}{dl:FuncData}{oc dV kV bq pm ct:Value}{od an:Option Addr}{fF:Array (Option Value)}(lk:K.lookup f=!⟨oc,od,.func (W.fnOf "all_sizes" "all_sizes" (dh fB) (cr fB) (bH fB) dV kV bq pm an (.ref c) ct),fF⟩)(qex:W.codeIn K (.ref c) "all_sizes" = true)(T:bO mg)(tSo:mg "sorted" = none)(hC:W.codeHdIn K c Pt=true)(hPt:Pt≠mainGlobals)(hB:base.BuiltinsAt mg Pt)(Fl:(~~~0) 2 fl dl ["book", "node"] E7)(C6:Binds K dl ["book", "node"] [])(Jj:W.keepIn K (.ref fl)=true)(Jk:mg "level_of" = !.ref fl)(qey:⋯ 7 "node_size" ["book", "looks", "units", "spans", "sizes", "node"] Ij):(~~~0) 8 f (W.fnOf "all_sizes" "all_sizes" (dh fB) (cr fB) (bH fB) dV kV bq pm an (.ref c) ct) ["book", "looks", "units", "spans"] (Dj Pt):=by
 show DT lk qex RW (λvs H Q E h=>?_) (λA outer s H vs Q E hr h=>?_)
 .let⟨B,p,U,Sp,ds,ls,us,sp,rfl,_⟩:=h;rfl
 .obtain⟨B,p,U,Sp,ds,ls,us,sp,rfl,hBk,nH,hun,eP,cx,l0,Jl,tb,q⟩:=h;let RX:Room 7 (fQ am P w K mg base ["book", "looks", "units", "spans", "sizes", "node"] "all_sizes" (bH fB) f (.ref c) A outer s H E).nox.A:=hr;let qez:Room (2+3) (fQ am P w K mg base ["book", "looks", "units", "spans", "sizes", "node"] "all_sizes" (bH fB) f (.ref c) A outer s H E).nox.A:=RX.mono {};have:Nd (fQ am P w K mg base ["book", "looks", "units", "spans", "sizes", "node"] "all_sizes" (bH fB) f (.ref c) A outer s H E).nox.N:=⟨RW.nd⟩;let hxl:∀(o:List Env) (h:Hp) (s2:Shared) (e:Value) (s3:Shared),am o h s2 E0 e s3->False:=λ_ _ _ _ _ z=>z
  let TT:PSs (fQ am P w K mg base ["book", "looks", "units", "spans", "sizes", "node"] "all_sizes" (bH fB) f (.ref c) A outer s H E).nox (cr fB) _:=(aw (sm 4 ["node"] [] [] (a6 '0') (nv 0) bj (br (aJ ao (a3 (a0 bE) (a0 bE) ao))))
   (aw (fv (a6 (qep (ix:=0) (by rfl) (by rfl) tSo Mq (a1 (dS YU (by rfl) T.range Z' (a1 (ln T.len '0')))) qet qez (by rfl) (by rfl) (by rfl) O hC hPt hB (λcc e=>qev e) (by rfl) (λ_ _ _ _ _ _=>rfl) Fl C6 Jj Jk hxl)) (nv 5)
   (aA (l7 (Mm qey RX (by rfl) D6 (aJ '0' (aJ '1' (aJ '2' (a3 '3' '4' '5'))))) (tM '4' '5' pS))))
   (aA (aH '4'))))
  show⟨_,TT.nox,?_⟩;let⟨ab,Ay,nd⟩:=hBk;let eZ:ab⁻¹=ds⁻¹:=nd⁻¹;show-⟨B,O,⟨_,ag Ay⟩,bx (xs:=↑ab) (λi ys ae H'=>Same H H'/\(∃z,ae=[z])/\∃as xs,ys=↑as/\Paired (SzX (λb=>H b=none) H') as xs/\xs⁻¹=i/\Apt (xs.map Prod.snd)/\∀x∈xs,0<=x.1.h) (by rw[qA];show aR ()) ⟨Same.refl H,⟨none,O⟩,[],[],O,.nil,O,(λi j p q e=>nomatch e),λx hx=>nomatch hx⟩ ?_ ?_ ?_⟩
  .ext i ys ae H' hi ⟨s1,_,as,xs,rfl,pr,lx,_⟩;show ag (s1 _ _ Ay)
  .ext i y ys ae H' hy ⟨s1,⟨z,rfl⟩,as,xs,rfl,pr,lx,ap,nn⟩;show⟨aK,λX hX=>⟨aK,λY hY=>⟨aK,λt ht=>?_⟩⟩⟩;let s2:=ar hX (.lst []);let s3:=ar hY (.lst []);let s4:=ar ht (.tup [.int 0,.ref X,.ref Y,.int 0]);let jq:=(s2.trans s3).trans s4;show⟨s1.trans jq,⟨_,O⟩,as++[t],xs++[(⟨0,[],[],0⟩,X,Y)],by rw[qD];rfl,(pr.mono λ_ _ z=>z.same jq).snoc ⟨aj,s1.free hX,⟨[],(s3.trans s4) _ _ aj,.nil⟩,(s1.trans s2).free hY,[],s4 _ _ aj,.nil⟩,by rw[qI,lx];rfl,?_,λx hx=>?_⟩
   .rw[qD];show ap.new qc2 (SzX.news pr hX (s2.free hY)) (cB aj hY)
   .rcases rE.mp hx with hx | hx
    .show nn x hx
    .rw[rQ.mp hx];show xD _
  ext ys ae H1 ⟨s1,_,as,xs,rfl,pr,lx,ap,nn⟩ S hS;rw[qA,eZ]at lx;let s2:=ar hS (.lst ↑as);let gJ:af H1 S (.lst ↑as) S=!.lst ↑as:=aj;let RY:Paired (SzX (λb=>H b=none/\b≠S) (af H1 S (.lst ↑as))) as xs:=pr.mono λ_ _ z=>(z.mono (N':=λb=>H b=none/\b≠S) λb ⟨o,e⟩ k=>⟨k,λy=>by rw[y,hS]at e;cases e⟩).same s2
  let bo:=s1.trans s2;let S0:H S=none:=s1.free hS;generalize af H1 S (.lst ↑as)=H2 at gJ RY bo⊢;clear s2 hS s1 pr;let bk:=(cx (xs.map Prod.fst) (by rw[qA,lx])).bk;let⟨Lv,RZ⟩:=Book.levs bk;show-⟨B,_,O,.inl (ag (bo _ _ Ay)),(↑ab)⁻¹,O,by rw[qA];omega,λr CQ=>?_⟩;let s3:=bo.trans (ar CQ (.rng 0 (↑ab)⁻¹));let jz:=ar CQ (.rng 0 (↑ab)⁻¹) _ _ gJ;let m7:Paired (SzX (λb=>H b=none/\b≠S) (af H2 r (.rng 0 (↑ab)⁻¹))) as xs:=RY.mono λ_ _ z=>z.same (ar CQ _)
  let kx:af H2 r (.rng 0 (↑ab)⁻¹) r=!.rng 0 (↑ab)⁻¹:=aj;generalize af H2 r (.rng 0 (↑ab)⁻¹)=H3 at s3 jz m7 kx⊢;let R0:gj H3 Pt iB.2.2.2 ky:=sR (λb o _ e=>s3 b o e) tb;let nP:∀{b:Addr} {o:HO},(∀qs,o≠.tbl qs)->H3 b=!o->b≠Pt:=λn e z=>by
   let⟨ps,e',_⟩:=R0;rw[z,e']at e;cases e;show n _ O
  show⟨r,(↑ab)⁻¹,.ref B,λi=>(Lv i:Int),O,kx,by rw[qA];omega,R0,O,λH4 c' Di tb4 eK=>?_⟩;show⟨λH'=>(∀b o,b≠Pt->H3 b=!o->H' b=!o)/\H' c'=!nD c' ky/\gj H' Pt iB.2.2.2 ky,⟨λb o n e=>Di b n o e,eK,tb4⟩,λH' h=>h.2.1,λi H' hi h=>?_,λa ms H' h ha pm dp=>?_⟩
  .let bW:i<ds⁻¹:=by rw[qA]at hi;omega
   let sd:SameD H H':=λb o n e=>h.1 b o (nP n (s3 _ _ e)) (s3 _ _ e)
   let⟨l1,l2⟩:=RZ i bW;show⟨B,i,Lv i,ds,_,O,Ji sd ⟨ab,Ay,nd⟩,l1,(),λH5 s5=>⟨⟨λb o n e=>s5 _ _ (h.1 b o n e),s5 _ _ h.2.1,sR (λb o _ e=>s5 b o e) h.2.2⟩,O⟩⟩
  let gg:∀m∈ms,m<ds⁻¹:=λm hm=>by
   have:=xC.mp (pm.mem_iff.mp hm);rw[qA]at this;omega
  let ml:ms⁻¹=ds⁻¹:=by rw[pm.length_eq,yJ,qA,eZ]
  let jB:SameD H3 (af H' a (.lst ⇑(ms.map λ(i:Nat)=>(i:Int)))):=λb o n e=>by
   let e':=h.1 b o (nP n e) e;rw[aF (cB e' ha)];show e'
  let Jm:KL (af H' a (.lst ⇑(ms.map λ(i:Nat)=>(i:Int)))) a ms:=aj;let aS:a≠S:=λz=>by
   have:=h.1 S _ (nP (o:=.lst ↑as) (λ_ z=>nomatch z) jz) jz;rw[<-z,ha]at this;cases this
  have Jn:gj (af H' a (.lst ⇑(ms.map λ(i:Nat)=>(i:Int)))) Pt iB.2.2.2 ky:=sR (λb o _ e=>ar ha _ b o e) h.2.2;let R3:∀b,af H' a (.lst ⇑(ms.map λ(i:Nat)=>(i:Int))) b=none->H b=none:=λb e=>by
   cases eH:H b with
   | none=>rfl
   | some o =>
     by_cases z:b=Pt
     · let⟨ps,e',_⟩:=Jn
       rw[z,e']at e
       cases e
     · let e':=ar ha (.lst ⇑(ms.map λ(i:Nat)=>(i:Int))) _ _ (h.1 b o z (s3 _ _ eH))
       rw[e]at e'
       cases e'
  generalize af H' a (.lst ⇑(ms.map λ(i:Nat)=>(i:Int)))=G0 at jB Jm Jn R3⊢;let sm:∀{G:Hp},Keep1 S G0 G->SameD H G:=λk1 b o n e=>k1 _ _ (λz=>by rw[z,S0]at e;cases e) (jB _ _ n (s3 _ _ e))
  let ms0:ms.Nodup:=pm.nodup_iff.mpr List.nodup_range;show⟨a,O,⟨_,ag Jm⟩,i9 (xs:=⇑(ms.map λ(j:Nat)=>(j:Int))) (λi σ G=>Keep1 S G0 G/\(∃z5,σ=[!.ref B,!.ref p,!.ref U,!.ref Sp,!.ref S,z5])/\∃as xs,G S=!.lst ↑as/\Paired (SzX (λb=>H b=none/\b≠S) G) as xs/\xs⁻¹=ds⁻¹/\Apt (xs.map Prod.snd)/\CU ds ls us sp ms i (xs.map Prod.fst)/\∀x∈xs,0<=x.1.h) ⟨KeepN.refl,⟨none,O⟩,as,xs,jB _ _ (λ_ z=>nomatch z) jz,m7.mono λ_ _ z=>z.g jB,lx,ap,(λj n d hj=>qT hj (xP _)),nn⟩ ?_ ?_ ?_⟩
  .ext i σ G hi ⟨k1,_⟩;show ag (k1 _ _ aS Jm)
  .rintro i y σ G hy ⟨k1,⟨z5,rfl⟩,as,xs,sV,sX,lz,ap,to,nn⟩;let⟨m,em,rfl⟩:=eD hy;let hm:=gg m (qL em);let ed:ds[m]?=!ds[m]:=qB hm;let sd:=sm k1;let R4:=qS sX;let lf:(xs.map Prod.fst)⁻¹=ds⁻¹:=by rw[qA,lz]
   let Jo:=cx _ lf;dsimp only[aZ];show¬⟨_,O,_,O,_,O,_,O,B,p,U,Sp,S,m,ds[m],ds,ls,us,sp,xs.map Prod.fst,O,⟨⟨⟨Ji sd ⟨ab,Ay,nd⟩,RU sd nH,as,sV,Ih sX⟩,RV sd eP⟩,qer sd hun⟩,Jo,ed,λt x G1 s4 hz ne iz=>?_⟩;let gh:=s4 _ _ sV;let nA:G x.2.1=none:=hz.2.1;let nB:G x.2.2=none:=hz.2.2.2.1;show¬⟨S,_,_,m,O,O,gh,by rw[qA,R4,lz];show Gc hm,λb o n e=>by rw[aF n];show s4 _ _ (k1 b o n e),⟨_,O⟩,as.set m t,xs.set m x,by rw[aj,List.map_set],?_,by rw[uG,lz],?_,?_,λw hw=>?_⟩
   .show Paired.set (sX.mono λ_ _ y=>(y.same s4).put gh λ_ z=>z.2) ((hz.mono (N':=λb=>H b=none/\b≠S) λb _ hb=>⟨R3 b (by
     cases e:G0 b with
     | none=>rfl
     | some o=>rw[k1 b o (λz=>by rw[z,sV]at hb;cases hb) e]at hb;cases hb),λe=>by rw[e,sV]at hb;cases hb⟩).put gh λ_ z=>z.2) m
   .rw[List.map_set];show ap.new qc1 (SzX.news sX nA nB) ne
   .rw[List.map_set];show qcZ RZ dp ms0 lf to em ed iz
   .rcases List.mem_or_eq_of_mem_set hw with hw | rfl
    .show nn w hw
    .show iz.nn (Ig λz hz=>?_) l0 ed (Jo.bk.form _ (rJ hm)) λu hu=>((Ai Jo hm).2 u hu).2.1
     let⟨v,hv,rfl⟩:=qO.mp hz;show nn v hv
  .ext σ G ⟨k1,⟨z5,rfl⟩,as,xs,sV,sX,lz,ap,to,nn⟩;let pm':ms.Perm (List.range ds⁻¹):=by rw[qA,eZ]at pm;show pm
   rw[qA,qA]at to;let tbG:gj G Pt iB.2.2.2 ky:=sR (λb o n e=>k1 b o (λz=>by
    rw[z,jB _ _ (λ_ z=>by cases z) jz]at e;show n _ (rD e).symm) e) Jn
   show-⟨q S xs G S0 (sm k1) ⟨as,sV,sX⟩ lz ap (qc0 pm' to) nn tbG⟩
end K31
namespace K31
open L2 Bk Gen Gd Bd
abbrev R5:=top 122
def nN(ds:List Nd)(n i:Nat):TM:=(List.range i).filter λj=>decide (ds[j]?.map Nd.e=!(n:Int)) && decide (ds[j]?.map Nd.k≠!Kd.note)
inductive Az:List V->Hp->VK->XK->Prop
|m (B:Addr) (n:Nat) (ds:List Nd):vs=[.ref B,.int n]->b8 (λ_=>True) H B ds->ds⁻¹<=100->(∀(L:Addr) (H':Hp),H L=none->Same H H'->H' L=!.lst ((nN ds n ds⁻¹).map λ(j:Nat)=>V.int (j:Int))->Q (.ref L) H')->Az vs H Q E
def qeA(F:Fu K "_law_held" R5 f fd)(T:bO mg):(~~~0) 1 f fd ["_law_book_here", "_law_node"] Az:=by
 rcases F.go ["_law_book_here", "_law_node"] with⟨B,n,ds,rfl,⟨as,hB,nd⟩,le,q⟩;let eZ:as⁻¹=ds⁻¹:=nd⁻¹;show⟨_,(aA (aH (cm ["_law_k"] ["_law_node", "_law_book_here"] [1,0] (r1 T.range (ln T.len '0')) (nv 0) (iJ (PW.pt (iC (tc bv (px (r:=bU K) aI (px (r:=cI K) aE '2' '0') ao) '1') (jH (tc iE (px (r:=bU K) aI (px (r:=cI K) aE '2' '0') ao) aQ))))) '0'))),?_⟩;let el:(((↑as)⁻¹:Int)).toNat=ds⁻¹:=by rw[qA,eZ];rfl
 show-⟨B,_,O,.inl (ag hB),_,O,by rw[qA];omega,by rw[qA];omega,jO (λi ys ae H'=>H'=H/\ys=(nN ds n i).map (λ(j:Nat)=>V.int (j:Int))/\∃z,ae=[z,!.int n,!.ref B]) (by rw[el];show aR ()) ⟨O,O,none,O⟩ ?_ ?_⟩
 .ext i ys ae H' hi ⟨rfl,rfl,z,rfl⟩;rw[el]at hi;rw[show(0:Int)+(i:Int)=(i:Int)from uE _];let ed:ds[i]?=!ds[i]:=qB hi;let⟨a,ea,na⟩:=nd.get ed;let⟨m',s',ha,_⟩:=na.ex;let more:nN ds n (i+1)=nN ds n i++(if ds[i].e=(n:Int)/\ds[i].k≠.note then[i]else[]):=by
   unfold nN;rw[u8,xB]
   congr 1
   by_cases h1:ds[i].e=(n:Int)<;>by_cases h2:ds[i].k=.note<;>simp[ed,h1,h2]
  show¬⟨B,_,_,_,O,O,ag hB,aU ea,a,_,_,_,O,O,aD ha,O,_,O,O,_,O,?_⟩
  by_cases he:ds[i].e=(n:Int)
  .show gP (xJ V.int he) ⟨_,O,_,O,B,_,_,_,O,O,ag hB,aU ea,a,_,_,_,O,O,aD ha,O,O,_,O,?_⟩;rw[show decide (V.str ds[i].k.s=V.str (s!"note"))=decide (ds[i].k=.note)from bB ds[i].k .note]
   by_cases hk:ds[i].k=.note
   .rw[qQ hk];show ba ⟨O,?_,_,O⟩;rw[more,qX (λz=>z.2 hk),rS]
   .rw[rB hk];show bL ⟨_,O,O,?_,_,O⟩;rw[more,qZ ⟨he,hk⟩,qD];rfl
  .rw[rB λz=>he (V.int.inj z)];show ba (ba ⟨O,?_,_,O⟩);rw[more,qX (λz=>he z.1),rS]
 .ext ys ae H' ⟨rfl,rfl,_⟩ D hD;rw[el];show q D _ hD (ar hD _) aj
end K31
namespace Ins
open L2 Bk Gen Gd Shr Sp0
open Bd
def qeB{l s:Int}(h:1<=s):(l+s-1) / s=eS l s:=by
 unfold eS;let h1:=Int.mul_ediv_add_emod (-l) s;let h2:=uZ (-l) (show s≠0 by omega);let h3:=uO (-l) (show 0<s by omega);generalize -l / s=q at h1;let e:l+s-1=(s-1-(-l) % s)+s*-q:=by rw[Int.mul_neg];omega
 rw[e,Int.add_mul_ediv_left _ _ (show s≠0 by omega),Int.ediv_eq_zero_of_lt () (),uE]
inductive Jp:List V->Hp->VK->XK->Prop
|m (B p U Sp S:Addr) (n:Nat) (d:Nd) (ds:List Nd) (ls:TB) (us:List (List Un)) (sp:TC) (sz:List Sz):vs=[.ref B,.ref p,.ref U,.ref Sp,.ref S,.int n]->InZ H B p U Sp S ds ls us sp sz->mQ ds ls sz sp us->(∀n,0<=aC ls n 2)->(∀m,0<=aM sz m)->ds[n]?=!d->(∀(t:Addr) (z:Sz) (H':Hp),Same H H'->SzAt H' t z->IsSz ds ls us sp (aM sz) n d z->Q (.ref t) H')->Jp vs H Q E
inductive Jq:List V->Hp->VK->XK->Prop
|m (B p U Sp S:Addr) (n:Nat) (d:Nd) (ds:List Nd) (ls:TB) (us:List (List Un)) (sp:TC) (sz:List Sz):vs=[.ref B,.ref p,.ref U,.ref Sp,.ref S,.int n]->InZ H B p U Sp S ds ls us sp sz->mQ ds ls sz sp us->ds[n]?=!d->(d.k=.text\/d.k=.head\/d.k=.note)->(∀(t:Addr) (z:Sz) (H':Hp),Same H H'->SzAt H' t z->IsSz ds ls us sp (aM sz) n d z->Q (.ref t) H')->Jq vs H Q E
end Ins
namespace K31
open L2 Bk Gd Shr Sp0 Ins
open Bd
open Gen
abbrev R6:=top 126
def qeC(F:Fu K "_law_rowed" R6 f fd)(T:bO mg)(Jr:⋯ 1 "_law_beside" ["_law_book_here", "_law_node"] o8)(II:⋯ 6 "broken" ["units", "width", "narrow"] (Bw.spBroken2 K nn)):(~~~0) 7 f fd ["_law_book_here", "_law_looks_here", "_law_units", "_law_spans", "_law_sizes", "_law_node"] Jq:=by
 rcases F.go ["_law_book_here", "_law_looks_here", "_law_units", "_law_spans", "_law_sizes", "_law_node", "_law_width", "_law_high", "_law_aside", "_law_narrow", "_law_rows", "_law_sums"] with⟨B,p,U,Sp,S,n,d,ds,ls,us,sp,sz,rfl,I,cx,ed,cM,q⟩;let hn:=(qF.mp ed).1;let eE:=cx.un n d ed cM;let⟨ul,uo⟩:=Ai cx hn;let hi:=GQ eE uo;let Al:n<sp⁻¹:=by rw[cx.sl];show hn
 let⟨l,el,cy,lv⟩:=cx.look hn;let⟨bs,C1,kr⟩:=I.sp;let⟨b,eb,hb⟩:=eV kr (Ci Al);let⟨as,hU,Aj⟩:=I.un;let⟨r,er,kx⟩:=IF Aj (show n<us⁻¹ by rw[cx.ul];show hn);let⟨aq,eq,pq⟩:=I.lk;let⟨g,eg,hg⟩:=eV pq el;let e3:bI ⇑l 3=!.int (aC ls n 3):=by
  rw[lv 3];let l13:=cy.len;show eQ (j:=3) (by rw[qJ,qB (show 3<l⁻¹ by omega),qV,qB (show 3<l⁻¹ by omega)];rfl)
 show⟨_,(aw (sv 6 (cb (mj (by rfl)) T.max dP (a2 ao (aG dC (px aI (px aE '3' '5') ao) (aG fe ao (px aE (px aE '1' '5') ao))))))
   (aw (sv 7 (cb (mK (by rfl)) T.max dP (a1 (cm ["_law_unit"] [] [] (a6 (px aE '2' '5')) (nv 0) bj (px (r:=bU K) aI '0' ao)))))
   (aw (sv 8 (cF Jr hr (a2 '0' '5')))
   (aw (sv 9 (br (a2 ao ao)))
   (aw (a7 (kC (tG '8')) (aA (sv 9 (br (a2 (aG pY (aG dC (aG bi (px aI (px aE '4' '8') ao) '7') ao) '7') (px aI (px aE '3' '8') ao))))) bg)
   (aw (l7 (cF II hr (a3 (px aE '2' '5') '6' '9')) (i6 (by rfl) (bD (nv 10) (bD (nv 11) dQ))))
   (aA (aH (br (aJ (aG fe (ln T.len ':') '7') (a3 ':' ';' (px aI '9' ao)))))))))))),?_⟩
 show¬⟨Sp,_,_,_,O,O,ag C1,aU eb,b,_,_,_,O,O,aD hb,O,_,O,_,O,p,_,_,_,O,O,ag eq,aU eg,g,_,_,_,O,O,ag hg,e3,_,_,O,O,.inl ⟨{},{}⟩,_,_,O,O,_,_,O,?_⟩;dsimp only[aZ];rw[rq,show max 0 ((aV sp n).2-2*aC ls n 3)=(dI ls sp n).2 from rfl];let qeD:=kx;let⟨ps,R7,R8⟩:=qeD;let lp:=qS R8;show¬⟨U,_,_,_,O,O,ag hU,aU er,r,O,⟨_,ag R7⟩,bx (xs:=↑ps) (λi ys ae H'=>H'=H/\ys=⇑(((bu us n).take i).map Un.h)/\∃z,ae=[z]) (by rw[qA];show aR ()) ⟨O,O,none,O⟩ ?_ ?_ ?_⟩
 .ext i ys ae H' hi ⟨rfl,rfl,_⟩;show ag R7
 .ext i y ys ae H' hy ⟨rfl,rfl,z,rfl⟩;let⟨c,ec,rfl⟩:=cE hy;let⟨u,eu,_,hu,_⟩:=bN R8 ec;show-⟨c,_,_,_,O,O,aD hu,O,O,?_,_,O⟩;rw[qP,eu,qD,qD];rfl
 ext ys ae G ⟨eG,rfl,_⟩ D hD;obtain rfl:H=G:=eG.symm;rw[show(bu us n).take (↑ps)⁻¹=bu us n from qH (by rw[qA];omega)];let s1:=ar hD (.lst ⇑((bu us n).map Un.h));show⟨D,_,a9 ((bu us n).map Un.h),O,ag aj,gF ‹eE›,iO,?_⟩;generalize af H D (.lst ⇑((bu us n).map Un.h))=H1 at s1⊢;dsimp only[aZ];let I1:=I.same s1;show¬⟨B,n,ds,O,I1.bk,cx.bk,cx.le,hn,λH2 s2=>?_⟩;dsimp only[aZ];show⟨aK,λt ht=>?_⟩;let s3:=ar ht (.tup [.int 0,.int 0]);let zi:af H2 t (.tup [.int 0,.int 0]) t=!.tup [.int 0,.int 0]:=aj;let cH:=(s1.trans s2).trans s3;generalize af H2 t (.tup [.int 0,.int 0])=H3 at s3 zi cH⊢;dsimp only[aZ];show seq_post (λae H'=>∃t,ae=[!.ref B,!.ref p,!.ref U,!.ref Sp,!.ref S,!.int n,!.int (dI ls sp n).2,!.int (a9 ((bu us n).map Un.h)),!zu (cz ds n),!.ref t,none,none]/\Same H H'/\H' t=!.tup [.int (da ds us sp (aM sz) n).1,.int (da ds us sp (aM sz) n).2]/\0<=(da ds us sp (aM sz) n).2) (λD' kk=>?_) ?_
 .cases hb:cz ds n with
  | none =>
    let en:da ds us sp (aM sz) n=(0,0):=by unfold da;rw[hb]
    rw[en,hb]at kk
    show¬⟨ba (kk _ _ ⟨t,O,cH,zi,xD _⟩)⟩
  | some a =>
    let en:da ds us sp (aM sz) n=(eS (aM sz a) (a9 ((bu us n).map Un.h)),(aV sp a).2):=by unfold da;rw[hb]
    rw[en,hb]at kk
    let ha:=Co hb
    let I3:=I.same cH
    let⟨zs,hS,iZ⟩:=I3.sz
    let⟨bs3,qeE,qeF⟩:=I3.sp
    let⟨z,_,_,_,ez,hz⟩:=lO iZ (show a<sz⁻¹ by rw[cx.zl];omega)
    let eP:a<sp⁻¹:=by rw[cx.sl];omega
    let⟨b3,eb3,C4⟩:=eV qeF (Ci eP)
    show¬⟨bL ⟨_,O,_,O,S,_,_,_,O,O,ag hS,aU ez,z,_,_,_,O,O,aD hz,O,_,O,_,_,O,O,_,_,O,O,_,O,_,_,O,O,⟨(),()⟩,_,O,_,O,Sp,_,_,_,O,O,ag qeE,aU eb3,b3,_,_,_,O,O,aD C4,O,aK,λt2 oF=>?_⟩⟩
    show kk _ _ ⟨t2,O,cH.trans (ar oF _),?_,(cx.sb.at eP).1⟩
    rw[aj]
    show some (HO.tup [V.int ((aM sz a+a9 ((bu us n).map Un.h)-1) / a9 ((bu us n).map Un.h)),_])=_
    rw[qeB hi.1]
 ext ae H4 ⟨t4,rfl,s4,Ab,IK⟩;let rb:=Gu (ls:=ls) (by rw[lv];show cy.ins) (cx.sb.at Al);show¬⟨U,_,_,_,O,O,ag (s4 _ _ hU),aU er,_,O,_,O,r,t4,_,_,_,_,O,.inl O,Bw.RowAt.same s4 kx,aD Ab,⟨eE,ul,λu hu=>(uo u hu).1,rb.1,rb.2,IK⟩,λR A' B' rows k M H5 s5 hR oi hA ne mT yk ch jy=>?_⟩;show⟨R,_,O,aD oi,O,_,_,O,_,_,O,O,?_⟩;dsimp only[aZ];let IL:=mT;let⟨ra,jA,IM⟩:=IL;show-⟨A',_,O,.inl (ag jA),_,O,_,_,O,O,.inr ⟨(),()⟩,_,O,_,O,_,O,t4,_,_,_,O,O,aD (s5 _ _ Ab),O,aK,λx hx=>?_⟩;let s6:=ar hx (.tup [.int (((↑ra)⁻¹:Nat)*a9 ((bu us n).map Un.h)),.ref A',.ref B',.int (da ds us sp (aM sz) n).1]);let er:((↑ra)⁻¹:Int)=(rows⁻¹:Int):=by rw[qA,qS IM]
 let⟨IN,IP,IQ⟩:=yk.sums;show q x ⟨((↑ra)⁻¹:Nat)*a9 ((bu us n).map Un.h),rows,_,(da ds us sp (aM sz) n).1⟩ _ ((s4.trans s5).trans s6) ⟨A',B',aj,Br.nns_same s6 mT,IN,s6 _ _ IP,IQ.mono λc os y=>s6 _ _ y⟩ (by rw[er];show .row cM ch jy)
end K31
namespace Ins
open L2 Bk Gen Gd Shr Sp0
open Bd
inductive AA(P:Kd->Prop):List V->Hp->VK->XK->Prop
|m (B p S:Addr) (n:Nat) (d:Nd) (ds:List Nd) (ls:TB) (sz:List Sz):vs=[.ref B,.ref p,.ref S,.int n]->InT H B p S ds ls sz->Cx4 ds ls sz->(∀n,0<=aC ls n 2)->(∀m,0<=aM sz m)->ds[n]?=!d->P d.k->(∀H',Same H H'->Q (.int (jw ds ls (aM sz) n)) H')->AA P vs H Q E
def qeG{ds:List Nd}{n m:Nat}{d:Nd}(h:m∈ay ds n)(e:ds[m]?=!d):d.k∈kk ds n:=by
 let⟨d',e',he⟩:=BS h;rw[e]at e';cases e';show qO.mpr ⟨d,xL.mpr ⟨qL e,qQ he⟩,O⟩
end Ins
namespace K31
open L2 Bk Gd Shr Sp0 Ins
open Bd
open Gen
def Js{ds:List Nd}{n:Nat}{d:Nd}(b:Book ds)(e:ds[n]?=!d)(hk:¬(d.k=.text\/d.k=.head\/d.k=.note)):nN ds n ds⁻¹=ay ds n:=by
 let hh:=(Bk.Book.each b e).kids.1;let e1:nN ds n ds⁻¹=(ay ds n).filter λj=>decide (ds[j]?.map Nd.k≠!Kd.note):=by
  unfold nN ay;rw[List.filter_filter];show List.filter_congr λj _=>Bool.and_comm _ _
 rw[e1];show List.filter_eq_self.mpr λj hj=>?_
 obtain⟨dj,ej⟩:∃dj,ds[j]?=!dj:=⟨_,qB (cZ hj)⟩;have:=hh _ (qeG hj ej);rw[ej];show qQ λz=>hk ?_
 let z:dj.k=.note:=rD z;rw[z]at this;revert this;cases d.k<;>decide
def Jt{H:Hp}{p:Addr}{ds:List Nd}{ls:TB}{sz:List Sz}{sj:TQ}(cx:Cx4 ds ls sz)(sY:Paired (LkAt H) sj ls){m:Nat}(hm:m<ds⁻¹):∃a,sj[m]?=!a/\∀j,j<13->H a=!.lst ⇑(ls.getD m [])/\(⇑(ls.getD m []))[j]?=!.int (aC ls m j):=by
 let hl:m<ls⁻¹:=by rw[cx.ll];show hm
 let⟨a,ea,ha⟩:=eV sY (qB hl);let e1:ls.getD m []=ls[m]:=by rw[qV,qB hl];rfl
 show⟨a,ea,λj hj=>by rw[e1];show⟨ha,lkg hl cx.l13 hj⟩⟩
abbrev R9:=top 127
abbrev R':Stmt:=top 128
def qeH(F:Fu K "_law_grid" R9 f fd)(T:bO mg)(AB:⋯ 1 "_law_held" ["_law_book_here", "_law_node"] Az)(zg:⋯ 3 "grid_places" ["columns", "cells"] ww)(Iw:⋯ 2 "grid_highs" ["places", "highs"] Ck):(~~~0) 4 f fd ["_law_book_here", "_law_looks_here", "_law_sizes", "_law_node"] (AA (·= .grid)):=by
 rcases F.go ["_law_book_here", "_law_looks_here", "_law_sizes", "_law_node", "_law_some", "_law_places"] with⟨B,p,S,n,d,ds,ls,sz,rfl,I,cx,l0,h0,ed,hg,q⟩;show⟨_,(aw (sv 4 (cF AB hr (a2 '0' '3')))
   (aw (sv 5 (cF zg hr (a2 (px aE (px aE '1' '3') ao) (cm ["_law_one"] ["_law_looks_here"] [1] (a6 '4') (nv 0) bj (br (a2 (px (r:=cI K) aE (px (r:=cI K) aE '1' '0') ao) (px (r:=cI K) aE (px (r:=cI K) aE '1' '0') ao)))))))
   (aA (aH (cb (iN (by rfl)) T.sum fZ (a1 (cF Iw hr (a2 '5' (cm ["_law_one"] ["_law_sizes"] [2] (a6 '4') (nv 0) bj (px (r:=bU K) aI (px (r:=cI K) aE '1' '0') ao)))))))))),?_⟩
 let hn:=(qF.mp ed).1;let le:=cx.le;show¬⟨B,n,ds,O,I.bk,cx.le,λk H1 hk s1 cQ=>?_⟩;let bX:KL H1 k (ay ds n):=by
  show H1 k=_;rw[cQ,rZ,Js cx.bk ed (by rw[hg];simp)];rfl
 clear cQ;let kin:∀m∈ay ds n,m<ds⁻¹:=λm hm=>cZ hm
 let sA:=rK (lE ds n) le;let lV:=cx.cells n;unfold jw at q;rw[Ia ed hg]at q;let I1:=I.same s1;dsimp only[aZ];let⟨sj,hp,sY⟩:=I1.lk;let⟨l,_,cy,lv⟩:=cx.look hn;let cb:=cy.cols;rw[<-lv]at cb;obtain⟨cn,Aa⟩:∃cn:Nat,aC ls n 7=(cn:Int):=⟨(aC ls n 7).toNat,()⟩;rw[Aa,yR]at q;generalize ay ds n=ks at bX kin sA lV q;let⟨ra,era,jA⟩:=Jt (p:=p) cx sY hn;let cl:(bP ls ks)⁻¹=ks⁻¹:=xy;show¬⟨p,_,_,_,O,O,ag hp,aU era,ra,_,_,_,O,O,ag (jA 7 {}).1,eQ (j:=7) (jA 7 {}).2,?_⟩;rw[Aa];show-⟨k,O,⟨_,ag bX⟩,bx (xs:=⇑(ks.map λ(j:Nat)=>(j:Int))) (λi ys ae H'=>Same H1 H'/\(∃z,ae=[z,!.ref p])/\∃as,ys=↑as/\Paired (TupAt H') as ((bP ls ks).take i)) (by rw[qA,qA];show aR ()) ⟨Same.refl _,⟨none,O⟩,[],O,.nil⟩ ?_ ?_ ?_⟩
 .ext i ys ae H' hi ⟨s2,_,as,rfl,pr⟩;show ag (s2 _ _ bX)
 .ext i y ys ae H' hy ⟨s2,⟨z,rfl⟩,as,rfl,pr⟩;let⟨m,em,rfl⟩:=eD hy;let hm:=kin m (qL em);let⟨l',_,lo,oR⟩:=cx.look hm;let b1:=lo.span;let b2:=lo.deep;rw[<-oR]at b1 b2;let⟨rm,Dk,Am⟩:=Jt (p:=p) cx sY hm;let h8:=Am 8 {};let h9:=Am 9 {};show¬⟨p,_,_,_,O,O,ag (s2 _ _ hp),aU Dk,rm,_,_,_,O,O,ag (s2 _ _ h8.1),eQ (j:=8) h8.2,_,O,_,O,p,_,_,_,O,O,ag (s2 _ _ hp),aU Dk,rm,_,_,_,O,O,ag (s2 _ _ h9.1),eQ (j:=9) h9.2,aK,λt ht=>?_⟩;let s3:=ar ht (.tup [.int (aC ls m 8),.int (aC ls m 9)]);show⟨s2.trans s3,⟨_,O⟩,as++[t],by rw[qD];rfl,?_⟩;let e2:(bP ls ks)[i]?=!((aC ls m 8).toNat,(aC ls m 9).toNat):=by unfold bP;rw[qJ,em];rfl
  rw[qP,e2];show(mG (.of s3) pr).snoc ?_;show af H' t _ t=!.tup [.int (((aC ls m 8).toNat:Nat):Int),.int (((aC ls m 9).toNat:Nat):Int)];rw[aj,Int.toNat_of_nonneg (),Int.toNat_of_nonneg ()]
 ext ys ae H2 ⟨s2,_,as,rfl,pr⟩ C hC;rw[qH (by rw[cl,qA,qA];show qG _)]at pr;let s3:=s2.trans (ar hC (.lst ↑as));let lC:LstAt TupAt (af H2 C (.lst ↑as)) C (bP ls ks):=⟨as,aj,mG (.of (ar hC _)) pr⟩;generalize af H2 C (.lst ↑as)=H3 at s3 lC⊢;show⟨C,cn,bP ls ks,O,lC,lV,(),(),(),λM H4 ps hM s4 lM pd lR=>?_⟩;let ep:=pd.eq;let lp:=pd.len;let jS:=s3.trans s4;dsimp only[aZ];let⟨bs,hS,dz⟩:=GC jS I1.sz;let zy:KL H4 k ks:=jS _ _ bX;show¬⟨k,O,⟨_,ag zy⟩,bx (xs:=⇑(ks.map λ(j:Nat)=>(j:Int))) (λi ys ae H'=>H'=H4/\(∃z,ae=[z,!.ref S])/\ys=⇑((ks.map (aM sz)).take i)) (by rw[qA,qA];show aR ()) ⟨O,⟨none,O⟩,O⟩ ?_ ?_ ?_⟩
 .ext i ys ae H' hi ⟨rfl,_,rfl⟩;show ag zy
 .ext i y ys ae H' hy ⟨rfl,⟨z,rfl⟩,rfl⟩;let⟨m,em,rfl⟩:=eD hy;let⟨a,_,_,_,ea,ha⟩:=lO dz (show m<sz⁻¹ by rw[cx.zl];show kin m (qL em));show¬⟨S,_,_,_,O,O,ag hS,aU ea,a,_,_,_,O,O,aD ha,O,O,⟨_,O⟩,?_⟩;let e2:(ks.map (aM sz))[i]?=!aM sz m:=by rw[qJ,em];rfl
  rw[qP,e2,qD];rfl
 ext ys ae H' ⟨rfl,_,rfl⟩ D hD;rw[qH (by rw[qA,qA,qA];show qG _)];let s5:=ar hD (.lst ⇑(ks.map (aM sz)));let dL:af H' D (.lst ⇑(ks.map (aM sz))) D=!.lst ⇑(ks.map (aM sz)):=aj;generalize af H' D (.lst ⇑(ks.map (aM sz)))=H5 at s5 dL⊢;let hz:=lR.hs (hs:=ks.map (aM sz)) () (by rw[qA];omega);show⟨M,D,ps,_,O,gd (λ_ _ z=>s5 _ _ z) s5 lM,dL,hz,λN H6 hN s6 gu=>?_⟩;show⟨N,_,O,ag gu,?_⟩;let q2:=q H6 ((s1.trans jS).trans (s5.trans s6));rw[qcQ (λp hp=>(lR p (by rw[ep];show hp)).2.1) (by rw[<-ep];omega) h0,<-ep]at q2;show q2
def qeI(F:Fu K "_law_below" R' f fd)(T:bO mg)(AB:⋯ 1 "_law_held" ["_law_book_here", "_law_node"] Az)(Jr:⋯ 1 "_law_beside" ["_law_book_here", "_law_node"] o8):(~~~0) 2 f fd ["_law_book_here", "_law_looks_here", "_law_sizes", "_law_node"] (AA λk=>¬(k=.text\/k=.head\/k=.note)/\k≠.shelf/\k≠.grid):=by
 rcases F.go ["_law_book_here", "_law_looks_here", "_law_sizes", "_law_node", "_law_end", "_law_first", "_law_one", "_law_aside", "_law_high"] with⟨B,p,S,n,d,ds,ls,sz,rfl,I,cx,l0,h0,ed,⟨cM,hs,hg⟩,q⟩;show⟨_,(aw (sv 4 ao)
   (aw (sv 5 jG)
   (aw (fv (a6 (cF AB hr (a2 '0' '3'))) (nv 6)
   (aA (a7 (tc iE (px aI (px aE '0' '6') ao) aQ) (aw (sv 7 (cF Jr hr (a2 '0' '6')))
   (aw (sv 8 (px aI (px aE '2' '6') ao))
   (aw (a7 (kC (tG '7')) (aA (sv 8 (cb (mj (by rfl)) T.max dP (a2 '8' (px aI (px aE '2' '7') ao))))) bg)
   (aw (sv 4 (aG bi (aG bi '4' '8') (aG fe (px aE (px aE '1' '6') ao) (dS tY (by rfl) T.int qf (a1 (Kn '5'))))))
   (aA (sv 5 jG)))))) bg)))
   (aA (aH '4'))))),?_⟩
 let hn:=(qF.mp ed).1;let le:=cx.le;dsimp only[aZ];show¬⟨B,n,ds,O,I.bk,cx.le,λk H1 hk s1 cQ=>?_⟩;let bX:KL H1 k (ay ds n):=by
  show H1 k=_;rw[cQ,rZ,Js cx.bk ed cM];rfl
 clear cQ;let kin:∀m∈ay ds n,m<ds⁻¹:=λm hm=>cZ hm
 unfold jw at q;rw[Ib ed cM hs hg]at q;generalize ay ds n=ks at bX kin q;let I1:=I.same s1;let⟨sj,hp,sY⟩:=I1.lk;let⟨ab,hB,nd⟩:=I1.bk;let⟨zs,hS,iZ⟩:=I1.sz;show⟨k,O,⟨_,ag bX⟩,i9 (xs:=⇑(ks.map λ(j:Nat)=>(j:Int))) (λi σ G=>Same H1 G/\∃z6 z7 z8,σ=[!.ref B,!.ref p,!.ref S,!.int n,!.int (eW ds ls (aM sz) (ks.take i)).2,!.bl (decide ((eW ds ls (aM sz) (ks.take i)).1=[])),z6,z7,z8]) ⟨Same.refl _,none,none,none,O⟩ ?_ ?_ ?_⟩
 .ext i σ G hi ⟨s2,_⟩;show ag (s2 _ _ bX)
 .rintro i y σ G hy ⟨s2,z6,z7,z8,rfl⟩;let⟨m,em,rfl⟩:=eD hy;let hm:=kin m (qL em);let et:ks.take (i+1)=ks.take i++[m]:=by rw[qP,em];rfl
  let IG:=I1.same s2;obtain⟨dm,o7⟩:∃dm,ds[m]?=!dm:=⟨_,qB hm⟩;let⟨cm,HW,HX⟩:=nd.get o7;let⟨_,_,HY,_⟩:=HX.ex;let eA:cJ ds m=decide (dm.k=.aside):=by
   unfold cJ;rw[o7]
   by_cases y:dm.k=.aside<;>simp[y]
  rw[et,Gn];generalize eW ds ls (aM sz) (ks.take i)=acc;dsimp only[aZ];show¬⟨B,_,_,_,O,O,ag (s2 _ _ hB),aU HW,cm,_,_,_,O,O,aD (s2 _ _ HY),O,O,_,O,?_⟩;rw[show decide (V.str dm.k.s=V.str (s!"aside"))=decide (dm.k=.aside)from bB dm.k .aside]
  by_cases hA:dm.k=.aside
  .rw[qQ hA,qZ (show cJ ds m=true by rw[eA];show qQ hA)];show ba ⟨s2,_,_,_,O⟩
  rw[rB hA,qX (show¬cJ ds m=true by rw[eA];simp[hA]),xz];show bL ?_;show¬⟨B,m,ds,O,IG.bk,cx.bk,cx.le,hm,λG1 s3=>?_⟩;let ju:=s2.trans s3;dsimp only[aZ];let⟨a,_,_,_,ea,ha⟩:=lO iZ (show m<sz⁻¹ by rw[cx.zl];show hm);show¬⟨S,_,_,_,O,O,ag (ju _ _ hS),aU ea,a,_,_,_,O,O,aD (ju _ _ ha),O,?_⟩;dsimp only[aZ];show seq_post (λae G'=>Same H1 G'/\ae=[!.ref B,!.ref p,!.ref S,!.int n,!.int acc.2,!.bl (decide (acc.1=[])),!.int m,!zu (cz ds m),!.int (a9 ((bz ds m).map (aM sz)))]) (λD' kk=>?_) ?_
  .unfold bz at kk;cases hb:cz ds m with
   | none =>
     rw[hb]at kk
     show¬⟨ba (kk _ _ ⟨ju,O⟩)⟩
   | some a' =>
     rw[hb]at kk
     let hV:=Co hb
     let⟨b,_,_,_,eb,Ak⟩:=lO iZ (show a'<sz⁻¹ by rw[cx.zl];omega)
     show¬⟨bL ⟨_,O,_,O,_,O,S,_,_,_,O,O,ag (ju _ _ hS),aU eb,b,_,_,_,O,O,aD (ju _ _ Ak),O,_,_,O,kk _ _ ⟨ju,?_⟩⟩⟩
     rw[rq,show max (aM sz m) (aM sz a')=a9 (([a',m]:TM).map (aM sz))from Int.max_comm _ _]
     rfl
  ext ae G2 ⟨s4,rfl⟩;let⟨rm,Dk,Am⟩:=Jt (p:=p) cx sY hm;let h2:=Am 2 {};show¬⟨_,_,O,O,_,O,_,O,p,_,_,_,O,O,ag (s4 _ _ hp),aU Dk,rm,_,_,_,O,O,ag (s4 _ _ h2.1),eQ (j:=2) h2.2,_,O,_,O,.inr ⟨_,O,_,_,O,O,.inr ?_,_,_,O,O,?_⟩⟩
  .have:∀b:Bool,-(2 ^ 64:Int)<(if b=true then 1 else 0)/\(if b=true then(1:Int)else 0)<2 ^ 64:={}
   show this _
  dsimp only[aZ];let en:acc.1++(bz ds m).map (λe=>(e,gH ls acc m))≠[]:=λz=>GI.2 (yQ.mp (List.append_eq_nil_iff.mp z).2)
  show⟨s4,!.int m,!zu (cz ds m),!.int (a9 ((bz ds m).map (aM sz))),?_⟩;let qeJ:acc.2+a9 ((bz ds m).map (aM sz))+aC ls m 2*(if((Bool.not (decide (acc.1=[]))))=true then(1:Int)else 0)=gH ls acc m+a9 ((bz ds m).map (aM sz)):=by
   unfold gH
   by_cases h0:acc.1=[]
   .simp[h0]
   .simp[h0];omega
  rw[rB en,<-qeJ];rfl
 .ext σ G ⟨s2,z6,z7,z8,rfl⟩;let q2:=q G (s1.trans s2);unfold eW at q2;rw[(Ic h0 l0 _ ([],0) O (xD _)).1]at q2;rw[qH (by rw[qA,qA];show qG _)];show-⟨q2⟩
abbrev Se:=top 129
abbrev Sf:=top 130
def qeK(F:Fu K "_law_due" Se f fd)(T:bO mg)(AB:⋯ 1 "_law_held" ["_law_book_here", "_law_node"] Az)(qeL:⋯ 7 "_law_rowed" ["_law_book_here", "_law_looks_here", "_law_units", "_law_spans", "_law_sizes", "_law_node"] Jq)(qeM:⋯ 4 "_law_grid" ["_law_book_here", "_law_looks_here", "_law_sizes", "_law_node"] (AA (·= .grid)))(qeN:⋯ 2 "_law_below" ["_law_book_here", "_law_looks_here", "_law_sizes", "_law_node"] (AA λk=>¬(k=.text\/k=.head\/k=.note)/\k≠.shelf/\k≠.grid)):(~~~0) 8 f fd ["_law_book_here", "_law_looks_here", "_law_units", "_law_spans", "_law_sizes", "_law_node"] Jp:=by
 rcases F.go ["_law_book_here", "_law_looks_here", "_law_units", "_law_spans", "_law_sizes", "_law_node", "_law_kind"] with⟨B,p,U,Sp,S,n,d,ds,ls,us,sp,sz,rfl,I,cx,l0,h0,ed,q⟩;let hn:=(qF.mp ed).1;let le:=cx.le;let⟨ab,hB,nd⟩:=I.bk;let⟨c,ec,nc⟩:=nd.get ed;let⟨_,m',s',hc,_,_,st⟩:=nc;let⟨_,kf,bw,dz⟩:=st;show⟨_,(aw (sv 6 (px aI (px aE '0' '5') ao))
   (aw (a7 (tc AY '6' (a0 (a3 aQ aQ aQ))) (aA (aH (cF qeL hr (aJ '0' (aJ '1' (aJ '2' (a3 '3' '4' '5'))))))) bg)
   (aw (a7 (tc bv '6' aQ) (aA (aH (br (aJ (px aE (px aI (px aE '0' '5') ao) ao) (a3 (a0 bE) (a0 bE) ao))))) bg)
   (aw (a7 (tc bv '6' aQ) (aA (aH (br (aJ (cb (mK (by rfl)) T.max dP (a1 (cm ["_law_one"] ["_law_sizes"] [4] (a6 (cF AB hr (a2 '0' '5'))) (nv 0) bj (px (r:=bU K) aI (px (r:=cI K) aE '1' '0') ao)))) (a3 (a0 bE) (a0 bE) ao))))) bg)
   (aw (a7 (tc bv '6' aQ) (aA (aH (br (aJ (cF qeM hr (aJ '0' (a3 '1' '4' '5'))) (a3 (a0 bE) (a0 bE) ao))))) bg)
   (aA (aH (br (aJ (cF qeN hr (aJ '0' (a3 '1' '4' '5'))) (a3 (a0 bE) (a0 bE) ao)))))))))),?_⟩
 show¬⟨B,_,_,_,O,O,ag hB,aU ec,c,_,_,_,O,O,aD hc,O,?_⟩;dsimp only[aZ];show-⟨aK,λZ hZ=>?_⟩;let s1:=ar hZ (.lst [.str (s!"text"),.str (s!"head"),.str (s!"note")]);show⟨Z,_,O,.inl (ag (xs:=pieceKinds.map V.str) aj),O,qg _,_,O,?_⟩;rw[qX qU,rf];generalize af H Z (.lst [.str (s!"text"),.str (s!"head"),.str (s!"note")])=H1 at s1⊢;let I1:=I.same s1;let none:∀{G:Hp} {v:Int} {X Y t:Addr},IsSz ds ls us sp (aM sz) n d ⟨v,[],[],0⟩->Same H1 G->G X=none->af G X (.lst []) Y=none->af (af G X (.lst [])) Y (.lst []) t=none->Q (.ref t) (af (af (af G X (.lst [])) Y (.lst [])) t (.tup [.int v,.ref X,.ref Y,.int 0])):=λ{G v X Y t} iz s0 hX hY ht=>by
  let s2:=ar hX (.lst []);let s3:=ar hY (.lst []);let s4:=ar ht (.tup [.int v,.ref X,.ref Y,.int 0]);show q t ⟨v,[],[],0⟩ _ (s1.trans (s0.trans ((s2.trans s3).trans s4))) ⟨X,Y,aj,⟨[],(s3.trans s4) _ _ aj,.nil⟩,[],s4 _ _ aj,.nil⟩ iz
 by_cases cM:d.k=.text\/d.k=.head\/d.k=.note
 .show gP cM ⟨_,O,_,O,_,O,_,O,_,O,_,O,B,p,U,Sp,S,n,d,ds,ls,us,sp,sz,O,I1,cx,ed,cM,λt z G s2 hz iz=>q t z G (s1.trans s2) hz iz⟩
 show iH cM ⟨_,O,O,_,O,?_⟩
 by_cases hp:d.k=.picture
 .refine fT (bB d.k .picture) hp ?_;let⟨w1,h1,kh⟩:=cx.pic n d ed hp;let rz:kf[1]?=!.int h1:=by
   rw[kh]at dz;cases dz with
   | cons q1 t1 => cases t1 with
     | cons q2 _=>rw[show _=V.int h1 from q2];rfl
  show¬⟨B,_,_,_,O,O,ag (s1 _ _ hB),aU ec,c,_,_,_,O,O,aD (s1 _ _ hc),O,s',_,_,_,O,O,ag (s1 _ _ bw),eQ (j:=1) rz,aK,λX hX=>⟨aK,λY hY=>⟨aK,λt ht=>none (.pic hp kh) (Same.refl H1) hX hY ht⟩⟩⟩
 show fU (bB d.k .picture) hp ?_;let box:=IsSz.box (ds:=ds) (ls:=ls) (us:=us) (sp:=sp) (hs:=aM sz) (n:=n) hp cM;show-⟨O,_,O,?_⟩
 by_cases hs:d.k=.shelf
 .show fT (bB d.k .shelf) hs ⟨_,O,_,O,B,n,ds,O,I1.bk,cx.le,λk H2 hk s2 cQ=>?_⟩;let fz:KL H2 k (ay ds n):=by
   show H2 k=_;rw[cQ,rZ,Js cx.bk ed cM];rfl
  let jt:ay ds n≠[]:=λz=>by
   let h1:=(Bk.Book.each cx.bk ed).kids.2.1 (by rw[hs];rfl);let h2:=Fc.kids_kk ds n;rw[z]at h2;show h1 (rR h2.symm)
  let sA:=rK (lE ds n) le;let eh:jw ds ls (aM sz) n=a9 ((ay ds n).map (aM sz)):=by
   unfold jw;rw[HZ ed hs,rZ]
   congr 1
   show vH λm _=>uE _
  rw[eh]at box;let⟨zs,hS,iZ⟩:=(I1.same s2).sz;show⟨k,O,⟨_,ag fz⟩,bx (xs:=⇑((ay ds n).map λ(j:Nat)=>(j:Int))) (λi ys ae H'=>H'=H2/\(∃z,ae=[z,!.ref S])/\ys=⇑(((ay ds n).map (aM sz)).take i)) (by rw[qA,qA];show aR ()) ⟨O,⟨.none,O⟩,O⟩ ?_ ?_ ?_⟩
  .ext i ys ae H' hi ⟨rfl,_,rfl⟩;show ag fz
  .ext i y ys ae H' hy ⟨rfl,⟨z,rfl⟩,rfl⟩;let⟨m,em,rfl⟩:=eD hy;let⟨a,_,_,_,ea,ha⟩:=lO iZ (show m<sz⁻¹ by rw[cx.zl];show cZ (qL em));show¬⟨S,_,_,_,O,O,ag hS,aU ea,a,_,_,_,O,O,aD ha,O,O,⟨_,O⟩,?_⟩;let e2:((ay ds n).map (aM sz))[i]?=!aM sz m:=by rw[qJ,em];rfl
   rw[qP,e2,qD];rfl
  ext ys ae H' ⟨rfl,_,rfl⟩ D hD;rw[qH (by rw[qA,qA,qA];show qG _)];show⟨D,_,a9 ((ay ds n).map (aM sz)),O,ag aj,gF (λz=>jt (yQ.mp z)),iO,aK,λX hX=>⟨aK,λY hY=>⟨aK,λt ht=>none box (s2.trans (ar hD _)) hX hY ht⟩⟩⟩
 show fU (bB d.k .shelf) hs ⟨_,O,O,_,O,?_⟩
 by_cases hg:d.k=.grid
 .show fT (bB d.k .grid) hg ⟨_,O,_,O,_,O,_,O,B,p,S,n,d,ds,ls,sz,O,I1.toInT,cx.toCx4,l0,h0,ed,hg,λG s0=>⟨aK,λX hX=>⟨aK,λY hY=>⟨aK,λt ht=>none box s0 hX hY ht⟩⟩⟩⟩
 show fU (bB d.k .grid) hg ⟨_,O,_,O,_,O,_,O,B,p,S,n,d,ds,ls,sz,O,I1.toInT,cx.toCx4,l0,h0,ed,⟨cM,hs,hg⟩,λG s0=>⟨aK,λX hX=>⟨aK,λY hY=>⟨aK,λt ht=>none box s0 hX hY ht⟩⟩⟩⟩
def qeO(F:Fu K "_law_right" Sf f fd)(T:bO mg)(TG:mH mg)(Sg:⋯ 1 "_law_whole" ["_law_found"] E2)(qeP:⋯ 8 "_law_due" ["_law_book_here", "_law_looks_here", "_law_units", "_law_spans", "_law_sizes", "_law_node"] Jp):(~~~0) 9 f fd ["_law_found", "_law_book_here", "_law_looks_here", "_law_units", "_law_spans"] Il:=by
 rcases F.go ["_law_found", "_law_book_here", "_law_looks_here", "_law_units", "_law_spans", "_law_size", "_law_node"] with⟨B,p,U,Sp,S,ds,ls,us,sp,sz,rfl,I,cx,l0,h0,all,q⟩;let hu:=hr.units;let⟨zs,hS,iZ⟩:=I.sz;let⟨ab,hB,nd⟩:=I.bk;let eZ:ab⁻¹=ds⁻¹:=nd⁻¹;let lz:=qS iZ;let le:=cx.le;let zl:=cx.zl;show⟨_,(aw (a7 (PW.pt (jI (nT (kD (Bz T.isinstance (by rfl) T.list (by rfl) jP '0'))) (l5 (tc iE (ln T.len '0') (ln T.len '1'))))) (aA (aH jG)) bg)
   (aw (fv (a6 '0') (nv 5)
   (aA (a7 (PW.pt (jI (nT (kD (Bz T.isinstance (by rfl) T.tuple (by rfl) W7 '5'))) (jI (tc iE (ln T.len '5') ao) (jI (nT (kD (cF Sg hr (a1 (px aI '5' ao))))) (l5 (nT (kD (cF Sg hr (a1 (px aI '5' ao)))))))))) (aA (aH jG)) bg)))
   (aw (fv (r1 T.range (ln T.len '1')) (nv 6)
   (aA (a7 (tc (Bp hu) (px aE '0' '6') (cF qeP hr (aJ '1' (aJ '2' (aJ '3' (a3 '4' '0' '6')))))) (aA (aH jG)) bg)))
   (aA (aH jG))))),?_⟩
 show-⟨_,_,_,_,O,.lst hS,⟨_,λu r=>r,XN⟩,_,O,ba ?_⟩;show-⟨S,_,O,.inl (ag hS),_,O,B,_,O,.inl (ag hB),O,_,O,?_⟩;rw[show(↑zs)⁻¹=(↑ab)⁻¹ by rw[qA,qA];omega,qQ (O:V.int ((↑ab)⁻¹:Nat)=V.int ((↑ab)⁻¹:Nat))];show ba ?_;show-⟨S,O,⟨_,ag hS⟩,i9 (xs:=↑zs) (λi σ G=>Same H G/\∃z5,σ=[!.ref S,!.ref B,!.ref p,!.ref U,!.ref Sp,z5,none]) ⟨Same.refl _,none,O⟩ ?_ ?_ ?_⟩
 .ext i σ G hi ⟨s1,_⟩;show ag (s1 _ _ hS)
 .ext i y σ G hy ⟨s1,z5,rfl⟩;let⟨a,ea,rfl⟩:=cE hy;let⟨z,ez,A',B',ha,_⟩:=bN iZ ea;let hV:=s1 _ _ ha;dsimp only[aZ];show-⟨_,_,_,_,O,.tup hV,⟨_,λu r=>r,XO⟩,_,O,ba ?_⟩;show-⟨a,_,O,.inr (aD hV),O,_,O,?_⟩;rw[show decide (V.int (([V.int z.h,V.ref A',V.ref B',V.int z.c]:List V)⁻¹:Nat)=V.int 4)=true from rfl];show ba ?_;show-⟨a,_,_,_,O,O,aD hV,O,z.h,O,_,O,ba ?_⟩;show-⟨a,_,_,_,O,O,aD hV,O,z.c,O,_,O,ba ⟨s1,_,O⟩⟩
 ext σ G ⟨s1,z5,rfl⟩;show-⟨B,_,O,.inl (ag (s1 _ _ hB)),_,O,by rw[qA];omega,by rw[qA];omega,gp (λi σ G=>Same H G/\∃z6,σ=[!.ref S,!.ref B,!.ref p,!.ref U,!.ref Sp,z5,z6]) ⟨s1,none,O⟩ ?_ ?_⟩
 .ext i σ G hi ⟨s2,z6,rfl⟩;let bW:i<ds⁻¹:=by rw[qA]at hi;omega
  rw[show(0:Int)+(i:Int)=(i:Int)from uE _];dsimp only[aZ];let ed:ds[i]?=!ds[i]:=qB bW;let⟨z,ez,iz⟩:=all i _ ed;let⟨a,ea,ha⟩:=eV iZ ez;let I2:=I.same s2;show¬⟨S,_,_,_,O,O,ag (s2 _ _ hS),aU ea,_,O,_,O,_,O,_,O,_,O,_,O,B,p,U,Sp,S,i,ds[i],ds,ls,us,sp,sz,O,I2,cx,l0,h0,ed,λt z' G' s3 oK iz'=>?_⟩;obtain rfl:=iz.uniq iz';let hV:SzAt G' a z:=SzAt.same (s2.trans s3) ha;show⟨_,_,QB hV,QB oK,QC z,QC z,λ_=>-⟨ba ⟨s2.trans s3,_,O⟩⟩,λe=>qT O e⟩
 .ext σ G ⟨s2,z6,rfl⟩;show q G s2
end K31
namespace Ins
open L2 Bk Gen Gd Shr Sp0 Fc
open Bd
def IsSz.small{ls:TB}{sp:TC}{hs:Nat->Int}{n:Nat}(h:IsSz ds ls us sp hs n d z)(ul:(bu us n)⁻¹<=100):z.rows⁻¹<=200/\z.sums⁻¹<=200/\∀os∈z.sums,os≠[]:=by
 cases h with
 | pic=>show⟨rL _,rL _,λos h=>nomatch h⟩
 | box=>show⟨rL _,rL _,λos h=>nomatch h⟩
 | row a c f =>
   let h1:=c.len
   let h2:=f.1
   show⟨?_,?_,λos h=>?_⟩
   · show rK (Nat.le_of_eq h1) ()
   · show(Br.sumsL _ _)⁻¹<=200
     unfold Br.sumsL
     rw[qA,yJ]
     omega
   · let⟨i,_,rfl⟩:=qO.mp h
     show Br.sumsR_ne _ _ _
def _root_.L2.DAll.zero:∀{vs:List V} {es:List W.Dat},DAll H vs es->DAll H (vs++[.int 0]) (es++[.int 0])
 | _,_,.nil=>.cons (.int _) .nil
 | _,_,.cons h t=>.cons h t.zero
def Si(xs:List (Nat×Nat)):W.kqdOk 9 (.list (xs.map Br.nnD++[.int 0]))=true:=by
 simp only[W.kqdOk,List.all_append,Bool.and_eq_true,List.all_eq_true,List.mem_map,List.all_cons,List.all_nil,Bool.and_true];ext _ ⟨x,_,rfl⟩;simp[Br.nnD,W.kqdOk]
def Sj(xs:List (List (Option Int))):W.kqdOk 9 (.list (xs.map Br.osD++[.int 0]))=true:=by
 simp only[W.kqdOk,List.all_append,Bool.and_eq_true,List.all_eq_true,List.mem_map,List.all_cons,List.all_nil,Bool.and_true];ext _ ⟨os,_,rfl⟩;simp only[Br.osD,W.kqdOk,List.all_eq_true,List.mem_map];ext _ ⟨o,_,rfl⟩;cases o<;>simp[Br.ovD,W.kqdOk]
def Hd(G0 G:Hp)(h:Addr)(x:Sz×Addr×Addr):=∃(ra rb:Addr) (la lb:List V),G h=!.tup [.ref ra,.ref rb]/\G0 ra=none/\G0 rb=none/\G0 x.2.1=!.lst la/\G ra=!.lst la/\G0 x.2.2=!.lst lb/\G rb=!.lst lb
def Hd.same{x:Sz×Addr×Addr}(s:Same G G')(q:Hd G0 G h x):Hd G0 G' h x:=by
 let⟨ra,rb,la,lb,h1,h2,h3,h4,h5,h6,h7⟩:=q;show⟨ra,rb,la,lb,s _ _ h1,h2,h3,h4,s _ _ h5,h6,s _ _ h7⟩
section
variable{N:Addr->Prop}{G1 G:Hp}{as:TQ}{xs:List (Sz×Addr×Addr)}{x:Sz×Addr×Addr}{i j:Nat}
def pC(pr:Paired (SzX N G1) as xs)(h:x∈xs):∃a,SzX N G1 a x:=by
 let⟨i,hi,e⟩:=x8.mp h;let⟨a,_,q⟩:=eV pr (qF.mpr ⟨hi,e⟩);show⟨a,q⟩
def Off(xs:List (Sz×Addr×Addr))(b:Addr):=∀x∈xs,b≠x.2.1/\b≠x.2.2
def Sk(pr:Paired (SzX N G1) as xs)(h:G1 t=!o)(nl:∀l,o≠.lst l):Off xs t:=λx hx=>by
 let⟨a,_,_,⟨ra,e1,_⟩,_,rb,e2,_⟩:=pC pr hx;show⟨λz=>(by rw[z,e1]at h;show nl _ (rD h).symm),λz=>(by rw[z,e2]at h;show nl _ (rD h).symm)⟩
def Dl(pr:Paired (SzX N G1) as xs)(h:G1 t=!.tup vs):Off xs t:=Sk pr h λ_ z=>by cases z
def qeQ{os:List (Option Int)}(pr:Paired (SzX N G1) as xs)(h:Br.OsAt G1 c os)(ne:os≠[]):Off xs c:=λx hx=>by
 let⟨a,_,_,⟨ra,e1,_⟩,_,rb,e2,_⟩:=pC pr hx;show⟨Br.os_ne h ne e1,Br.os_ne h ne e2⟩
def Ju(pr:Paired (SzX N G1) as xs)(h:G1 b=none):Off xs b:=λx hx=>by
 let⟨a,_,_,⟨ra,e1,_⟩,_,rb,e2,_⟩:=pC pr hx;show⟨λz=>(by rw[z,e1]at h;cases h),λz=>(by rw[z,e2]at h;cases h)⟩
structure Lt(xs:List (Sz×Addr×Addr))(G1:Hp)(i:Nat)(G:Hp):Prop where
 el:∀b o,Off xs b->G1 b=!o->G b=!o
 lk:∀(j:Nat) (x:Sz×Addr×Addr),xs[j]?=!x->∃la lb:List V,G1 x.2.1=!.lst la/\G1 x.2.2=!.lst lb/\G x.2.1=!.lst (la++if j<i then[.int 0]else[])/\G x.2.2=!.lst (lb++if j<i then[.int 0]else[])
def Lt.start(pr:Paired (SzX N G1) as xs):Lt xs G1 0 G1:=⟨λ_ _ _ e=>e,λj x e=>by
 let⟨a,_,_,⟨ra,e1,_⟩,_,rb,e2,_⟩:=pC pr (qL e);show⟨_,_,e1,e2,by rw[qX (xP _),rS];show e1,by rw[qX (xP _),rS];show e2⟩⟩
def Lt.step(ap:Apt (xs.map Prod.snd))(h:Lt xs G1 i G)(e:xs[i]?=!x):∃la lb,G1 x.2.1=!.lst la/\G1 x.2.2=!.lst lb/\G x.2.1=!.lst la/\af G x.2.1 (.lst (la++[.int 0])) x.2.2=!.lst lb/\Lt xs G1 (i+1) (af (af G x.2.1 (.lst (la++[.int 0]))) x.2.2 (.lst (lb++[.int 0]))):=by
 let fL:∀{j:Nat} {y:Sz×Addr×Addr},xs[j]?=!y->(xs.map Prod.snd)[j]?=!y.2:=λe=>by rw[qJ,e];rfl
 let⟨la,lb,h1,h2,h3,h4⟩:=h.lk i x e;rw[qX (rP _),rS]at h3 h4;let ab:=(ap i i _ _ (fL e) (fL e)).1;show⟨la,lb,h1,h2,h3,by rw[aF (rV ab)];show h4,λb o ob eb=>?_,λj y ey=>?_⟩
 .have:=ob x (qL e);rw[aF this.2,aF this.1];show h.el b o ob eb
 .obtain⟨ka,kb,g1,g2,g3,g4⟩:=h.lk j y ey
  by_cases z:j=i
  .subst z;rw[e]at ey;cases ey;rw[h1]at g1;rw[h2]at g2;cases g1;cases g2;show⟨la,lb,h1,h2,by rw[aF ab,aj,qZ (rW _)],by rw[aj,qZ (rW _)]⟩
  .let q1:=ap j i _ _ (fL ey) (fL e);let q2:=ap i j _ _ (fL e) (fL ey);let ei:(if j<i+1 then[V.int 0]else[])=if j<i then[V.int 0]else[]:=by
    by_cases w:j<i
    .rw[qZ w,qZ ()]
    .rw[qX w,qX ()]
   rw[ei];show⟨ka,kb,g1,g2,by rw[aF q1.1,aF (q1.2 z).1];show g3,by rw[aF (q1.2 z).2,aF (rV q2.1)];show g4⟩
def Lt.same(h:Lt xs G1 i G)(s:Same G G'):Lt xs G1 i G':=⟨λb o ob e=>s _ _ (h.el b o ob e),λj x e=>by
 let⟨la,lb,h1,h2,h3,h4⟩:=h.lk j x e;show⟨la,lb,h1,h2,s _ _ h3,s _ _ h4⟩⟩
def Lt.dat(pr:Paired (SzX N G1) as xs)(ne:∀x∈xs,∀os∈x.1.sums,os≠[])(h:Lt xs G1 i G)(hx:x∈xs)(h1:G1 x.2.1=!.lst la)(h2:G1 x.2.2=!.lst lb):DAll G (la++[.int 0]) (x.1.rows.map Br.nnD++[.int 0])/\DAll G (lb++[.int 0]) (x.1.sums.map Br.osD++[.int 0]):=by
 let⟨a,_,_,⟨ra,e1,p1⟩,_,rb,e2,p2⟩:=pC pr hx;rw[h1]at e1;rw[h2]at e2;cases e1;cases e2;show⟨(Br.nns_in (p1.mono λt _ z=>h.el t _ (Dl pr z) z)).zero,(Br.oss_in (Br.paired_mem p2 λc os ho z=>h.el c _ (qeQ pr z.1 (ne x hx os ho)) z.1)).zero⟩
end
def AC(k:SameD H H')(h:jm H a us):jm H' a us:=by
 let⟨ps,e,pr⟩:=h;show⟨ps,k _ _ (λ_ z=>nomatch z) e,pr.mono λ_ _ z=>⟨k _ _ (λ_ z=>nomatch z) z.1,k _ _ (λ_ z=>nomatch z) z.2⟩⟩
def InB.g{H H':Hp}{B p U Sp:Addr}{ds:List Nd}{ls:TB}{un:List (List bV)}{sp:TC}(k:SameD H H')(I:InB H B p U Sp ds ls un sp):InB H' B p U Sp ds ls un sp:=⟨Ji k I.bk,RU k I.lk,pB (λ_ _=>AC k) k I.un,RV k I.sp⟩
def InB.z{H:Hp}{B p U Sp S:Addr}{ds:List Nd}{ls:TB}{un:List (List bV)}{sp:TC}{sz:List Sz}(I:InB H B p U Sp ds ls un sp)(h:LstAt SzAt H S sz):InZ H B p U Sp S ds ls (un.map λr=>r.map j7) sp sz:=⟨⟨⟨I.bk,I.lk,h⟩,I.sp⟩,CV I.un⟩
end Ins
namespace K31
open L2 Bk Gd Shr Sp0 Ins Fc
open Bd
open Gen
open Br (pg_tupL)
abbrev Sl:=top 131
inductive AD(Pt:Addr)(K:W.Frag):List V->Hp->VK->XK->Prop
|m (a:Addr) (ns:TN):vs=[.ref a]->SqL K H a ⇑ns->ns⁻¹<=63->gj H Pt iB.2.2.2 ky->(∀H',Q (.bl true) H')->AD Pt K vs H Q E
def qeR(F:Fu K "law" Sl f fd)(T:bO mg)(qeS:⋯ 12 "_law_made" ["_law_script"] (Io K))(Sm:⋯ 8 "all_sizes" ["book", "looks", "units", "spans"] (Dj Pt))(Sn:⋯ 9 "_law_right" ["_law_found", "_law_book_here", "_law_looks_here", "_law_units", "_law_spans"] Il):(~~~0) 13 f fd ["_law_script"] (AD Pt K):=by
 rcases F.go ["_law_script", "_law_book_here", "_law_looks_here", "_law_units", "_law_spans", "_law_handed", "_law_found", "_law_held_here", "_law_size", "_law_rows", "_law_sums"] with⟨a,ns,rfl,hA,h63,tb,q⟩;let hu:=hr.units;show⟨_,(aw (l7 (cF qeS hr (a1 '0')) (pg_tupL (by rfl) (bD (nv 1) (bD (nv 2) (bD (nv 3) (bD (nv 4) dQ))))))
   (aw (sv 5 (a0 (aJ (dS pU (by rfl) T.list jP (a1 '1')) (a3 (cm ["_law_look"] [] [] (a6 '2') (nv 0) bj (dS (By K (by rfl)) (by rfl) T.list jP (a1 '0'))) (cm ["_law_some"] [] [] (a6 '3') (nv 0) bj (dS (By K (by rfl)) (by rfl) T.list jP (a1 '0'))) (dS pU (by rfl) T.list jP (a1 '4'))))))
   (aw (sv 6 (cF Sm hr (aJ (px aE '5' ao) (a3 (px aE '5' ao) (px aE '5' ao) (px aE '5' ao)))))
   (aw (a7 (PW.pt (jI (nT (kD (cF Sn hr (aJ '6' (aJ '1' (a3 '2' '3' '4')))))) (l5 (tc (Bp hu) '5' (a0 (aJ '1' (a3 '2' '3' '4'))))))) (aA (aH jG)) bg)
   (aw (sm 7 ["_law_size"] [] [] (a6 '6') (nv 0) bj (br (a2 (dS (By K (by rfl)) (by rfl) T.list jP (a1 (px (r:=bU K) aI '0' ao))) (dS (By K (by rfl)) (by rfl) T.list jP (a1 (px (r:=bU K) aI '0' ao))))))
   (aw (fv (a6 '6') (nv 8)
   (aw (cq (ap (px aI '8' ao) ao))
   (aA (cq (ap (px aI '8' ao) ao)))))
   (aw (fv (BM (by rfl) T.zip (a2 '6' '7')) (i6 (by rfl) (bD (nv 8) (bD (i6 (by rfl) (bD (nv 9) (bD (nv 10) dQ))) dQ)))
   (aA (a7 (PW.pt (jI (tc (Bp hu) (px aI '8' ao) (aG kM '9' (a0 (a1 ao)))) (l5 (tc (Bp hu) (px aI '8' ao) (aG kM ':' (a0 (a1 ao))))))) (aA (aH jG)) bg)))
   (aw (cq (VO xX PySem.F.slot_list_clear PySem.F.type_list_clear VR '6'))
   (aA (aH (cF Sn hr (aJ (cF Sm hr (aJ '1' (a3 '2' '3' '4'))) (aJ '1' (a3 '2' '3' '4')))))))))))))),?_⟩
 show-⟨a,ns,O,hA,λR B p U Sp ds ls un us sp H1 s1 hR bk lk sr ru Sq Jl cx l0=>?_⟩;subst sr;show⟨R,_,O,ag hR,O,_,_,O,_,_,O,_,_,O,_,_,O,O,?_⟩;dsimp only[aZ];let nh:=(cx (List.replicate ds⁻¹ ⟨0,[],[],0⟩) xU).bk;let I0:InB H1 B p U Sp ds ls un sp:=⟨bk,lk,ru,Sq⟩;let ll:=(cx (List.replicate ds⁻¹ ⟨0,[],[],0⟩) xU).ll;let ul:=(cx (List.replicate ds⁻¹ ⟨0,[],[],0⟩) xU).ul;rw[qA]at ul;let⟨ab,hB,nd⟩:=bk;let⟨ap,hp,pp⟩:=lk;let⟨au,hU,pu⟩:=ru;let⟨al,hL,pl⟩:=Sq;let lap:=qS pp;let lau:=qS pu;show-⟨B,_,O,.inl (ag hB),λB' bC=>?_⟩;let t1:=ar bC (.lst ↑ab);let Jv:af H1 B' (.lst ↑ab) B'=!.lst ↑ab:=aj;generalize af H1 B' (.lst ↑ab)=J1 at t1 Jv⊢;show-⟨p,O,⟨_,ag (t1 _ _ hp)⟩,bx (xs:=↑ap) (λi ys ae H'=>Same J1 H'/\(∃cs,ys=↑cs/\Paired (LkAt H') cs (ls.take i))/\∃z,ae=[z]) (by rw[qA];show aR ()) ⟨Same.refl _,⟨[],O,.nil⟩,none,O⟩ ?_ ?_ ?_⟩
 .ext i ys ae H' hi ⟨s8,⟨cs,rfl,pc⟩,_⟩;show ag (s8 _ _ (t1 _ _ hp))
 .ext i y ys ae H' hy ⟨s8,⟨cs,rfl,pc⟩,z,rfl⟩;let⟨c,ec,rfl⟩:=cE hy;let⟨l,el,hl⟩:=bN pp ec;let gY:LkAt H' c l:=(hl.same t1).same s8;show-⟨c,_,O,.inl (ag gY),λt ht=>?_⟩;let s9:=ar ht (.lst ⇑l);show⟨s8.trans s9,⟨cs++[t],by rw[qD];rfl,?_⟩,_,O⟩;rw[qP,el];show(pc.mono λ_ _ h=>LkAt.same s9 h).snoc aj
 ext ys ae J2 ⟨t2,⟨cs,rfl,pc⟩,_⟩ p' fV;rw[qH (by rw[qA];omega)]at pc;let t3:=ar fV (.lst ↑cs);let Jw:LstAt LkAt (af J2 p' (.lst ↑cs)) p' ls:=⟨cs,aj,pc.mono λ_ _ h=>LkAt.same t3 h⟩;let Dm:=t2.trans t3;clear pc;generalize af J2 p' (.lst ↑cs)=J3 at t3 Jw Dm⊢;let AE:=t1.trans Dm;show-⟨U,O,⟨_,ag (AE _ _ hU)⟩,bx (xs:=↑au) (λi ys ae H'=>Same J3 H'/\(∃cs,ys=↑cs/\Paired (jm H') cs (un.take i))/\∃z,ae=[z]) (by rw[qA];show aR ()) ⟨Same.refl _,⟨[],O,.nil⟩,none,O⟩ ?_ ?_ ?_⟩
 .ext i ys ae H' hi ⟨s8,⟨cs,rfl,pc⟩,_⟩;show ag (s8 _ _ (AE _ _ hU))
 .ext i y ys ae H' hy ⟨s8,⟨cs,rfl,pc⟩,z,rfl⟩;let⟨c,ec,rfl⟩:=cE hy;let⟨l,el,hl⟩:=bN pu ec;let⟨ps,e8,oD⟩:=AC (SameD.of (AE.trans s8)) hl;show-⟨c,_,O,.inl (ag e8),λt ht=>?_⟩;let s9:=ar ht (.lst ↑(ps.map Prod.fst));show⟨s8.trans s9,⟨cs++[t],by rw[qD];rfl,?_⟩,_,O⟩;rw[qP,el];show(pc.mono λ_ _ h=>AC (SameD.of s9) h).snoc ⟨ps,aj,oD.mono λ_ _ z=>z.same s9⟩
 ext ys ae J4 ⟨t4,⟨cu,rfl,pc⟩,_⟩ U' Sr;rw[qH (by rw[qA];omega)]at pc;let t5:=ar Sr (.lst ↑cu);let Jx:LstAt jm (af J4 U' (.lst ↑cu)) U' un:=⟨cu,aj,pc.mono λ_ _ h=>AC (SameD.of t5) h⟩;let AF:=t4.trans t5;clear pc;generalize af J4 U' (.lst ↑cu)=J5 at t5 Jx AF⊢;let Jy:=AE.trans AF;show-⟨Sp,_,O,.inl (ag (Jy _ _ hL)),λL' re=>?_⟩;let t6:=ar re (.lst ↑al);let sw:af J5 L' (.lst ↑al) L'=!.lst ↑al:=aj;generalize af J5 L' (.lst ↑al)=J6 at t6 sw⊢;show⟨aK,λW hW=>?_⟩;let t7:=ar hW (.lst [.ref B',.ref p',.ref U',.ref L']);let ir:af J6 W (.lst [.ref B',.ref p',.ref U',.ref L']) W=!.lst [.ref B',.ref p',.ref U',.ref L']:=aj;generalize af J6 W (.lst [.ref B',.ref p',.ref U',.ref L'])=J at t7 ir⊢;dsimp only[aZ];let tj:=t6.trans t7;let Dn:=Jy.trans tj;let IJ:=I0.g (SameD.of Dn);let IW:InB J B' p' U' L' ds ls un sp:=⟨⟨ab,(Dm.trans (AF.trans tj)) _ _ Jv,nd.keep Dn.keep λ_ _ _=>trivial⟩,cS (AF.trans tj) Jw,pB (λ_ _=>AC (SameD.of tj)) (SameD.of tj) Jx,al,t7 _ _ sw,pl.mono λ_ _ z=>Dn _ _ z⟩;let tbJ:gj J Pt iB.2.2.2 ky:=sR (λb o _ e=>(s1.trans Dn) b o e) tb;clear tj t7 t6 Jy AF t5 t4 AE Dm t3 t2 t1 sw Jx Jw Jv nd pp pu pl Sr fV bC re hW;show-⟨W,_,_,_,O,O,ag ir,O,_,O,W,_,_,_,O,O,ag ir,O,_,O,W,_,_,_,O,O,ag ir,O,_,O,W,_,_,_,O,O,ag ir,O,B',p',U',L',ds,ls,_,sp,O,IW.bk,IW.lk,CV IW.un,IW.sp,cx,l0,Jl,tbJ,λS xs H2 hS0 sd lS lz ap all nn Jh=>?_⟩;dsimp only[aZ];let lf:(xs.map Prod.fst)⁻¹=ds⁻¹:=by rw[qA,lz]
 let h0:∀m,0<=aM (xs.map Prod.fst) m:=Ig λz hz=>by
  let⟨v,hv,rfl⟩:=qO.mp hz;show nn v hv
 let⟨as,hS,Jz⟩:=lS;let R4:=qS Jz;let small:∀x∈xs,x.1.rows⁻¹<=200/\x.1.sums⁻¹<=200/\∀os∈x.1.sums,os≠[]:=λx hx=>by
  let⟨i,hi,e⟩:=x8.mp hx;let ei:(xs.map Prod.fst)[i]?=!x.1:=by rw[qJ,qB hi,e];rfl
  let⟨z,ez,iz⟩:=all i ds[i] (qB ());rw[ei]at ez;cases ez;show iz.small (Ai (cx _ lf) ()).1
 show¬⟨_,O,_,O,_,O,B,p,U,Sp,S,ds,ls,_,sp,_,O,(IJ.g sd).z ⟨as,hS,Ih Jz⟩,cx _ lf,l0,h0,all,λH3 s3=>-⟨ba ?_⟩⟩;show¬⟨_,O,_,O,_,O,aK,λY hY=>?_⟩;let s4:=s3.trans (ar hY (.lst [.ref B,.ref p,.ref U,.ref Sp]));let jB:SameD J (af H3 Y (.lst [.ref B,.ref p,.ref U,.ref Sp])):=λb o n e=>s4 _ _ (sd b o n e)
 let fm:=nh.form;show⟨_,_,QF (jB _ _ (λ_ z=>nomatch z) ir) (IW.g jB),QF aj (IJ.g jB),QE fm ls un sp,QE fm ls un sp,λ_=>-⟨ba ?_⟩,λz=>qT O z⟩;generalize af H3 Y (.lst [.ref B,.ref p,.ref U,.ref Sp])=G0 at s4 jB⊢;let gh:=s4 _ _ hS;let AG:Paired (SzX (λb=>J b=none/\b≠S) G0) as xs:=Jz.mono λ_ _ z=>z.same s4
 show-⟨S,O,⟨_,ag gh⟩,bx (xs:=↑as) (λi ys ae G'=>Same G0 G'/\(∃z,ae=[z])/\∃hs,ys=↑hs/\Paired (Hd G0 G') hs (xs.take i)) (by rw[qA];show aR ()) ⟨Same.refl _,⟨none,O⟩,[],O,.nil⟩ ?_ ?_ ?_⟩
 .ext i ys ae G' hi ⟨s5,_,hs,rfl,ph⟩;show ag (s5 _ _ gh)
 .ext i y ys ae G' hy ⟨s5,⟨z,rfl⟩,hs,rfl,ph⟩;let⟨c,ec,rfl⟩:=cE hy;let⟨x,ex,hx⟩:=bN AG ec;let⟨hc,_,⟨la,e1,_⟩,_,lb,e2,_⟩:=hx;show-⟨c,_,_,_,O,O,aD (s5 _ _ hc),O,x.2.1,_,O,.inl (ag (s5 _ _ e1)),λra jA=>?_⟩;let s6:=ar jA (.lst ↑la);let JA:=s5.trans s6;show-⟨c,_,_,_,O,O,aD (JA _ _ hc),O,x.2.2,_,O,.inl (ag (JA _ _ e2)),λrb Do=>⟨aK,λh hh=>?_⟩⟩;let s7:=ar Do (.lst ↑lb);let s8:=ar hh (.tup [.ref ra,.ref rb]);let Ss:=(s6.trans s7).trans s8;show⟨s5.trans Ss,⟨_,O⟩,hs++[h],by rw[qD];rfl,?_⟩;rw[qP,ex];show(ph.mono λ_ _ z=>z.same Ss).snoc ⟨ra,rb,_,_,aj,s5.free jA,JA.free Do,e1,(s7.trans s8) _ _ aj,e2,s8 _ _ aj⟩
 ext ys ae G' ⟨s5,_,hs,rfl,ph⟩ L hL;rw[qH (by rw[qA];omega)]at ph;let s6:=s5.trans (ar hL (.lst ↑hs));let bG:af G' L (.lst ↑hs) L=!.lst ↑hs:=aj;let JB:Paired (Hd G0 (af G' L (.lst ↑hs))) hs xs:=ph.mono λ_ _ z=>z.same (ar hL _)
 let L0:G0 L=none:=s5.free hL;clear ph;generalize af G' L (.lst ↑hs)=G1 at s6 bG JB⊢;dsimp only[aZ];let lhs:=qS JB;let iU:=s6 _ _ gh;let iX:Paired (SzX (λb=>J b=none/\b≠S) G1) as xs:=AG.mono λ_ _ z=>z.same s6
 let Su:Off xs S:=λx hx=>by
  let⟨c,_,n1,_,n2,_⟩:=pC iX hx;show⟨λz=>n1.2 z.symm,λz=>n2.2 z.symm⟩
 let qeT:Off xs L:=Ju AG L0;show-⟨S,O,⟨_,ag iU⟩,i9 (xs:=↑as) (λi σ G=>Lt xs G1 i G/\∃z8,σ=[!.ref a,!.ref B,!.ref p,!.ref U,!.ref Sp,!.ref W,!.ref S,!.ref L,z8,none,none]) ⟨Lt.start iX,none,O⟩ ?_ ?_ ?_⟩
 .ext i σ G hi ⟨lt,_⟩;show ag (lt.el _ _ Su iU)
 .ext i y σ G hy ⟨lt,z8,rfl⟩;let⟨c,ec,rfl⟩:=cE hy;let⟨x,ex,hx⟩:=bN iX ec;let⟨la,lb,g1,g2,g3,g4,lt'⟩:=lt.step ap ex;let⟨hc,_,⟨ra,e1,p1⟩,_,rb,e2,p2⟩:=hx;let sm:=small x (qL ex);let l1:la⁻¹<=200:=by
   rw[g1]at e1;cases e1;rw[qA,qS p1];show sm.1
  let l2:lb⁻¹<=200:=by
   rw[g2]at e2;cases e2;rw[qA,qS p2];show sm.2.1
  let oc:=Dl iX hc;let Sv:=lt.el _ _ oc hc;let qeU:af G x.2.1 (.lst (la++[.int 0])) c=!.tup [.int x.1.h,.ref x.2.1,.ref x.2.2,.int x.1.c]:=by rw[aF (oc x (qL ex)).1];show Sv
  dsimp only[aZ];show-⟨c,_,_,_,O,O,aD Sv,O,.inl ⟨O,_,ag g3⟩,x.2.1,_,_,O,O,g3,aR (),_,O,c,_,_,_,O,O,aD qeU,O,.inl ⟨O,_,ag g4⟩,x.2.2,_,_,O,O,g4,aR (),lt',_,O⟩
 ext σ G2 ⟨lt,z8,rfl⟩;let zh:=lt.el _ _ Su iU;let eF:=lt.el _ _ qeT bG;rw[qA]at lt;let ez:(↑as)⁻¹=(↑hs)⁻¹:=by rw[qA,qA];omega
 show¬⟨S,L,O,⟨_,ag zh⟩,⟨_,ag eF⟩,Y1 (xs:=↑as) (ys:=↑hs) ez (λi σ G=>Same G2 G/\∃z8 z9 fu,σ=[!.ref a,!.ref B,!.ref p,!.ref U,!.ref Sp,!.ref W,!.ref S,!.ref L,z8,z9,fu]) ⟨Same.refl _,z8,none,none,O⟩ ?_ ?_ ?_⟩
 .ext i σ G hi ⟨s7,_⟩;show⟨ag (s7 _ _ zh),ag (s7 _ _ eF)⟩
 .ext i x y σ G T' hx hy hT ⟨s7,z8,z9,fu,rfl⟩;let⟨c,ec,rfl⟩:=cE hx;let⟨h,eh,rfl⟩:=cE hy;let⟨x,ex,Ax⟩:=bN iX ec;let⟨x',tu,hh⟩:=bN JB eh;rw[ex]at tu;cases tu;let vo:=qL ex;let⟨ra,rb,la,lb,h1,h2,h3,h4,h5,h6,h7⟩:=hh;let⟨pE,Dp,g1,g2,g3,g4⟩:=lt.lk i x ex;let il:i<as⁻¹:=(qF.mp ec).1;rw[qZ il]at g3 g4;let e1:pE=la:=by
   have:=s6 _ _ h4;rw[g1]at this;cases this;rfl
  let e2:Dp=lb:=by
   have:=s6 _ _ h6;rw[g2]at this;cases this;rfl
  subst e1 e2;let dd:=λ{J:Hp} (s:Same G2 J)=>(lt.same s).dat iX (λx hx=>(small x hx).2.2) vo g1 g2
  let sT:=ar hT (.tup [.ref c,.ref h]);let fw:af G T' (.tup [.ref c,.ref h]) T'=!.tup [.ref c,.ref h]:=aj;let s8:=s7.trans sT;generalize af G T' (.tup [.ref c,.ref h])=G3 at sT fw s8⊢;let Sw:=s8 _ _ (lt.el _ _ (Dl iX Ax.1) Ax.1);let hh3:=s8 _ _ (lt.el _ _ (Dl iX h1) h1);let jA:=s8 _ _ (lt.el _ _ (Ju AG h2) h5);let Do:=s8 _ _ (lt.el _ _ (Ju AG h3) h7);let sm:=small x vo;obtain⟨ka,kb,f1,f2,f3,f4⟩:∃ka kb:TQ,pE=↑ka/\ka⁻¹<=200/\Dp=↑kb/\kb⁻¹<=200:=by
   let⟨_,_,⟨ka,e1,p1⟩,_,kb,e2,p2⟩:=Ax;rw[g1]at e1;rw[g2]at e2;cases e1;cases e2;show⟨ka,kb,O,by rw[qS p1];show sm.1,O,by rw[qS p2];show sm.2.1⟩
  show⟨T',_,O,aD fw,O,_,_,O,_,_,O,h,_,O,aD hh3,O,_,_,O,_,_,O,O,O,?_⟩;dsimp only[aZ];let l1:pE⁻¹+1<=sizeLine:=rX (aR (by rw[f1,qA];omega));let l2:Dp.length+1<=sizeLine:=rX (aR (by rw[f3,qA];omega));show-⟨c,_,_,_,O,O,aD Sw,O,_,O,aK,λZ hZ=>?_⟩;let sZ:=ar hZ (.lst [.int 0]);let lY:af G3 Z (.lst [.int 0]) Z=!.lst [.int 0]:=aj;let s9:=s8.trans sZ;generalize af G3 Z (.lst [.int 0])=G4 at sZ lY s9⊢;show⟨ra,Z,_,_,O,O,sZ _ _ jA,lY,l1,λC hC=>?_⟩;let sC:=ar hC (.lst (pE++[.int 0]));let nj:af G4 C (.lst (pE++[.int 0])) C=!.lst (pE++[.int 0]):=aj;let im:=s9.trans sC;generalize af G4 C (.lst (pE++[.int 0]))=G5 at sC nj im⊢;let su:=sZ.trans sC;show⟨_,_,.lst (im _ _ g3) (dd im).1,.lst nj (dd im).1,Si x.1.rows,Si x.1.rows,λ_=>-⟨ba ?_⟩,λz=>qT O z⟩;show-⟨c,_,_,_,O,O,aD (su _ _ Sw),O,_,O,aK,λZ2 ID=>?_⟩;let JC:=ar ID (.lst [.int 0]);let Sx:af G5 Z2 (.lst [.int 0]) Z2=!.lst [.int 0]:=aj;let zr:=im.trans JC;let zt:=su.trans JC;generalize af G5 Z2 (.lst [.int 0])=G6 at JC Sx zr zt⊢;show⟨rb,Z2,_,_,O,O,zt _ _ Do,Sx,l2,λC2 hC2=>?_⟩;let sC2:=ar hC2 (.lst (Dp++[.int 0]));let iw:=zr.trans sC2;show⟨_,_,.lst (iw _ _ g4) (dd iw).2,.lst aj (dd iw).2,Sj x.1.sums,Sj x.1.sums,λ_=>-⟨ba ⟨iw,_,_,_,O⟩⟩,λz=>qT O z⟩
 ext σ G3 ⟨s7,z8',z9,fu,rfl⟩;let jz:=s7 _ _ zh;show-⟨.inl ⟨O,_,ag jz⟩,S,_,O,O,jz,?_⟩;let Sy:SameD J (af G3 S (.lst [])):=λb o n e=>by
  let nS:b≠S:=λz=>by rw[z,hS0]at e;cases e
  rw[aF nS];show s7 _ _ (lt.el _ _ (λx hx=>?_) (s6 _ _ (jB b o n e)));let⟨c,_,n1,_,n2,_⟩:=pC iX hx;show⟨λz=>(by rw[z,n1.1]at e;cases e),λz=>(by rw[z,n2.1]at e;cases e)⟩
 let SA:gj (af G3 S (.lst [])) Pt iB.2.2.2 ky:=sR (λb o n e=>by
  let e1:=(s4.trans s6) _ _ e;let nS:b≠S:=λz=>by rw[z,hS]at e;show n _ (rD e).symm
  rw[aF nS];show s7 _ _ (lt.el _ _ (Sk iX e1 n) e1)) Jh
 let IE:=IJ.g Sy;generalize af G3 S (.lst [])=GE at Sy SA IE⊢;show¬⟨_,O,_,O,B,p,U,Sp,ds,ls,_,sp,O,IE.bk,IE.lk,CV IE.un,IE.sp,cx,l0,Jl,SA,λS2 xs2 H5 _ sd5 CS lz5 _ qeV nn5 _=>?_⟩;let⟨as5,IA,C3⟩:=CS;let lf5:(xs2.map Prod.fst)⁻¹=ds⁻¹:=by rw[qA,lz5]
 show¬⟨_,O,_,O,B,p,U,Sp,S2,ds,ls,_,sp,_,O,(IE.g sd5).z ⟨as5,IA,Ih C3⟩,cx _ lf5,l0,Ig (λz hz=>by
  let⟨v,hv,rfl⟩:=qO.mp hz;show nn5 v hv),qeV,λH6 s6=>q H6⟩
end K31
namespace L2
open PyProof.Rows
def JD(Pt:Addr)(H:Hp):=H Pt=!.tbl #[]/\∀b,b≠Pt->H b=none\/∃o xs,H b=!.frz o (.lst xs)
def qeW{P:Program}{w:World}{K:W.Frag}{mg mb:TJ}{CX:dg}{k:Nat}{fa a c Pt:Addr}{fd:FuncData}{x:Str}{sp:Sp}{be:Shared}{vs:TU}{ns:TN}(KX:K.In be.heap)(sQ:be.heap.Ns mainGlobals mg)(hb:be.heap.Ns builtinsNs mb)(Ak:∀x:Str,x ≠ "__name__" -> mb x=bootBuiltins x)(qeX:be.heap.NoLimit)(hg:be.gens=#[])(ha:be.heap.get? a=!{cls:=.type "list",data:=.seq vs.toArray})(hi:IntsAre vs ns)(hl:ns⁻¹<=sizeLine)(hr:Room k callerA)(hC:W.codeHdIn K c Pt=true)(hT:be.heap.get? Pt=!W.tabObj #[])(AH:K.lookup Pt=none)(JE:be.heap.BuiltinsAt mg Pt)(F:∀base:Heap,K.In base->base.Ns mainGlobals mg->base.BuiltinsAt mg Pt->aN P w K mg base CX k fa fd [x] sp)(pA:∀(s:Shared) (u:Value),BindsTo s fd ⟨[u],[]⟩ [(x,u)])(eP:∀H:Hp,JD Pt H->SqL K H a ⇑ns->sp [.ref a] H (λv _=>v=.bl true) λ_ _ _=>False)(JF:∀H e s',CX [] H be (λ_ _ _=>False) e s'->False) :
  codeAny (model P w) callerA (.call (.ref fa) ⟨[.ref a],[]⟩) (λr s'=>r=.ok (.ret (.bool true))/\OldK be.heap s'.heap/\s'.os=be.os/\AllBare s'.gens) be:=by
 let rv:=Lw hi;let qeY:=hi⁻¹;let aP:a≠Pt:=λz=>by rw[z,hT]at ha;cases ha
 have xj:∀H:Hp,JD Pt H->SqL K H a ⇑ns->HOk P w H be.heap->(∀b,H b≠none->b=a\/b=Pt)->(H a≠none->K.lookup a=none) ->
   codeAny (model P w) callerA (.call (.ref fa) ⟨[.ref a],[]⟩) (λr s'=>r=.ok (.ret (.bool true))/\OldK be.heap s'.heap/\s'.os=be.os/\AllBare s'.gens) be:=by
  intro H hO hS hok hA hK;let JG:∀{b:Addr} {o:Obj},be.heap.get? b=!o->H b=none->(jD be.heap H).get? b=!o:=λe n=>UD e n
  have ud:∀{b:Addr} {o:Obj} {es:Array DictEntry} {ep:Nat},be.heap.get? b=!o->o.data=.dict es ep->H b=none:=λ{b o es ep} e d=>by
   cases q:H b with
   | none=>rfl
   | some u =>
     rcases hA b (by rw[q];simp)with e' | e'
     · subst e'
       rw[ha]at e;cases e
       let d':Data.seq vs.toArray _=Data.dict es ep:=d
       cases d'
     · rw[e',hT]at e
       cases e
       cases d
  let Dq:∀{b:Addr} {m:TJ},be.heap.Ns b m->(jD be.heap H).Ns b m:=λ{b m} ⟨o,es,ep,e,d,r⟩=>⟨o,es,ep,JG e (ud e d),d,r⟩
  have SB:K.In (jD be.heap H):=λb o e=>JG (KX b o e) (by
   cases q:H b with
   | none=>rfl
   | some u =>
     rcases hA b (by rw[q];simp)with e' | e'
     · subst e'
       rw[hK (by rw[q];simp)]at e;cases e
     · rw[e',AH]at e;cases e)
  have hM:Mod K mg (jD be.heap H):=⟨SB,Dq sQ,⟨mb,Dq hb,Ak⟩,let⟨mc,h1,h2⟩:=qeX;⟨mc,Dq h1,h2⟩⟩;let hBb:(jD be.heap H).BuiltinsAt mg Pt:=by
   let⟨bm,o,b1,b2,b3,b4,b5,b6,r⟩:=JE;show⟨bm,o,b1,b2,b3,b4,JG b5 ?_,b6,r⟩;cases q:H bm with
   | none=>rfl
   | some u =>
     rcases hA bm (by rw[q];simp)with e' | e'
     · rw[e',ha]at b5
       cases b5
       let z:(Value.type "list")=.type "module":=b6
       show qT z {}
     · show qT e' b4
  let e0:Env0 P w K mg (jD be.heap H) callerA [] be H:=⟨O,hM,λb o e=>UE e,Nat.le_of_eq (UC _ _),trivial,λb hb=>qT (show b∈([]:TQ)from hb) ∅,hok,.of_eq hg⟩;show uT ((F _ SB (Dq sQ) hBb).run callerA [] be H ⟨[.ref a],[]⟩ [.ref a] [.ref a] _ _ hr e0 (pA be (.ref a)) (.cons O .nil) (eP H hO hS)) λr s' h=>?_
  cases r with
  | error e=>show(JF H e s' h).elim
  | ok fl =>
    cases fl with
    | next=>show False.elim h
    | brk=>show False.elim h
    | cont=>show False.elim h
    | ret u =>
      let⟨v,H',os,bare,un,SC,r',q⟩:=h
      let q':v=.bl true:=q
      subst q'
      obtain rfl:u=Value.bool true:=r'
      let⟨more,eT⟩:=un.tbls Pt _ hO.1
      let gT:s'.heap.get? Pt=!{cls:=.none,data:=.fields (#[]++more)}:=SC Pt _ eT
      have kept:∀b o,b≠Pt->be.heap.get? b=!o->s'.heap.get? b=!o:=λb o n e=>by
        cases q:H b with
        | none=>show un.keep b o e q (by intro z;show qT (show b∈([]:TQ)from z) ∅) ∅
        | some u =>
          rcases hO.2 b n with z | ⟨ob,xs,z⟩
          · rw[q]at z;cases z
          · let z2:=un.frzs b ob _ z
            let⟨e1,_⟩:=hok b _ z
            let⟨e2,_⟩:=SC b _ z2
            rw[e]at e1;cases e1
            show e2
      let⟨oc,cv,_,_,_,_,_,_,_,g1,g2,g3,g4,_⟩:=W.codeHd_of_K KX hC
      show⟨O,⟨λb o e=>?_,λb o e=>?_⟩,os,bare⟩
      · by_cases z:b=Pt
        · rw[z,hT]at e
          cases e
          rw[z]
          show .inr (.inl ⟨⟨c,oc,cv,g1,g2,g3,g4⟩,O,#[],more,O,gT⟩)
        · show .inl (kept b o z e)
      · by_cases z:b=Pt
        · rw[z];show⟨_,gT⟩
        · show⟨o,kept b o z e⟩
 let SE:∀H:Hp,H Pt=!.tbl #[]->ObjOk P w H be.heap Pt (.tbl #[]):=λH _=>hT
 cases hk:K.lookup a with
 | some o =>
   let e:=KX a o hk
   rw[ha]at e
   cases e
   show xj (λb=>if b=Pt then !.tbl #[]else none) ⟨qZ O,λb n=>.inl (qX n)⟩ (.inr ⟨_,vs.toArray,_,hk,O,O,O,by rw[qY,qeY];show hl,‹rv›⟩) (λb u z=>?_) (λb z=>?_) λz=>qT (qX aP) z
   · by_cases y:b=Pt
     · let z':=(qZ y).symm.trans z
       cases z'
       rw[y]
       show SE _ (qZ O)
     · let z':=(qX y).symm.trans z
       cases z'
   · by_cases y:b=Pt
     · show .inr y
     · show qT (qX y) z
 | none =>
   show xj (λb=>if b=Pt then !.tbl #[]else if b=a then !.frz {cls:=.type "list",data:=.seq vs.toArray} (.lst ⇑ns)else none) ⟨qZ O,λb n=>?_⟩ (.inl (.inr ⟨{cls:=.type "list",data:=.seq vs.toArray},by show(if a=Pt then _ else if a=a then _ else none)=_;rw[qX aP,qZ O]⟩)) (λb u z=>?_) (λb z=>?_) λ_=>hk
   · by_cases hb:b=a
     · show .inr ⟨_,_,by show(if b=Pt then _ else if b=a then _ else none)=_;rw[qX n,qZ hb]⟩
     · show .inl (by show(if b=Pt then _ else if b=a then _ else none)=none;rw[qX n,qX hb])
   · by_cases y:b=Pt
     · let z':=(qZ y).symm.trans z
       cases z'
       rw[y]
       show SE _ (qZ O)
     · by_cases hb:b=a
       · let z':(if b=Pt then !HO.tbl #[]else if b=a then !.frz {cls:=.type "list",data:=.seq vs.toArray} (.lst ⇑ns)else none)=!u:=z
         rw[qX y,qZ hb]at z'
         cases z'
         subst hb
         show⟨ha,by rw[qA];show hl,vs,_,rv,ha⟩
       · let z':(if b=Pt then !HO.tbl #[]else if b=a then !.frz {cls:=.type "list",data:=.seq vs.toArray} (.lst ⇑ns)else none)=!u:=z
         rw[qX y,qX hb]at z'
         cases z'
   · by_cases y:b=Pt
     · show .inr y
     · by_cases hb:b=a
       · show .inl hb
       · show qT (by show(if b=Pt then _ else if b=a then _ else none)=none;rw[qX y,qX hb]) z
def walk_ofT{l:W.OpenLaw}{n k:Nat}{q:Program}{pV:TV}{XP:(Str->Option Value)->Heap->Prop}{YP:World->Heap->Prop}{d:DefRec}{K:Params->W.Frag}{CX:World->dg}{sp:World->Sp}{x:Str}{c Pt:Addr}(hn:l.most=!n)(sG:n<=sizeLine)(uv:d.params.defaults=[])(hr:Room k callerA)(hY:∀(w:World) (h:Heap),YP w h->(K w.params).In h/\h.get? Pt=!W.tabObj #[])(hC:∀w:World,W.codeHdIn (K w.params) c Pt=true)(AH:∀w:World,(K w.params).lookup Pt=none)(F:∀(w:World) (mg:TJ) (fa:Addr) (h:Heap),(K w.params).In h->h.Ns mainGlobals mg->mg d.name=!.ref fa ->
   ∃fd:FuncData,(∀(s:Shared) (u:Value),BindsTo s fd ⟨[u],[]⟩ [(x,u)]) /\
    ∀base:Heap,(K w.params).In base->base.Ns mainGlobals mg->base.BuiltinsAt mg Pt->aN l.prog w (K w.params) mg base (CX w) k fa fd [x] (sp w))(eP:∀(w:World) (H:Hp) (a:Addr) (ns:TN),ns⁻¹<=n->JD Pt H->SqL (K w.params) H a ⇑ns->sp w [.ref a] H (λv _=>v=.bl true) λ_ _ _=>False)(JF:∀(w:World) (H:Hp) (s:Shared) (e:Value) (s':Shared),CX w [] H s (λ_ _ _=>False) e s'->False) :
  W.WalkO q pV XP YP l.row.toRowW d [] (λf vs=>call f vs):=by
 show Att.attach_call hn uv λw s₀ be mg mb fa o pm cd bq a vs ns G Y ho hd fO uy D4 D5 bK hg=>?_
 let⟨KX,hT⟩:=hY w _ Y;let⟨fd,hb,hF⟩:=F w mg fa _ KX G.T.g uy;let JE:be.heap.BuiltinsAt mg Pt:=by
  let⟨bm,ob,m⟩:=W.bmod_of_top G.T;show⟨bm,ob,m.name,m.ne,λz=>?_,λz=>?_,m.obj,m.cls,m.dict,m.data⟩
  .let⟨o,es,ep,e,d,_⟩:=G.T.g;have:=m.obj;rw[z,e]at this;cases this;let y:=m.data;rw[d]at y;cases y
  .have:=m.obj;rw[z,hT]at this;cases this;let y:=m.data;cases y
 show qeW KX G.T.g G.T.b G.T.builtins G.T.nolimit hg D4 D5 (rK bK sG) hr (hC w) hT (AH w) JE hF hb (λH hO hS=>eP w H a ns bK hO hS) λH e s'=>JF w H be e s'
end L2
namespace K31
open L2 Bk Gd
open Bd
open Gen
def qeZ{K:W.Frag}{fd:FuncData}{ps:TV}{T:Addr}{o:Obj}{items:Array Value}{n:Nat}(hd:fd.defaults=.ref T)(ho:K.lookup T=!o)(hs:o.data=.seq items n)(h:∀us:TU,us⁻¹=ps⁻¹->∃k,bindArgs fd ⟨us,[]⟩=seqItems? fd.defaults>>=k/\k (!items)=pure (ps.zip us)):Binds K fd ps []:=λs us X hl=>by
 rw[rS]at hl⊢;let⟨k,h1,h2⟩:=h us hl;show W.binds_K X hd ho hs h1 h2
def qe0{K:W.Frag}{fd:FuncData}{ps:TV}{T:Addr}{o:Obj}{items:Array Value}{n:Nat}{ds:TU}(hd:fd.defaults=.ref T)(ho:K.lookup T=!o)(hs:o.data=.seq items n)(h:∀us:TU,(us++ds)⁻¹=ps⁻¹->∃k,bindArgs fd ⟨us,[]⟩=seqItems? fd.defaults>>=k/\k (!items)=pure (ps.zip (us++ds))):Binds K fd ps ds:=λs us X hl=>by
 let⟨k,h1,h2⟩:=h us hl;show W.binds_K X hd ho hs h1 h2
def JH{K:W.Frag}{a:Addr}{od:Option Addr}{ah:Array Value}{n:Nat}{sl:Array (Option Value)}{H:Hp}{vs:List V}(l:K.lookup a=!⟨.type "tuple",od,.seq ah n,sl⟩)(z:ah.size<=sizeLine)(v:Vals vs ah.toList):SqT K H a vs :=
 .inr ⟨_,ah,n,l,O,O,z,v⟩
open PySem.W
structure At(K:Frag)(n:Str)(st:Stmt)(f:Addr)(fd:FuncData):Prop where
 a:nsIn K mainGlobals n=!!.ref f
 d:FunD K n n st f fd
 f:Fun K n n st f fd
def at_mk{K:Frag}{n:Str}{st:Stmt}{f:Addr}{oc:Value}{od an:Option Addr}{sl:Array (Option Value)}{kV dc pm cd ct:Value}(a:nsIn K mainGlobals n=!!.ref f)(l:K.lookup f=!⟨oc,od,.func (fnOf n n (dh st) (cr st) (bH st) .none kV dc pm an cd ct),sl⟩)(e:codeIn K cd n=true)(k:keepIn K (.ref f)=true):At K n st f (fnOf n n (dh st) (cr st) (bH st) .none kV dc pm an cd ct):=⟨a,EK l e k,Ly l e k⟩
def Bo(n:Str)(st:Stmt)(ps:TV):=∀(kV bq pm:Value) (an:Option Addr) (aB ct:Value) (us:TU),us⁻¹=ps⁻¹->bindArgs (fnOf n n (dh st) (cr st) (bH st) .none kV bq pm an aB ct) ⟨us,[]⟩=pure (ps.zip us)
def ca{n:Nat}{us:TU}(h:us⁻¹=n+1):∃u r,us=u::r/\r⁻¹=n:=by
 cases us with
 | nil=>cases h
 | cons u r=>show⟨u,r,O,Nat.succ.inj h⟩
def SF{n:Str}{st:Stmt}{p0:Str}(h:∀(kV bq pm:Value) (an:Option Addr) (aB ct u0:Value),bindArgs (fnOf n n (dh st) (cr st) (bH st) .none kV bq pm an aB ct) ⟨[u0],[]⟩=pure [(p0,u0)]):Bo n st [p0]:=λkV bq pm an aB ct us hl=>by
 let⟨u0,r0,rfl,h0⟩:=ca hl;obtain rfl:=rR h0;show h _ _ _ _ _ _ _
def SH{n:Str}{st:Stmt}{p0 p1:Str}(h:∀(kV bq pm:Value) (an:Option Addr) (aB ct u0 u1:Value),bindArgs (fnOf n n (dh st) (cr st) (bH st) .none kV bq pm an aB ct) ⟨[u0,u1],[]⟩=pure [(p0,u0),(p1,u1)]):Bo n st [p0,p1]:=λkV bq pm an aB ct us hl=>by
 let⟨u0,r0,rfl,h0⟩:=ca hl;let⟨u1,r1,rfl,h1⟩:=ca h0;obtain rfl:=rR h1;show h _ _ _ _ _ _ _ _
def SI{n:Str}{st:Stmt}{p0 p1 p2:Str}(h:∀(kV bq pm:Value) (an:Option Addr) (aB ct u0 u1 u2:Value),bindArgs (fnOf n n (dh st) (cr st) (bH st) .none kV bq pm an aB ct) ⟨[u0,u1,u2],[]⟩=pure [(p0,u0),(p1,u1),(p2,u2)]):Bo n st [p0,p1,p2]:=λkV bq pm an aB ct us hl=>by
 let⟨u0,r0,rfl,h0⟩:=ca hl;let⟨u1,r1,rfl,h1⟩:=ca h0;let⟨u2,r2,rfl,h2⟩:=ca h1;obtain rfl:=rR h2;show h _ _ _ _ _ _ _ _ _
def SJ{n:Str}{st:Stmt}{p0 p1 p2 p3:Str}(h:∀(kV bq pm:Value) (an:Option Addr) (aB ct u0 u1 u2 u3:Value),bindArgs (fnOf n n (dh st) (cr st) (bH st) .none kV bq pm an aB ct) ⟨[u0,u1,u2,u3],[]⟩=pure [(p0,u0),(p1,u1),(p2,u2),(p3,u3)]):Bo n st [p0,p1,p2,p3]:=λkV bq pm an aB ct us hl=>by
 let⟨u0,r0,rfl,h0⟩:=ca hl;let⟨u1,r1,rfl,h1⟩:=ca h0;let⟨u2,r2,rfl,h2⟩:=ca h1;let⟨u3,r3,rfl,h3⟩:=ca h2;obtain rfl:=rR h3;show h _ _ _ _ _ _ _ _ _ _
def SK{n:Str}{st:Stmt}{p0 p1 p2 p3 p4:Str}(h:∀(kV bq pm:Value) (an:Option Addr) (aB ct u0 u1 u2 u3 u4:Value),bindArgs (fnOf n n (dh st) (cr st) (bH st) .none kV bq pm an aB ct) ⟨[u0,u1,u2,u3,u4],[]⟩=pure [(p0,u0),(p1,u1),(p2,u2),(p3,u3),(p4,u4)]):Bo n st [p0,p1,p2,p3,p4]:=λkV bq pm an aB ct us hl=>by
 let⟨u0,r0,rfl,h0⟩:=ca hl;let⟨u1,r1,rfl,h1⟩:=ca h0;let⟨u2,r2,rfl,h2⟩:=ca h1;let⟨u3,r3,rfl,h3⟩:=ca h2;let⟨u4,r4,rfl,h4⟩:=ca h3;obtain rfl:=rR h4;show h _ _ _ _ _ _ _ _ _ _ _
def SL{n:Str}{st:Stmt}{p0 p1 p2 p3 p4 p5:Str}(h:∀(kV bq pm:Value) (an:Option Addr) (aB ct u0 u1 u2 u3 u4 u5:Value),bindArgs (fnOf n n (dh st) (cr st) (bH st) .none kV bq pm an aB ct) ⟨[u0,u1,u2,u3,u4,u5],[]⟩=pure [(p0,u0),(p1,u1),(p2,u2),(p3,u3),(p4,u4),(p5,u5)]):Bo n st [p0,p1,p2,p3,p4,p5]:=λkV bq pm an aB ct us hl=>by
 let⟨u0,r0,rfl,h0⟩:=ca hl;let⟨u1,r1,rfl,h1⟩:=ca h0;let⟨u2,r2,rfl,h2⟩:=ca h1;let⟨u3,r3,rfl,h3⟩:=ca h2;let⟨u4,r4,rfl,h4⟩:=ca h3;let⟨u5,r5,rfl,h5⟩:=ca h4;obtain rfl:=rR h5;show h _ _ _ _ _ _ _ _ _ _ _ _
def qe1{P:Program}{w:World}{K:Frag}{mg:TJ}{base h:Heap}(X:K.In h)(G:h.Ns mainGlobals mg){n:Str}{st:Stmt}{f:Addr}{fd:FuncData}{CX:dg}{k:Nat}{ps:TV}{sp:Sp}(A:At K n st f fd)(o:aN P w K mg base CX k f fd ps sp)(b:Bo n st ps:=by first | show SF (by intros;rfl) | show SH (by intros;rfl) | show SI (by intros;rfl) | show SJ (by intros;rfl) | show SK (by intros;rfl) | show SL (by intros;rfl)):Fx P w K mg base CX k n ps sp:=⟨_,_,o,A.f.binds b,A.f.kp,mg_of X G A.a⟩
def qe2{P:Program}{w:World}{K:Frag}{mg:TJ}{base h:Heap}(X:K.In h)(G:h.Ns mainGlobals mg){n:Str}{st:Stmt}{f:Addr}{fd:FuncData}{CX:dg}{k:Nat}{ps:TV}{sp:Sp}(A:At K n st f fd)(no:∀vs H Q E,¬sp vs H Q E)(b:Bo n st ps:=by first | show SF (by intros;rfl) | show SH (by intros;rfl) | show SI (by intros;rfl) | show SJ (by intros;rfl) | show SK (by intros;rfl) | show SL (by intros;rfl)):Fx P w K mg base CX k n ps sp:=.none (A.f.binds b) A.f.kp (mg_of X G A.a) no
def all_mk{l:OpenLaw}(X:K.In h)(G:h.Ns mainGlobals mg)(hfa:mg "law" = !.ref fa)(A1:At K "level_of" RD f1 d1)(A2:At K "elders_of" RE f2 d2)(A3:At K "holds" O1 f3 d3)(A4:At K "aside_ahead" QX f4 d4)(A5:At K "look_at" O2 f5 d5)(A6:At K "word_width" OW f6 d6)(A7:At K "face_at" OX f7 d7)(a8:nsIn K mainGlobals "all_units" = !!.ref f8)(l8:K.lookup f8=!⟨oc8,od8,.func (fnOf "all_units" "all_units" (dh mV) (cr mV) (bH mV) (.ref T8) kV8 dc8 pm8 an8 SM ct8),sl8⟩)(t8:K.lookup T8=!⟨ocT8,odT8,.seq #[Value.bool false] nT8,slT8⟩)(e8:codeIn K SM "all_units" = true)(k8:keepIn K (.ref f8)=true)(A9:At K "node_units" O3 f9 d9)(A10:At K "piece_width" OZ f10 Fj)(A11:At K "printed" OY f11 d11)(A12:At K "rows_high" Pa f12 d12)(A13:At K "row_length" Pu f13 d13)(A14:At K "all_bounds" PJ f14 d14)(A15:At K "node_bounds" PH f15 d15)(A16:At K "with_insets" Pr f16 d16)(A17:At K "units_low" Ps f17 d17)(A18:At K "floor_of" Pw f18 d18)(A19:At K "roof_of" Px f19 d19)(A20:At K "wish_of" Py f20 d20)(A21:At K "grid_width" Pz f21 d21)(A22:At K "rounded_up" Hx f22 d22)(A23:At K "bounds_in_pile" PB f23 d23)(A24:At K "row_blemish" Rk f24 d24)(A25:At K "row_width" Rj f25 d25)(a26:nsIn K mainGlobals "broken" = !!.ref SN)(l26:K.lookup SN=!⟨oc26,od26,.func (fnOf "broken" "broken" (dh ny) (cr ny) (bH ny) (.ref SO) qe3 qe4 qe5 qe6 SQ qe7),sl26⟩)(t26:K.lookup SO=!⟨ocT26,odT26,.seq #[Value.none] nT26,slT26⟩)(e26:codeIn K SQ "broken" = true)(k26:keepIn K (.ref SN)=true)(A27:At K "sums_of_no_row" Rl f27 d27)(A28:At K "ways_of_rows" Rm f28 d28)(A29:At K "ways_by_end" Rn f29 d29)(A30:At K "beginnings_of" Ro f30 d30)(A31:At K "least_sum" Rr f31 d31)(A32:At K "chosen_rows" Rv f32 d32)(A33:At K "fewest_rows" Rt f33 d33)(A34:At K "first_met" Rs f34 d34)(A35:At K "cells_of" P2 f35 d35)(A36:At K "grid_places" PU f36 d36)(A37:At K "first_place" PR f37 d37)(A38:At K "spots_of" PQ f38 d38)(A39:At K "grid_highs" QS f39 d39)(A40:At K "end_of" QR f40 d40)(A41:At K "shares" Qi f41 d41)(A42:At K "common_multiple" Qg f42 d42)(A43:At K "last_level" Qh f43 d43)(A44:At K "had_below" Qf f44 d44)(A45:At K "all_spans" Qm f45 d45)(A46:At K "held_spans" Ql f46 d46)(A47:At K "room_of" P3 f47 d47)(A48:At K "floors_of" P4 f48 d48)(A49:At K "roofs_of" P5 f49 d49)(A50:At K "weights_of" P6 f50 d50)(A51:At K "one_behind_the_other" P7 f51 d51)(A52:At K "cell_spans" P9 f52 d52)(A53:At K "even_columns" P8 f53 d53)(A54:At K "aside_span" Qa f54 d54)(a55:nsIn K mainGlobals "all_sizes" = !!.ref SR)(l55:K.lookup SR=!⟨oc55,od55,.func (fnOf "all_sizes" "all_sizes" (dh fB) (cr fB) (bH fB) .none kV55 dc55 pm55 an55 (.ref cW) ct55),sl55⟩)(e55:codeIn K (.ref cW) "all_sizes" = true)(k55:keepIn K (.ref SR)=true)(A56:At K "node_size" RB f56 d56)(A57:At K "narrow_of" RA f57 d57)(A58:At K "high_of_held" Rf f58 d58)(A59:At K "held_tops" Re f59 d59)(A60:At K "tops_in_grid" Q3 f60 d60)(A61:At K "tops_in_pile" Q4 f61 d61)(A62:At K "_law_stream" MH f62 d62)(A63:At K "_law_take" MI f63 d63)(A64:At K "_law_whole" QQ f64 d64)(A65:At K "_law_word" MJ f65 d65)(A66:At K "_law_pieces" MK f66 d66)(A67:At K "_law_add" MM f67 d67)(A68:At K "_law_text" MN f68 d68)(A69:At K "_law_item" MO f69 d69)(A70:At K "_law_book" MP f70 d70)(A71:At K "_law_wide" MQ f71 d71)(A72:At K "_law_looks" CC f72 d72)(A73:At K "_law_faces" Pb f73 d73)(A74:At K "_law_shown" Pm f74 d74)(A75:At K "_law_held" R5 f75 d75)(A76:At K "_law_beside" QY f76 d76)(A77:At K "_law_long" OL f77 d77)(A78:At K "_law_made" QG f78 d78)(A79:At K "_law_rowed" R6 f79 d79)(A80:At K "_law_grid" R9 f80 d80)(A81:At K "_law_below" R' f81 d81)(A82:At K "_law_due" Se f82 d82)(A83:At K "_law_right" Sf f83 d83)(A84:At K "law" Sl f84 d84)(x_UN:nsIn K mainGlobals "UNSHOWN" = !!.str (s!"?") tk_UN)(x_FG:nsIn K mainGlobals "FIGURES" = !!.str (s!"0123456789") tk_FG)(x_KP:nsIn K mainGlobals "KINDS_OF_PIECES" = !!.ref SS)(l_KP:K.lookup SS=!⟨.type "tuple",od_KP,.seq #[.str (s!"text") tk_K0,.str (s!"head") tk_K1,.str (s!"note") tk_K2] n_KP,sl_KP⟩)(x_NN:nsIn K mainGlobals "NONE_NARROWER" = !!.ref JI)(l_NN:K.lookup JI=!⟨.type "tuple",od_NN,.seq #[.int 0 tk_N0,.int 0 tk_N1] n_NN,sl_NN⟩)(x_PROPERTIES:nsIn K mainGlobals "PROPERTIES" = !!.ref SU)(l_PROPERTIES:K.lookup SU=!⟨.type "tuple",none,.seq #[.str (s!"face") tk_P0,.str (s!"align") tk_P1,.str (s!"above") tk_P2,.str (s!"inset") tk_P3,.str (s!"weight") tk_P4,.str (s!"least") tk_P5,.str (s!"most") tk_P6,.str (s!"columns") tk_P7,.str (s!"span") tk_P8,.str (s!"deep") tk_P9,.str (s!"side") tk_P10,.str (s!"wide") tk_P11,.str (s!"fresh") tk_P12] n_PROPERTIES_,sl_PROPERTIES⟩)(hPt:Pt≠mainGlobals)(hC:codeHdIn K cW Pt=true)(n_isinstance:nsIn K mainGlobals "isinstance" = !none)(n_len:nsIn K mainGlobals "len" = !none)(n_range:nsIn K mainGlobals "range" = !none)(n_sorted:nsIn K mainGlobals "sorted" = !none)(n_int:nsIn K mainGlobals "int" = !none)(n_bool:nsIn K mainGlobals "bool" = !none)(n_list:nsIn K mainGlobals "list" = !none)(n_tuple:nsIn K mainGlobals "tuple" = !none)(n_str:nsIn K mainGlobals "str" = !none)(n_set:nsIn K mainGlobals "set" = !none)(n_enumerate:nsIn K mainGlobals "enumerate" = !none)(n_all:nsIn K mainGlobals "all" = !none)(n_ValueError:nsIn K mainGlobals "ValueError" = !none)(n_any:nsIn K mainGlobals "any" = !none)(n_min:nsIn K mainGlobals "min" = !none)(n_max:nsIn K mainGlobals "max" = !none)(n_sum:nsIn K mainGlobals "sum" = !none)(n_zip:nsIn K mainGlobals "zip" = !none)(n_dict:nsIn K mainGlobals "dict" = !none)(i_ELDER:nsIn K mainGlobals "ELDER" = !!.int 0 t_ELDER)(i_KIND:nsIn K mainGlobals "KIND" = !!.int 1 t_KIND)(i_STUFF:nsIn K mainGlobals "STUFF" = !!.int 4 t_STUFF)(i_SORT:nsIn K mainGlobals "SORT" = !!.int 0 t_SORT)(i_THING:nsIn K mainGlobals "THING" = !!.int 1 t_THING)(i_TONE:nsIn K mainGlobals "TONE" = !!.int 2 t_TONE)(i_HIGH:nsIn K mainGlobals "HIGH" = !!.int 0 t_HIGH)(i_BLANK:nsIn K mainGlobals "BLANK" = !!.int 1 t_BLANK)(i_WIDE_faces:nsIn K mainGlobals "WIDE_faces" = !!.int 2 t_WIDE_faces)(i_ODD:nsIn K mainGlobals "ODD" = !!.int 3 t_ODD)(i_UNIT_WIDE:nsIn K mainGlobals "UNIT_WIDE" = !!.int 0 t_UNIT_WIDE)(i_UNIT_BLANK:nsIn K mainGlobals "UNIT_BLANK" = !!.int 1 t_UNIT_BLANK)(i_UNIT_HIGH:nsIn K mainGlobals "UNIT_HIGH" = !!.int 2 t_UNIT_HIGH)(i_UNIT_NOTES:nsIn K mainGlobals "UNIT_NOTES" = !!.int 4 t_UNIT_NOTES)(i_FIGURES_HELD:nsIn K mainGlobals "FIGURES_HELD" = !!.int 4 t_FIGURES_HELD)(i_LOW:nsIn K mainGlobals "LOW" = !!.int 0 t_LOW)(i_GREAT:nsIn K mainGlobals "GREAT" = !!.int 1 t_GREAT)(i_COUNT:nsIn K mainGlobals "COUNT" = !!.int 0 t_COUNT)(i_BY:nsIn K mainGlobals "BY" = !!.int 1 t_BY)(i_ROWS:nsIn K mainGlobals "ROWS" = !!.int 0 t_ROWS)(i_SUMS:nsIn K mainGlobals "SUMS" = !!.int 1 t_SUMS)(i_TOO_LONG:nsIn K mainGlobals "TOO_LONG" = !!.int 1000000 t_TOO_LONG)(i_ROW:nsIn K mainGlobals "ROW" = !!.int 0 t_ROW)(i_COLUMN:nsIn K mainGlobals "COLUMN" = !!.int 1 t_COLUMN)(i_SPAN:nsIn K mainGlobals "SPAN" = !!.int 2 t_SPAN)(i_DEEP:nsIn K mainGlobals "DEEP" = !!.int 3 t_DEEP)(i_LEFT:nsIn K mainGlobals "LEFT" = !!.int 0 t_LEFT)(i_WIDE_spans:nsIn K mainGlobals "WIDE_spans" = !!.int 1 t_WIDE_spans)(i_SIZE_HIGH:nsIn K mainGlobals "SIZE_HIGH" = !!.int 0 t_SIZE_HIGH): ∃fd:FuncData,(∀(s:Shared) (v:Value),BindsTo s fd ⟨[v],[]⟩ [("_law_script",v)])/\∀base:Heap,K.In base->base.Ns mainGlobals mg->base.BuiltinsAt mg Pt->aN l.prog w K mg base am 13 fa fd ["_law_script"] (AD Pt K):=by
 let e0:=hfa.symm.trans (mg_of X G A84.a);cases e0;let qe8:=yF X G n_isinstance;let qe9:=yF X G n_len;let qfa:=yF X G n_range;let qfb:=yF X G n_sorted;let qfc:=yF X G n_int;let qfd:=yF X G n_bool;let qfe:=yF X G n_list;let qff:=yF X G n_tuple;let qfg:=yF X G n_str;let qfh:=yF X G n_set;let qfi:=yF X G n_enumerate;let qfj:=yF X G n_all;let qfk:=yF X G n_ValueError;let qfl:=yF X G n_any;let qfm:=yF X G n_min;let qfn:=yF X G n_max;let qfo:=yF X G n_sum;let qfp:=yF X G n_zip;let qfq:=yF X G n_dict;let JJ:=mg_of X G i_ELDER;let pF:=mg_of X G i_KIND;let JK:=mg_of X G i_STUFF;let qfr:=mg_of X G i_SORT;let qfs:=mg_of X G i_THING;let qft:=mg_of X G i_TONE;let qfu:=mg_of X G i_HIGH;let qfv:=mg_of X G i_BLANK;let qfw:=mg_of X G i_WIDE_faces;let qfx:=mg_of X G i_ODD;let SV:=mg_of X G i_UNIT_WIDE;let SX:=mg_of X G i_UNIT_BLANK;let qfy:=mg_of X G i_UNIT_HIGH;let qfz:=mg_of X G i_UNIT_NOTES;let qfA:=mg_of X G i_FIGURES_HELD;let SY:=mg_of X G i_LOW;let qfB:=mg_of X G i_GREAT;let JL:=mg_of X G i_COUNT;let qfC:=mg_of X G i_BY;let qfD:=mg_of X G i_ROWS;let qfE:=mg_of X G i_SUMS;let qfF:=mg_of X G i_TOO_LONG;let SZ:=mg_of X G i_ROW;let Ua:=mg_of X G i_COLUMN;let Ub:=mg_of X G i_SPAN;let qfG:=mg_of X G i_DEEP;let qfH:=mg_of X G i_LEFT;let JM:=mg_of X G i_WIDE_spans;let Dr:=mg_of X G i_SIZE_HIGH;let T:bO mg:=⟨⟨qe8,qe9,qfa,qfb,qfc,qfd,qfe,qff,qfg,qfh,qfi,qfj,qfk⟩,qfl,qfm,qfn,qfo,qfp⟩;let TD:Fc.BnD mg:=⟨T,qfq⟩;let TS:Shr.BnS mg:=⟨T.isinstance,T.len,T.range,T.int,T.bool,T.list,T.min,T.max,T.sum,T.zip,T.enumerate,T.sorted,T.all⟩;let TG:mH mg:=⟨T.isinstance,T.len,T.range,T.int,T.bool,T.list,T.tuple,T.any,T.min,T.max,T.sum,T.zip⟩;let TR:Br.BnR mg:=⟨TG,⟨_,SV⟩,⟨_,SX⟩⟩;let UF:Ct mg:=⟨⟨_,qfu⟩,⟨_,qfv⟩,⟨_,qfw⟩,⟨_,qfx⟩⟩;let UU:Cu mg:=⟨UF,⟨_,qfr⟩,⟨_,qfs⟩,⟨_,qft⟩,⟨_,mg_of X G x_UN⟩,⟨_,qfA⟩,⟨_,mg_of X G x_FG⟩⟩;let UB:Bd.NumsB mg:=⟨⟨_,pF⟩,⟨_,JK⟩,⟨_,SV⟩,⟨_,SX⟩,⟨_,SY⟩,⟨_,qfB⟩⟩;let US:zf mg:=⟨⟨_,pF⟩,⟨_,SY⟩,⟨_,qfH⟩,⟨_,JM⟩,⟨_,Ua⟩,⟨_,Ub⟩⟩;let UG:BL mg:=⟨⟨_,SZ⟩,⟨_,Ua⟩,⟨_,Ub⟩,⟨_,qfG⟩⟩;let AI:∀H:Hp,SqT K H SS (Sp0.pieceKinds.map V.str):=λH=>JH (vs:=Sp0.pieceKinds.map V.str) l_KP (by show 3<=sizeLine;decide) (.cons ⟨_,O⟩ (.cons ⟨_,O⟩ (.cons ⟨_,O⟩ (.nil))))
 let AJ:=mg_of X G x_KP;let NN0:∀H:Hp,SqT K H JI [.int 0,.int 0]:=λH=>JH l_NN (by show 2<=sizeLine;decide) (.cons ⟨_,O⟩ (.cons ⟨_,O⟩ (.nil)))
 let Uc:=mg_of X G x_NN;let PT:NG K SU:=⟨λH=>JH (vs:=xc.map V.str) l_PROPERTIES (by show 13<=sizeLine;decide) (.cons ⟨_,O⟩ (.cons ⟨_,O⟩ (.cons ⟨_,O⟩ (.cons ⟨_,O⟩ (.cons ⟨_,O⟩ (.cons ⟨_,O⟩ (.cons ⟨_,O⟩ (.cons ⟨_,O⟩ (.cons ⟨_,O⟩ (.cons ⟨_,O⟩ (.cons ⟨_,O⟩ (.cons ⟨_,O⟩ (.cons ⟨_,O⟩ (.nil)))))))))))))),⟨_,l_PROPERTIES,O,O⟩⟩;let qfI:=mg_of X G x_PROPERTIES;let⟨_,_,_,_,_,_,_,_,_,e,_⟩:=A84.f.ex;let F8:=EK (st:=mV) l8 e8 k8;let bD8:Binds K _ ["book", "looks", "faces", "shown", "held"] [Value.bool false]:=qe0 (fd:=fnOf "all_units" "all_units" (dh mV) (cr mV) (bH mV) (.ref T8) kV8 dc8 pm8 an8 SM ct8) O t8 O λus hl=>by(have hl:us⁻¹=4:=‹hl›;let⟨u0,r0,rfl,h0⟩:=ca hl;let⟨u1,r1,rfl,h1⟩:=ca h0;let⟨u2,r2,rfl,h2⟩:=ca h1;let⟨u3,r3,rfl,h3⟩:=ca h2;obtain rfl:=rR h3;show-⟨O⟩)
 let m8:=mg_of X G a8;let F26:=EK (st:=ny) l26 e26 k26;let b26:Binds K _ ["units", "width", "narrow"] []:=qeZ (fd:=fnOf "broken" "broken" (dh ny) (cr ny) (bH ny) (.ref SO) qe3 qe4 qe5 qe6 SQ qe7) O t26 O λus hl=>by(let⟨u0,r0,rfl,h0⟩:=ca hl;let⟨u1,r1,rfl,h1⟩:=ca h0;let⟨u2,r2,rfl,h2⟩:=ca h1;obtain rfl:=rR h2;show-⟨O⟩)
 let m26:=mg_of X G a26;let F55:=Ly (st:=fB) l55 e55 k55;let b55:=F55.binds (ps:=["book", "looks", "units", "spans"]) λ_ _ _ _ _ _ us hl=>by(let⟨u0,r0,rfl,h0⟩:=ca hl;let⟨u1,r1,rfl,h1⟩:=ca h0;let⟨u2,r2,rfl,h2⟩:=ca h1;let⟨u3,r3,rfl,h3⟩:=ca h2;obtain rfl:=rR h3;rfl)
 let m55:=mg_of X G a55;show⟨d84,λs v=>by rw[e];show .of_eq O,λbase KB GB hB=>?_⟩;let fx:=@qe1 l.prog w K mg base h X G;let x62:=fx A62 (XW A62.f T.toBn);let jC:=fx A63 (XX A63.f);let Ud:=fx A65 (XY A65.f T.toBn jC);let x66:=fx A66 (XZ A66.f T.toBn jC Ud);let JN:=fx A67 (X2 A67.f T.toBn jC);let x68:=fx A68 (X7 A68.f T.toBn jC x66 JN);let XI:∀g,Fx l.prog w K mg base am (6+g) "_law_item" ["_law_nodes", "_law_elder", "_law_level", "_law_room", "_law_stream_here"] (Gw.spItem g):=λg=>by
  induction g with
  | zero=>show qe2 X G A69 Gw.item_none
  | succ g e=>show fx A69 (Yd A69.f T.toBn jC JN x68 e)
 let x70:=fx A70 (Yr A70.f T.toBn (XI 4));let x71:=fx A71 (Ys A71.f T.toBn jC JN (XI 4));let x3:=fx A3 (qbl A3.f T.toBn ⟨_,JJ⟩);let x2:=fx A2 (qd5 A2.f ⟨_,JJ⟩);let x1:=fx A1 (qd6 A1.f T.toBn x2);let x4:=fx A4 (qdr A4.f ⟨_,JJ⟩ ⟨_,pF⟩ x3);let x5:=fx A5 (qbm A5.f qfI PT);let x6:=fx A6 (qbd A6.f TD UF);let x7:=fx A7 (qbe A7.f TD UF);let x11:=fx A11 (qbf A11.f TD UU);let x10:=fx A10 (qbh A10.f TD UU x6 x11);let x9:=fx A9 (qbo A9.f TD UU ⟨_,pF⟩ ⟨_,JK⟩ ⟨_,qfz⟩ AJ AI x3 x7 x10);let qfJ:F6 l.prog w K mg base am 4 "all_units" ["book", "looks", "faces", "shown", "held"] [Value.bool false] (fal 4 Fc.spAllU):=⟨_,_,qbz F8 T x5 x9,bD8,k8,m8⟩;let Ue:=fx A12 (qbw A12.f T ⟨_,qfy⟩);let x16:=fx A16 (qbV A16.f x5);let x17:=fx A17 (qbW A17.f T UB);let Uf:=fx A13 (qbX A13.f T UB);let Ds:=fx A18 (qbZ A18.f T UB x5);let Ug:=fx A19 (qb0 A19.f T x5 Ds);let x20:=fx A20 (qb1 A20.f T UB Ds Ug);let x22:=fx A22 (qb2 A22.f);let qfK:=fx A22 (qdC A22.f);let x21:=fx A21 (qb3 A21.f T x5 x22);let x23:=fx A23 (qb4 A23.f UB x5);let x15:=fx A15 (qca A15.f T UB AJ AI x5 x16 x17 Uf x3 Ds x20 x21 x23);let x14:=fx A14 (qce A14.f T x15);let x25:=fx A25 (qdD A25.f TR ⟨_,JL⟩ ⟨_,qfC⟩);let x24:=fx A24 (qdF A24.f TR ⟨_,qfF⟩ x25 Uf);let x30:=fx A30 (qdJ A30.f TR x24);let x29:=fx A29 (qdL A29.f TR x30);let x28:=fx A28 (qdN A28.f TR ⟨_,JL⟩ x29);let x27:=fx A27 (qdI A27.f TR);let x31:=fx A31 (qdO A31.f TR);let x34:=fx A34 (qdP A34.f TR);let x33:=fx A33 (qdQ A33.f TR);let x32:=fx A32 (qdR A32.f TR x33 x34);let Uh:Fx l.prog w K mg base am 6 "broken" ["units", "width", "narrow"] (Bw.spBroken2 K JI):=⟨_,_,qdU F26 TR Uc x28 x27 x31 x32,b26,k26,m26⟩;let Ui:=fx A35 (qco A35.f x5);let Uj:=fx A38 (qch A38.f TG UG);let x37:=fx A37 (qci A37.f TG Uj);let JO:=fx A36 (qcj A36.f TG Uj x37);let x40:=fx A40 (qdp A40.f UG);let Uk:=fx A39 (qdq A39.f TG UG x40);let Ul:=fx A44 (qcz A44.f TS);let x42:=fx A42 (qcA A42.f);let x43:=fx A43 (qcB A43.f TS Ul);let x41:=fx A41 (qcC A41.f TS x42 x43 Ul);let Um:=fx A47 (qcp A47.f T US x5);let x48:=fx A48 (qcq A48.f Ds);let x49:=fx A49 (qcr A49.f Ug);let x50:=fx A50 (qcs A50.f x5);let x51:=fx A51 (qct A51.f T);let x53:=fx A53 (qcu A53.f T);let x52:=fx A52 (qcv A52.f T US x53 JO);let x54:=fx A54 (qcy A54.f T US x5);let x46:=fx A46 (qcF A46.f T US AJ AI x3 x5 Um x48 x49 x50 x41 x51 Ui x52 x54);let x45:=fx A45 (qcN A45.f T x3 x46);let x60:=fx A60 (qdu A60.f T ⟨_,Dr⟩ ⟨_,SZ⟩ Ui JO Uk);let x61:=fx A61 (qdv A61.f T ⟨_,Dr⟩ ⟨_,pF⟩ x5 x4);let x59:=fx A59 (qdx A59.f ⟨_,pF⟩ AJ AI x3 x5 x60 x61);let x58:=fx A58 (qdA A58.f T ⟨_,Dr⟩ x59);let x57:=fx A57 (qd0 A57.f ⟨_,Dr⟩ ⟨_,JM⟩ Uc NN0 x4 qfK Ue);let x56:=fx A56 (qd1 A56.f T ⟨_,pF⟩ ⟨_,JK⟩ ⟨_,JM⟩ ⟨_,qfD⟩ ⟨_,qfE⟩ ⟨_,JL⟩ AJ AI x58 x57 Um Uh Ue);let⟨fl,dl,Fl,C6,Jj,Jk⟩:=id x1;let qfL:Fx l.prog w K mg base am 8 "all_sizes" ["book", "looks", "units", "spans"] (Dj Pt):=⟨_,_,qew l55 e55 T T.sorted hC hPt hB Fl C6 Jj Jk x56,b55,k55,m55⟩;let x64:=fx A64 (qdo A64.f TG);let x72:=fx A72 (qbH A72.f T jC);let x73:=fx A73 (qbC A73.f T jC);let x74:=fx A74 (qbO A74.f T jC);let JP:=fx A75 (qeA A75.f T);let Uo:=fx A76 (qds A76.f T);let x77:=fx A77 (qbb A77.f T.toBn jC Ud);let x78:=fx A78 (qdc A78.f T x62 jC x70 x71 x77 x72 x73 x74 qfJ x14 x45);let x79:=fx A79 (qeC A79.f T Uo Uh);let x80:=fx A80 (qeH A80.f T JP JO Uk);let x81:=fx A81 (qeI A81.f T JP Uo);let x82:=fx A82 (qeK A82.f T JP x79 x80 x81);let x83:=fx A83 (qeO A83.f T TG x64 x82);show qeR A84.f T x78 qfL x83
def walk{l:OpenLaw}{q:Program}{pV:TV}{XP:(Str->Option Value)->Heap->Prop}{YP:World->Heap->Prop}{d:DefRec}{K:Params->Frag}{c Pt:Addr}(hn:l.most=!63)(uv:d.params.defaults=[])(hY:∀(w:World) (h:Heap),YP w h->(K w.params).In h/\h.get? Pt=!tabObj #[])(hC:∀w:World,codeHdIn (K w.params) c Pt=true)(AH:∀w:World,(K w.params).lookup Pt=none)(F:∀(w:World) (mg:TJ) (fa:Addr) (h:Heap),(K w.params).In h->h.Ns mainGlobals mg->mg d.name=!.ref fa ->
   ∃fd:FuncData,(∀(s:Shared) (u:Value),BindsTo s fd ⟨[u],[]⟩ [("_law_script",u)])/\∀base:Heap,(K w.params).In base->base.Ns mainGlobals mg->base.BuiltinsAt mg Pt->aN l.prog w (K w.params) mg base am 13 fa fd ["_law_script"] (AD Pt (K w.params))) :
  WalkO q pV XP YP l.row.toRowW d [] (λf vs=>call f vs) :=
 L2.walk_ofT (n:=63) (k:=13) (x := "_law_script") (c:=c) (Pt:=Pt) (CX:=λ_=>am) (sp:=λw=>AD Pt (K w.params)) hn {} uv ⟨O,{},{}⟩ hY hC AH F (λ_ _ a ns hl hO hS=>⟨a,ns,O,hS,hl,⟨#[],hO.1,trivial,.inl O⟩,λ_=>rfl⟩) λ_ _ _ _ _ z=>z
end K31
end
namespace PySem.W.Fast
theorem te3552594268116530522:True:=trivial
def tw3552594268116530522:Unit:=()
def tw6644679572557180724:PySem.Program:=PySem.Challenge.pw_leafpress_k31_sizes
theorem te6644679572557180724:PySem.Challenge.pw_leafpress_k31_sizes=tw6644679572557180724:=rfl
local macro_rules|`(command|#check $s:str)=>do
 let mut p:="";let mut r:Array Lean.Syntax:=#[]
 for w in s.getString.splitOn " " do
  if w.isNat then r:=r.push (← `(command|noncomputable def $(Lean.mkIdent (.mkSimple s!"tw{(Lean.Name.mkStr `PySem.Challenge.cw_leafpress_k31_sizes_holds (p++w)).hash}")):ident:=())) else p:=w
 return Lean.mkNullNode r
#check "heap_ 46 596 o_ 45 46 49 51 52 53 54 56 57 59 60 61 62 63 64 66 67 68 69 72 73 75 76 77 78 79 82 84 85 86 87 89 91 92 93 96 97 98 99 101 103 105 106 107 108 111 113 114 115 118 119 120 121 123 125 126 127 128 131 132 133 134 136 138 139 140 143 144 145 146 148 150 151 152 153 157 158 159 160 162 163 164 167 168 169 172 173 174 175 177 178 179 180 181 184 185 186 187 189 190 191 192 193 196 197 198 199 200 201 203 205 206 207 210 211 212 215 217 218 219 222 224 225 226 227 229 230 232 234 235 236 237 239 241 242 243 244 247 248 249 250 252 253 254 257 258 259 260 262 263 264 267 269 270 271 274 275 276 279 280 281 282 283 284 286 287 288 289 291 292 293 294 296 298 299 300 301 303 305 306 307 310 311 312 313 315 316 317 320 321 322 325 326 327 328 329 330 332 334 335 336 339 341 342 343 344 346 348 349 350 353 355 356 357 358 360 361 362 363 367 368 369 372 373 374 375 376 377 379 380 381 384 385 386 389 390 391 392 394 395 396 399 401 402 403 406 407 408 409 411 412 413 414 415 418 419 420 423 425 426 427 430 432 433 434 437 438 439 440 444 445 446 449 450 451 454 455 456 457 459 460 461 462 463 464 466 468 469 470 473 475 476 477 480 482 483 484 485 487 488 489 492 493 494 497 498 499 502 504 505 506 509 511 512 513 514 516 518 519 520 521 525 526 527 528 529 532 533 534 535 537 538 539 542 543 544 545 547 548 549 550 552 553 554 557 558 559 560 561 562 564 565 566 569 570 571 574 575 576 577 578 579 581 582 583 584 586 587 588 589 590 593 594 595 sts_ 49 64 99 153 227 294 363 440 521 tree_ 47 63 98 152 226 293 362 439 520 595 view_ 39"
end PySem.W.Fast
open PySem PySem.W PyProof.Rows
local macro_rules | `(tactic| trivial)=>`(tactic| (refine' K31.at_mk ?a ?l ?e ?k;(case a=>k_is);(case l=>k_is);(case e=>k_is);(case k=>k_is)))
set_option maxRecDepth 100000 in
set_option maxHeartbeats 0 in
theorem PySem.Challenge.cw_leafpress_k31_sizes_holds : PySem.Challenge.rw_leafpress_k31_sizes.Holds := by
 w_on;o_law;k_head;(case hw=>w_witness2)
 k_fill
 refine K31.walk (l:=PySem.Challenge.rw_leafpress_k31_sizes) (c:=370) (Pt:=368) rfl rfl (λw h Y=>⟨PySem.W.km_in_of Y,PySem.W.km_tabs_of Y _ (by simp)⟩) (λw=>by first | k_is | kernel_rfl) (λw=>by first | kernel_rfl | k_is) ?F
 case F =>
  intro w mg fa h KX G uy;refine' K31.all_mk KX G uy ?A1 ?A2 ?A3 ?A4 ?A5 ?A6 ?A7 ?a8 ?l8 ?t8 ?e8 ?k8 ?A9 ?A10 ?A11 ?A12 ?A13 ?A14 ?A15 ?A16 ?A17 ?A18 ?A19 ?A20 ?A21 ?A22 ?A23 ?A24 ?A25 ?a26 ?l26 ?t26 ?e26 ?k26 ?A27 ?A28 ?A29 ?A30 ?A31 ?A32 ?A33 ?A34 ?A35 ?A36 ?A37 ?A38 ?A39 ?A40 ?A41 ?A42 ?A43 ?A44 ?A45 ?A46 ?A47 ?A48 ?A49 ?A50 ?A51 ?A52 ?A53 ?A54 ?a55 ?l55 ?e55 ?k55 ?A56 ?A57 ?A58 ?A59 ?A60 ?A61 ?A62 ?A63 ?A64 ?A65 ?A66 ?A67 ?A68 ?A69 ?A70 ?A71 ?A72 ?A73 ?A74 ?A75 ?A76 ?A77 ?A78 ?A79 ?A80 ?A81 ?A82 ?A83 ?A84 ?x_UN ?x_FG ?x_KP ?l_KP ?x_NN ?l_NN ?x_PROPERTIES ?l_PROPERTIES ?hPt ?hC ?n_isinstance ?n_len ?n_range ?n_sorted ?n_int ?n_bool ?n_list ?n_tuple ?n_str ?n_set ?n_enumerate ?n_all ?n_ValueError ?n_any ?n_min ?n_max ?n_sum ?n_zip ?n_dict ?i_ELDER ?i_KIND ?i_STUFF ?i_SORT ?i_THING ?i_TONE ?i_HIGH ?i_BLANK ?i_WIDE_faces ?i_ODD ?i_UNIT_WIDE ?i_UNIT_BLANK ?i_UNIT_HIGH ?i_UNIT_NOTES ?i_FIGURES_HELD ?i_LOW ?i_GREAT ?i_COUNT ?i_BY ?i_ROWS ?i_SUMS ?i_TOO_LONG ?i_ROW ?i_COLUMN ?i_SPAN ?i_DEEP ?i_LEFT ?i_WIDE_spans ?i_SIZE_HIGH
  (case A1 | A2 | A3 | A4 | A5 | A6 | A7=>trivial)
  (case a8 | l8 | t8 | e8 | k8=>k_is)
  (case A9 | A10 | A11 | A12 | A13 | A14 | A15 | A16 | A17 | A18 | A19 | A20 | A21 | A22 | A23 | A24 | A25=>trivial)
  (case a26 | l26 | t26 | e26 | k26=>k_is)
  (case A27 | A28 | A29 | A30 | A31 | A32 | A33 | A34 | A35 | A36 | A37 | A38 | A39 | A40 | A41 | A42 | A43 | A44 | A45 | A46 | A47 | A48 | A49 | A50 | A51 | A52 | A53 | A54=>trivial)
  (case a55 | l55 | e55 | k55=>k_is)
  (case A56 | A57 | A58 | A59 | A60 | A61 | A62 | A63 | A64 | A65 | A66 | A67 | A68 | A69 | A70 | A71 | A72 | A73 | A74 | A75 | A76 | A77 | A78 | A79 | A80 | A81 | A82 | A83 | A84=>trivial)
  (case x_UN | x_FG | x_KP | l_KP | x_NN | l_NN | x_PROPERTIES | l_PROPERTIES=>k_is)
  (case hPt=>decide)
  (case hC=>first | k_is | kernel_rfl)
  (case n_isinstance | n_len | n_range | n_sorted | n_int | n_bool | n_list | n_tuple | n_str | n_set | n_enumerate | n_all | n_ValueError | n_any | n_min | n_max | n_sum | n_zip | n_dict | i_ELDER | i_KIND | i_STUFF | i_SORT | i_THING | i_TONE | i_HIGH | i_BLANK | i_WIDE_faces | i_ODD | i_UNIT_WIDE | i_UNIT_BLANK | i_UNIT_HIGH | i_UNIT_NOTES | i_FIGURES_HELD | i_LOW | i_GREAT | i_COUNT | i_BY | i_ROWS | i_SUMS | i_TOO_LONG | i_ROW | i_COLUMN | i_SPAN | i_DEEP | i_LEFT | i_WIDE_spans | i_SIZE_HIGH=>k_is)
