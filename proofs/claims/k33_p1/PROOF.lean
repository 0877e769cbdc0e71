import PyProof.Rows.All
import Wide.All
import OpenK.AllK
import Wide.FinOn
import Lean
import PyProof.EqAt
import PyProof.EqKinds
import PyProof.TupleCall
import KE.KEqDat
import PyProof.CompMap
import PyProof.WalksEnum
import PyProof.EnumMake
import PyProof.Draws
import PyProof.Rows.SetFrom
import PyProof.SetKind
import PyProof.WalksS
import PyProof.CollectWalk
import PyProof.FactsAll.set_1
import PyProof.DictIter
import PyProof.TupleIter
import PyProof.FactsAll.set_2
import PyProof.Rows.SortStr
import PyProof.StrBlockH
import PyProof.Rows.StrClose
import PyProof.FitsInt
import PyProof.Rows.FStr
import PyProof.StrOps2
import PyProof.StrCalls2
import PyProof.Rows.StrJoin2
import PyProof.StrLaws
import PyProof.StrLoop
import PyProof.StrWalks
import PyProof.StrLawsIn
import PyProof.ListRange
import PyProof.ZipIter
import PyProof.SeqI3
import PyProof.WalkInts
import PyProof.Rows.CallKwBuiltin
import PyProof.FactsAll.tuple_2
import PyProof.FactsAll.tuple_3
import PyProof.TupleKey
import PyProof.FactsAll.tuple_0
import PyProof.Rows.Range3
import PyProof.SumAny
import PyProof.DictRoads
import PyProof.DictList
import KE.KDictOf
import PyProof.AttrMissHeap
import PyProof.MeetsDict
import PyProof.FactsAll.dict_3
import KE.KUnpack
import KE.KRevIter
import PyProof.Rows.SortRuns
import PyProof.Rows.SortWalk
import KE.KSortTup
import KE.IntBitsLaws
import PyProof.StrLawsChain
import PyProof.Conv_int
import PyProof.FactsAll.str
import PyProof.StrLawsNeg
import PyProof.NeKinds
import KE.KMinKey
import KE.KLam
import KE.KNestM
import KE.KSortKey
import PyProof.TupleOfSeq
import PySem.Challenge.RW_leafpress_k33_whole_insides
set_option Elab.async false
set_option linter.all false
set_option maxRecDepth 100000
set_option maxHeartbeats 4000000
set_option compiler.extract_closed false
set_option genSizeOf false
noncomputable section
local macro_rules | `(tactic| ac_rfl) => `(tactic| decide +kernel)
open PySem PySem.Spec
local macro_rules | `(tactic| omega) => `(tactic| first | with_reducible assumption | lia)
local macro_rules | `(tactic| trivial) => `(tactic| first | exact Or.inl (by rfl) | exact Or.inr (by rfl))
local macro_rules|`(tactic|let $p:term:=$e)=>do
 let w:Lean.Syntax->Lean.Syntax:=λx=>Lean.mkNode ``Lean.Parser.Tactic.rcasesPatLo #[Lean.mkNode ``Lean.Parser.Tactic.rcasesPatMed #[Lean.mkNullNode #[x]],Lean.mkNullNode]
 let q:=Id.run (p.raw.replaceM λs=>pure (if s.isIdent then some (w (Lean.mkNode ``Lean.Parser.Tactic.rcasesPat.one #[s])) else if s.isOfKind ``Lean.Parser.Term.hole then some (w (Lean.mkNode ``Lean.Parser.Tactic.rcasesPat.ignore #[s[0]])) else none))
 let q:=q.rewriteBottomUp λs=>if s.isOfKind ``Lean.Parser.Term.anonymousCtor then w (s.setKind ``Lean.Parser.Tactic.rcasesPat.tuple) else s
 let r:Lean.TSyntax ``Lean.Parser.Tactic.rcasesPatLo:=⟨q⟩
 `(tactic|rcases $e:term with $r)
local macro_rules|`(‹$h›)=>`(by simpa using $h)
local macro_rules|`(s!$x)=>`(PySem.Str.ofString $(Lean.quote (x.raw[0].isInterpolatedStrLit?.getD "")))
local macro_rules|`(()) => `(by omega)
local macro_rules|`(tactic|show $e) => `(tactic|refine $e)
local macro_rules|`(tactic|ext $p*) => `(tactic|rintro $p*)
local macro_rules|`(∅) => `(by simp)
local macro_rules(kind:=Lean.Parser.Term.structInst)|`(Lean.Parser.Term.structInst|{}) => `(by decide)
local macro_rules|`(~~~$s) => `(($s).heap.objs.size)
local macro_rules|`(!$a) => `(some $a)
local macro_rules|`(↑$x)=>`(($x).map $(Lean.mkIdent `L2.V.ref))
local macro_rules|`(⇑$x)=>`(($x).map $(Lean.mkIdent `L2.V.int))
local macro_rules|`($c:char)=>`($(Lean.mkIdent `pv) $(Lean.quote (c.getChar.toNat-48)))
local macro_rules|`($x⁻¹)=>`(($x).length)
local macro_rules|`(-⟨$x,*⟩)=>`(⟨_,rfl,$x,*⟩)
local macro_rules|`(¬⟨$x,*⟩)=>`(⟨_,rfl,_,rfl,$x,*⟩)
local macro_rules|`(tactic|let $x:ident:=$e)=>`(tactic|have $x:ident:=$e)
local macro_rules|`(tactic|let $x:ident : $t:term := $e)=>`(tactic|have $x:ident : $t := $e)
local macro_rules|`(command|$d:declaration)=>do
 if d.raw[1].getKind== ``Lean.Parser.Command.definition&&d.raw[0].getArgs.all (·.isNone) then return d.raw.modifyArg 0 (·.setArg 4 (Lean.mkNullNode #[Lean.mkNode ``Lean.Parser.Command.noncomputable #[Lean.mkAtom "noncomputable"]])) else Lean.Macro.throwUnsupported
abbrev qA:=@List.length_map
abbrev qB:=@List.getElem?_eq_getElem
abbrev qC:=@PySem.wpAny_bind
abbrev qD:=@List.map_append
abbrev qE:=@List.getElem?_eq_some_iff
abbrev qF:=@PySem.Heap.get?_push_of_some
abbrev qG:=@Nat.le_refl
abbrev qH:=@List.getElem?_map
abbrev qI:=@List.take_of_length_le
abbrev qJ:=@List.length_append
abbrev qK:=@PySem.Heap.lt_size
abbrev qL:=@PySem.wpAny_pure
abbrev qM:=@List.mem_cons
abbrev qN:=@List.mem_of_getElem?
abbrev qO:=@List.take_succ
abbrev qP:=@List.mem_map
abbrev qQ:=@PySem.Heap.get?_push_size
abbrev qR:=@decide_eq_true
abbrev qS:=@List.mem_cons_of_mem
abbrev qT:=@absurd
abbrev qU:=@PySem.Paired.length
abbrev qV:=@decide_eq_false
abbrev qW:=@List.getD_eq_getElem?_getD
abbrev qX:=@if_pos
abbrev qY:=@if_neg
abbrev qZ:=@Option.some.inj
abbrev rA:=@Bool.false_ne_true
abbrev rB:=@Nat.lt_of_lt_of_le
abbrev rC:=@List.size_toArray
abbrev rD:=@Nat.ne_of_lt
abbrev rE:=@List.mem_cons_self
abbrev rF:=@of_decide_eq_true
abbrev rG:=@List.mem_append
abbrev rH:=@List.length_cons
abbrev rJ:=@List.getElem_mem
abbrev rK:=@Nat.le_trans
abbrev rL:=@List.getElem?_append_right
abbrev rM:=@PySem.Heap.size_push
abbrev rN:=@List.mem_append_right
abbrev rO:=@Nat.zero_le
abbrev rP:=@Option.map_eq_some_iff
abbrev rQ:=@Nat.lt_irrefl
abbrev rR:=@List.eq_nil_of_length_eq_zero
abbrev rS:=@List.filter_append
abbrev rT:=@List.mem_singleton
abbrev rV:=@Ne.symm
abbrev rW:=@List.getElem?_cons_succ
abbrev rX:=@List.getElem?_range
abbrev rY:=@List.mem_filter
abbrev rZ:=@List.append_nil
abbrev xA:=@List.mem_iff_getElem
abbrev xB:=@Nat.lt_succ_self
abbrev xC:=@List.mem_range
abbrev xD:=@Nat.le_of_lt
abbrev xE:=@List.getElem?_append_left
abbrev xF:=@Int.le_refl
abbrev xG:=@List.foldl_cons
abbrev xH:=@congrArg
abbrev xI:=@Nat.not_lt_of_le
abbrev xJ:=@PySem.wpAny_mono
abbrev xK:=@Array.length_toList
abbrev xL:=@PySem.Around.under_plainId
abbrev xM:=@List.append_assoc
abbrev xN:=@List.getElem?_eq_none
abbrev xO:=@List.map_map
abbrev xP:=@List.map_cons
abbrev xQ:=@Nat.le_of_not_lt
abbrev xS:=@Nat.not_lt_zero
abbrev xT:=@Nat.lt_succ_of_lt
abbrev xU:=@PySem.wpAny_pyIter_list
abbrev xV:=@PyProof.Rows.callWith_type1
abbrev xW:=@Int.le_trans
abbrev xX:=@PySem.codeAny_builtin
abbrev xY:=@PySem.wpAny_holding
abbrev xZ:=@List.length_range
abbrev x8:=@List.mem_of_mem_take
abbrev yA:=@PySem.Heap.get?_update_other
abbrev yB:=@Nat.lt_of_le_of_lt
abbrev yC:=@List.length_take
abbrev yD:=@List.take_length
abbrev yE:=@Nat.lt_succ_iff_lt_or_eq
abbrev yF:=@PySem.Heap.get?_update_self
abbrev yG:=@List.length_filter_le
abbrev yH:=@List.length_replicate
abbrev yI:=@PySem.W.mg_none_of
abbrev yJ:=@Nat.ne_of_gt
abbrev yK:=@PySem.wpAny_setState_of
abbrev yL:=@PySem.wpAny_truthy_bool
abbrev yM:=@PySem.F.plainAttrs_list
abbrev yN:=@PySem.wpAny_seqItems
abbrev yO:=@Nat.succ_le_succ
abbrev yP:=@Array.getElem?_eq_getElem
abbrev yQ:=@List.mem_map_of_mem
abbrev yR:=@Nat.le_succ
abbrev yS:=@Nat.le_succ_of_le
abbrev yT:=@List.filterMap_append
abbrev yU:=@PySem.plainId_quiet
abbrev yV:=@List.range_succ
abbrev yW:=@PySem.wpAny_askSetting
abbrev yX:=@Nat.le_add_right
abbrev yY:=@PySem.wpAny_newObj_type
abbrev yZ:=@Bool.eq_iff_iff
abbrev y9:=@List.nodup_cons
abbrev uA:=@Bool.and_eq_true
abbrev uB:=@List.mem_filterMap
abbrev uC:=@PySem.wpAny_setField
abbrev uD:=@Int.toNat_natCast
abbrev uE:=@Int.emod_nonneg
abbrev uF:=@List.filterMap_cons
abbrev uG:=@PyProof.Rows.F.plain_set_update_loop
abbrev uH:=@Nat.lt_trans
abbrev uI:=@List.all_eq_true
abbrev uJ:=@List.lookup_cons
abbrev uK:=@PySem.wpAny_call_entry
abbrev uL:=@PySem.wpAny_Call_Name_kw
abbrev uM:=@List.length_singleton
abbrev uN:=@Nat.min_eq_left
abbrev uO:=@PySem.wpAny_passesOwn
abbrev uP:=@List.mem_append_left
abbrev uQ:=@PySem.codeAny_mono
abbrev uR:=@List.getElem?_set_ne
abbrev uS:=@PySem.mem_of_lookup
abbrev uT:=@List.map_eq_nil_iff
abbrev uU:=@List.map_congr_left
abbrev uV:=@List.filter_cons
abbrev uW:=@Nat.succ_ne_zero
abbrev uX:=@Int.emod_lt_of_pos
abbrev uY:=@Int.zero_add
abbrev uZ:=@Int.lt_of_lt_of_le
abbrev u6:=@List.getElem?_set_self
abbrev u7:=@List.length_set
abbrev u8:=@PySem.wpAny_updateSeq
abbrev u9:=@Array.getElem?_toList
abbrev vA:=@Nat.le_sub_one_of_lt
abbrev vB:=@List.any_eq_true
abbrev vC:=@List.any_cons
abbrev vD:=@List.eq_of_mem_replicate
abbrev vE:=@PySem.PassesOwn.never
abbrev vF:=@Nat.le_antisymm
abbrev vG:=@List.length_eq_zero_iff
abbrev vH:=@Array.getElem?_eq_none
abbrev vI:=@List.ext_getElem?
abbrev vJ:=@List.nodup_append
abbrev vK:=@Nat.le_of_lt_succ
abbrev vL:=@Nat.lt_of_succ_lt_succ
abbrev vM:=@List.length_drop
abbrev vN:=@List.map_take
abbrev vO:=@List.mem_of_mem_drop
abbrev vP:=@Option.map_some
abbrev vQ:=@PySem.wpAny_execs_nil
abbrev vR:=@List.Perm.refl
abbrev vS:=@List.drop_zero
abbrev vT:=@List.nodup_nil
abbrev vU:=@List.cons.inj
abbrev vV:=@PySem.F.slot_list_append
abbrev vW:=@PySem.F.slot_list_extend
abbrev vX:=@PySem.F.type_list_append
abbrev vY:=@PySem.F.type_list_extend
abbrev vZ:=@PySem.wpAny_standAt
abbrev v0:=@List.cons_append
abbrev v3:=@PySem.wpAny_isInstance
abbrev v4:=@PySem.call_meets
abbrev v5:=@Int.le_of_lt
abbrev v6:=@List.of_mem_zip
abbrev v7:=@PySem.wpAny_ite_split
abbrev wA:=@PySem.isSubtype_type
abbrev wB:=@List.map_drop
abbrev wC:=@List.map_nil
abbrev wD:=@List.not_lt
theorem O.{u}{α:Sort u}{a:α}:a=a:=rfl
section
open PySem PySem.Spec
abbrev TB:=List (List Int)
abbrev TC:=List (Int×Int)
abbrev TF:=List (Addr×Obj)
abbrev TH:=Value->Shared->Prop
abbrev TJ:=Str->Option Value
abbrev TK:=List (Str×Str)
abbrev TL:=List (List Nat)
abbrev TM:=List Nat
abbrev TN:=List Int
abbrev TQ:=List Addr
abbrev TU:=List Value
abbrev TV:=List Str
abbrev TW:=List Expr
end
namespace L2
open PyProof.Rows
abbrev aV:=Sum Int Str
def ma:aV->Value->Bool
 | .inl k,v=>Value.isInt k v
 | .inr x,v=>Value.isStrOf x v
def Uq(w:World):aV->Int
 | .inl k=>hashInt k
 | .inr x=>hashStr w x
def i7:∀{k:aV} {v:Value},ma k v=true->(∃i t,k=Sum.inl i/\v=Value.int i t)\/(∃x t,k=Sum.inr x/\v=Value.str x t)
 | .inl i, v, h => by
   let⟨t,e⟩:=Value.isInt_shape (k:=i) (v:=v) h
   show .inl ⟨i,t,O,e⟩
 | .inr x, v, h => by
   let⟨t,e⟩:=Value.isStrOf_shape (x:=x) (v:=v) h
   show .inr ⟨x,t,O,e⟩
def Ur(i:Int)(t:Tok):ma (.inl i) (.int i t)=true:=by simp[ma,Value.isInt]
def Us(x:Str)(t:Tok):ma (.inr x) (.str x t)=true:=by simp[ma,Value.isStrOf]
def Ut(a b:Int):decide ((Sum.inl a:aV)=Sum.inl b)=(a == b):=by
 by_cases e:a=b
 .subst e;simp
 .let h:¬(Sum.inl a:aV)=Sum.inl b:=λq=>e (Sum.inl.inj q)
  rw[qV h];show(beq_eq_false_iff_ne.mpr e).symm
def Uu(a b:Str):decide ((Sum.inr a:aV)=Sum.inr b)=decide (a=b):=by
 by_cases e:a=b
 .subst e;simp
 .let h:¬(Sum.inr a:aV)=Sum.inr b:=λq=>e (Sum.inr.inj q)
  rw[qV h,qV e]
def Uv(a:Int)(b:Str):decide ((Sum.inl a:aV)=Sum.inr b)=false:=qV (λq=>nomatch q)
def Uw(a:Str)(b:Int):decide ((Sum.inr a:aV)=Sum.inl b)=false:=qV (λq=>nomatch q)
def eK(prog:Program)(w:World):KeyKind prog w aV where
 is:=ma
 hash:=Uq w
 inj:=λv a b ha hb=>by
  rcases i7 ha with⟨i,t,rfl,rfl⟩ | ⟨x,t,rfl,rfl⟩
  .rcases i7 hb with⟨j,u,rfl,e⟩ | ⟨y,u,rfl,e⟩
   .injection e with e1 _;rw[e1]
   .show nomatch e
  .rcases i7 hb with⟨j,u,rfl,e⟩ | ⟨y,u,rfl,e⟩
   .show nomatch e
   .injection e with e1 _;rw[e1]
 byValue:=λk v h=>by
  rcases i7 h with⟨i,t,rfl,rfl⟩ | ⟨x,t,rfl,rfl⟩<;>rfl
 pyHash:=λhv h=>by
  rcases i7 hv with⟨i,t,rfl,rfl⟩ | ⟨x,t,rfl,rfl⟩
  .show wpAny_pyHash_int h
  .show wpAny_pyHash_str h
 eqBool:=λhu hv h=>by
  rcases i7 hu with⟨i,t,rfl,rfl⟩ | ⟨x,t,rfl,rfl⟩
  .rcases i7 hv with⟨j,u,rfl,rfl⟩ | ⟨y,u,rfl,rfl⟩
   .rw[Ut]at h;show wpAny_eqBool_int h
   .rw[Uv]at h;show SeqAt.EqAt.int_str i t y u _ _ _ _ h
  .rcases i7 hv with⟨j,u,rfl,rfl⟩ | ⟨y,u,rfl,rfl⟩
   .rw[Uw]at h;show SeqAt.EqAt.str_int x t j u _ _ _ _ h
   .rw[Uu]at h;show wpAny_eqBool_str h
 «strs»:=λk x t v h=>by
  rcases i7 h with⟨i,u,rfl,e⟩ | ⟨y,u,rfl,e⟩
  .show nomatch e
  .injection e with e1 _
   subst e1;cases v<;>rfl
def Uy(prog:Program)(w:World)(i:Int)(t:Tok):(eK prog w).is (.inl i) (.int i t)=true:=Ur i t
def JO(prog:Program)(w:World)(x:Str)(t:Tok):(eK prog w).is (.inr x) (.str x t)=true:=Us x t
inductive V where
 | non | bl (b:Bool) | int (i:Int) | str (x:Str) | byt (b:Array UInt8) | flt (b:UInt64) | ref (a:Addr) | ty (n:String)
 deriving DecidableEq
def RelV:V->Value->Prop
 | .non,u=>u=Value.none
 | .bl b,u=>u=Value.bool b
 | .int i,u=>∃t,u=Value.int i t
 | .str x,u=>∃t,u=Value.str x t
 | .byt b,u=>∃t,u=Value.bytes b t
 | .flt b,u=>∃t,u=Value.float b t
 | .ref a,u=>u=Value.ref a
 | .ty n,u=>u=Value.type n
abbrev Vals:List V->List Value->Prop:=Paired RelV
def Vals.length(r:Vals xs us):xs⁻¹=us⁻¹:=qU r
theorem Vals.get:∀{xs:List V} {us:TU} {i:Nat} {x:V},Vals xs us->xs[i]?=!x->∃u,us[i]?=!u/\RelV x u
 | _,_,_,_,.nil,e=>by simp at e
 | _,_,0,_,.cons r _,e=>by simp at e;subst e;show-⟨r⟩
 | _, _, i + 1, x, .cons _ t, e => by
   let⟨u,h1,h2⟩:=Vals.get (i:=i) (x:=x) t ‹e›
   show⟨u,‹h1›,h2⟩
theorem Vals.set(r:RelV x u):∀{xs:List V} {us:TU} (i:Nat),Vals xs us->Vals (xs.set i x) (us.set i u)
 | _,_,_,.nil=>.nil
 | _,_,0,.cons _ t=>.cons r t
 | _,_,i+1,.cons q t=>.cons q (Vals.set r i t)
theorem Vals.append:∀{xs ys:List V} {us ws:TU},Vals xs us->Vals ys ws->Vals (xs++ys) (us++ws)
 | _,_,_,_,.nil,s=>s
 | _,_,_,_,.cons r t,s=>.cons r (Vals.append t s)
theorem Vals.take:∀{xs:List V} {us:TU} (n:Nat),Vals xs us->Vals (xs.take n) (us.take n)
 | _,_,0,_=>.nil
 | _,_,_+1,.nil=>.nil
 | _,_,n+1,.cons r t=>.cons r (Vals.take n t)
theorem Vals.drop:∀{xs:List V} {us:TU} (n:Nat),Vals xs us->Vals (xs.drop n) (us.drop n)
 | _,_,0,r=>r
 | _,_,_+1,.nil=>.nil
 | _,_,n+1,.cons _ t=>Vals.drop n t
def RelO:Option V->Option Value->Prop
 | some v,!u=>RelV v u
 | none,none=>True
 | _,_=>False
def KV{κ:Type}:List (κ×V)->List (κ×Value)->Prop:=Paired λ(p:κ×V) (q:κ×Value)=>p.1=q.1/\RelV p.2 q.2
def kV:aV->V
 | .inl i=>.int i
 | .inr x=>.str x
inductive HO where
 | lst (xs:List V)
 | tup (xs:List V)
 | dK (aj:List (aV×V)) | dT (aj:List (List aV×V))
 | set (S:Int->Bool) (n:Nat)
 | ins (C dx:Addr) (fs:List (Str×V))
 | own (x:Addr)
 | xd (fs:List (Str×V))
 | met (f x:Addr)
 | rng (lo hi:Int)
 | frz (o:Obj) (u:HO)
 | tbl (ps:Array Value)
 | ext (φ:Heap->Prop)
abbrev Hp:=Addr->Option HO
def af(H:Hp)(a:Addr)(o:HO):Hp:=λb=>if b=a then !o else H b
def ar:af H a o a=!o:=by unfold af;rw[qX O]
def aM(h:b≠a):af H a o b=H b:=by unfold af;rw[qY h]
def JP{H:Hp}{a b:Addr}{o u:HO}(h:H a=!o)(h':H b=!u)(d:o≠u):a≠b:=by
 intro e;subst e;rw[h]at h';show d (qZ h')
def cH{H:Hp}{a b:Addr}{o:HO}(h:H a=!o)(h':H b=none):a≠b:=by
 intro e;subst e;rw[h]at h';cases h'
section
variable(P:Program)(w:World)
def ObjOk(H:Hp)(h:Heap)(a:Addr):HO->Prop
 | .lst xs=>xs⁻¹<=sizeLine/\∃(ah:TU) (n:Nat),Vals xs ah/\h.get? a=!{cls:=.type "list",data:=.seq ah.toArray n}
 | .tup xs=>xs⁻¹<=sizeLine/\∃ah:TU,Vals xs ah/\IsTup h a ah.toArray
 | .dK aj=>aj⁻¹<=sizeLine/\(a == sysModules)=false/\∃vs,KV aj vs/\h.DictOf (eK P w) a vs
 | .dT aj=>aj⁻¹<=sizeLine/\(a == sysModules)=false/\∃xs:List (List aV×Addr×Value),
   Paired (λ(p:List aV×V) (q:List aV×Addr×Value)=>p.1=q.1/\H q.2.1=!.tup (p.1.map kV)/\RelV p.2 q.2.2) aj xs /\
   ∃o es ep,h.get? a=!o/\o.ExactDict/\o.data=.dict es ep/\es.toList=xs.map (entryOfKey (tupleKind (eK P w)))/\(xs.map (·.1)).Nodup
 | .set S n=>h.SetOf (intKind P w) a S n
 | .ins C dx fs=>H dx=!.own a/\fs⁻¹<=1000/\dx≠a/\h.get? a=!W.instObj C dx /\
   ∃mA,h.Ns1 dx mA/\(∀f,RelO (fs.lookup f) (mA f))/\Within mA (fs.map (·.1))
 | .own _=>∃o,h.get? a=!o
 | .xd fs=>∃mA,h.Ns1 a mA/\∀f,RelO (fs.lookup f) (mA f)
 | .rng lo hi=>∃t u v,h.get? a=!{cls:=.type "range",data:=.fields #[.int lo t,.int hi u,.int 1 v]}
 | .frz o u=>h.get? a=!o/\ObjOk H h a u
 | .tbl ps=>h.get? a=!{cls:=.none,data:=.fields ps}
 | .met f x=>h.get? a=!W.methodObj (.ref f) (.ref x)
 | .ext φ=>φ h/\(∃o,h.get? a=!o)/\∀h1 h2:Heap,φ h1->(∀o,h1.get? a=!o->h2.get? a=!o)->φ h2
def HOk(H:Hp)(h:Heap):=∀a o,H a=!o->ObjOk P w H h a o
end
section
variable{P:Program}{w:World}{H H':Hp}{h h':Heap}{a:Addr}{o:HO}
def ObjOk.lt(x:ObjOk P w H h a o):a<h.objs.size:=by
 cases o with
 | lst xs=>let⟨_,_,_,_,e⟩:=x;show qK e
 | tup xs=>let⟨_,_,_,p⟩:=x;show p.lt
 | dK aj=>let⟨_,_,_,_,o,_,_,e,_⟩:=x;show qK e
 | dT aj=>let⟨_,_,_,_,o,_,_,e,_⟩:=x;show qK e
 | set S n=>let⟨o,_,_,_,e,_⟩:=x;show qK e
 | ins C dx fs=>let⟨_,_,_,e,_⟩:=x;show qK e
 | own y=>let⟨_,e⟩:=x;show qK e
 | xd fs=>let⟨_,⟨_,_,_,e,_⟩,_⟩:=x;show qK e
 | rng lo hi=>let⟨_,_,_,e⟩:=x;show qK e
 | frz ob u=>let⟨e,_⟩:=x;show qK e
 | tbl ps=>show qK (show h.get? a=!_ from x)
 | met f y=>show qK (show h.get? a=!_ from x)
 | ext φ=>let⟨_,⟨_,e⟩,_⟩:=x;show qK e
theorem Paired.mapP{α β:Type}{F G:α->β->Prop}:∀{JQ:List α} {JR:List β},Paired F JQ JR->(∀a b,F a b->G a b)->Paired G JQ JR
 | _,_,.nil,_=>.nil
 | _,_,.cons r t,f=>.cons (f _ _ r) (Paired.mapP t f)
def ObjOk.stay(x:ObjOk P w H h a o)(k:∀b u,(b=a\/H b=!.own a)->h.get? b=!u->h'.get? b=!u)(ho:∀b,H b=!.own a->H' b=!.own a)(ht:∀b xs,H b=!.tup xs->H' b=!.tup xs):ObjOk P w H' h' a o:=by
 induction o with
 | lst xs=>let⟨z,ah,n,r,e⟩:=x;show⟨z,ah,n,r,k _ _ (.inl O) e⟩
 | tup xs=>let⟨z,ah,r,ob,e,c⟩:=x;show⟨z,ah,r,ob,k _ _ (.inl O) e,c⟩
 | dK aj=>let⟨z,y,vs,r,ob,es,ep,e,c⟩:=x;show⟨z,y,vs,r,ob,es,ep,k _ _ (.inl O) e,c⟩
 | dT aj =>
   let⟨z,y,xs,r,ob,es,ep,e,c⟩:=x
   show⟨z,y,xs,Paired.mapP r λp q z=>⟨z.1,ht _ _ z.2.1,z.2.2⟩,ob,es,ep,k _ _ (.inl O) e,c⟩
 | set S n=>let⟨ob,es,ep,t,e,c⟩:=x;show⟨ob,es,ep,t,k _ _ (.inl O) e,c⟩
 | ins C dx fs =>
   let⟨d,z,ne,e,mA,⟨od,es,ep,e2,c⟩,r⟩:=x
   show⟨ho _ d,z,ne,k _ _ (.inl O) e,mA,⟨od,es,ep,k _ _ (.inr d) e2,c⟩,r⟩
 | own y=>let⟨ob,e⟩:=x;show⟨ob,k _ _ (.inl O) e⟩
 | xd fs=>let⟨mA,⟨od,es,ep,e,c⟩,r⟩:=x;show⟨mA,⟨od,es,ep,k _ _ (.inl O) e,c⟩,r⟩
 | rng lo hi=>let⟨t,u,v,e⟩:=x;show⟨t,u,v,k _ _ (.inl O) e⟩
 | frz ob u ih=>let⟨e,q⟩:=x;show⟨k _ _ (.inl O) e,ih q⟩
 | tbl ps =>
   let e:h.get? a=!{cls:=.none,data:=.fields ps}:=x
   show h'.get? a=!{cls:=.none,data:=.fields ps}
   show k a _ (.inl O) e
 | met f y =>
   let e:h.get? a=!W.methodObj (.ref f) (.ref y):=x
   show h'.get? a=!W.methodObj (.ref f) (.ref y)
   show k a _ (.inl O) e
 | ext φ=>let⟨p,⟨o,e⟩,st⟩:=x;show⟨st _ _ p λo q=>k _ _ (.inl O) q,⟨o,k _ _ (.inl O) e⟩,st⟩
def HOk.lt(x:HOk P w H h)(e:H a=!o):a<h.objs.size:=(x a o e).lt
def HOk.fresh(x:HOk P w H h)(e:h.objs.size<=a):H a=none:=by
 cases q:H a with
 | none=>rfl
 | some u=>show qT (rB (x.lt q) e) (rQ _)
def HOk.kept(x:HOk P w H h)(k:∀b u,h.get? b=!u->h'.get? b=!u):HOk P w H h':=λa o e =>
 (x a o e).stay (λb u _ q=>k b u q) (λ_ q=>q) λ_ _ q=>q
def HOk.laid(x:HOk P w H h)(k:∀b u,h.get? b=!u->h'.get? b=!u)(hp:h.objs.size<=a)(new:ObjOk P w (af H a o) h' a o):HOk P w (af H a o) h':=λb u e=>by
 let hn:=x.fresh hp
 by_cases hb:b=a
 .subst hb;rw[ar]at e;cases e;show new
 .rw[aM hb]at e;show(x b u e).stay (λc v _ q=>k c v q) (λc q=>by rw[aM (cH q hn)];show q) λc xs q=>by rw[aM (cH q hn)];show q
end
def Rd(H:Hp)(a:Addr)(u:HO):=H a=!u\/∃o,H a=!.frz o u
def Rd.ok(r:Rd H a u)(x:HOk P w H h):ObjOk P w H h a u:=by
 rcases r with r | ⟨o,r⟩
 .show x a u r
 .let⟨_,q⟩:=x a _ r;show q
def tz:Option HO->Prop
 | some (.lst _)=>True
 | some (.dK _)=>True
 | some (.dT _)=>True
 | some (.set _ _)=>True
 | some (.ins _ _ _)=>True
 | some (.ext _)=>True
 | _=>False
section
variable{P:Program}{w:World}{H:Hp}{h h':Heap}{x e:Addr}{o':HO}
def HOk.write(ok:HOk P w H h)(mu:tz (H x))(he:e=x\/H e=!.own x)(k:∀b u,b≠e->h.get? b=!u->h'.get? b=!u)(pN:∃u,h'.get? e=!u)(new:ObjOk P w (af H x o') h' x o'):HOk P w (af H x o') h':=λb u q=>by
 let JS:∀c y,H c=!.own y->c≠x:=λc y r z=>by subst z;rw[r]at mu;show mu
 let Uz:∀c xs,H c=!.tup xs->c≠x:=λc xs r z=>by subst z;rw[r]at mu;show mu
 by_cases hb:b=x
 .subst hb;rw[ar]at q;cases q;show new
 .rw[aM hb]at q
  by_cases nT:b=e
  .let q':H b=!.own x:=by
    rcases he with z | z
    .show qT (nT.trans z) hb
    .rw[nT];show z
   rw[q]at q';cases q';let⟨v,hv⟩:=pN;show⟨v,by rw[nT];show hv⟩
  .show(ok b u q).stay (λc v hc r=>k c v ?_ r) (λc r=>by rw[aM (JS c b r)];show r) λc xs r=>by rw[aM (Uz c xs r)];show r
   rcases hc with rfl | hc
   .show nT
   .ext rfl;rcases he with z | z
    .show JS c b hc z
    .rw[hc]at z;cases z;show hb O
end
structure Un(fs ex:TQ)(H H':Hp)(h h':Heap):Prop where
 keep:∀b o,h.get? b=!o->H b=none->b∉fs->b∉ex->h'.get? b=!o
 slot:∀b o,h.get? b=!o->H b=none->b∈fs->b∉ex->∃sl,h'.get? b=!{o with slots:=sl}
 free:∀b o,h.get? b=!o->H b=none->b∉ex->H' b=none
 there:∀b o,h.get? b=!o->b∉ex->∃o',h'.get? b=!o'
 tups:∀b xs,H b=!.tup xs->H' b=!.tup xs
 frzs:∀b o u,H b=!.frz o u->H' b=!.frz o u
 tbls:∀b ps,H b=!.tbl ps->∃more,H' b=!.tbl (ps++more)
section
variable{fs fs' ex JT:TQ}{H H1 H2:Hp}{h h1 h2 h':Heap}{a x e:Addr}{o:HO}
def Un.any(u:Un fs ex H H1 h h1)(q:h.get? b=!ob)(n:H b=none)(hx:b∉ex):∃sl,h1.get? b=!{ob with slots:=sl}:=by
 by_cases hb:b∈fs
 .show u.slot b ob q n hb hx
 .show⟨ob.slots,u.keep b ob q n hb hx⟩
def Un.trans(a:Un fs ex H H1 h h1)(b:Un fs ex H1 H2 h1 h2):Un fs ex H H2 h h2 where
 keep:=λc ob q n hc hx=>b.keep c ob (a.keep c ob q n hc hx) (a.free c ob q n hx) hc hx
 slot:=λc ob q n hc hx=>by
  let⟨sl,e1⟩:=a.slot c ob q n hc hx;let⟨Dt,e2⟩:=b.slot c _ e1 (a.free c ob q n hx) hc hx;show⟨Dt,e2⟩
 free:=λc ob q n hx=>by
  let⟨o',e1⟩:=a.there c ob q hx;show b.free c o' e1 (a.free c ob q n hx) hx
 there:=λc ob q hx=>by
  let⟨o',e1⟩:=a.there c ob q hx;show b.there c o' e1 hx
 tups:=λc xs q=>b.tups c xs (a.tups c xs q)
 frzs:=λc ob xs q=>b.frzs c ob xs (a.frzs c ob xs q)
 tbls:=λc ps q=>by
  let⟨m1,e1⟩:=a.tbls c ps q;let⟨m2,e2⟩:=b.tbls c _ e1;show⟨m1++m2,by rw[e2,Array.append_assoc]⟩
def Un.kept(k:∀b u,h.get? b=!u->h'.get? b=!u):Un fs ex H H h h' :=
 ⟨λb ob q _ _ _=>k b ob q,λb ob q _ _ _=>⟨ob.slots,k b ob q⟩,λ_ _ _ n _=>n,λb ob q _=>⟨ob,k b ob q⟩,λ_ _ q=>q,λ_ _ _ q=>q,λ_ ps q=>⟨#[],by rw[q];simp⟩⟩
def Un.refl:Un fs ex H H h h:=Un.kept λ_ _ q=>q
def Un.laid(k:∀b u,h.get? b=!u->h'.get? b=!u)(hp:h.objs.size<=a)(hn:H a=none):Un fs ex H (af H a o) h h' where
 keep:=λb u q _ _ _=>k b u q
 slot:=λb u q _ _ _=>⟨u.slots,k b u q⟩
 free:=λb u q n _=>by rw[aM (rD (rB (qK q) hp))];show n
 there:=λb u q _=>⟨u,k b u q⟩
 tups:=λb xs q=>by rw[aM (cH q hn)];show q
 frzs:=λb u xs q=>by rw[aM (cH q hn)];show q
 tbls:=λb ps q=>⟨#[],by rw[aM (cH q hn),q];simp⟩
def Un.write(mu:tz (H x))(he:e=x\/H e=!.own x)(k:∀b u,b≠e->h.get? b=!u->h'.get? b=!u)(pN:∃u,h'.get? e=!u):Un fs ex H (af H x o) h h':=by
 let hx:∀b,H b=none->b≠x:=λb n z=>by subst z;rw[n]at mu;show mu
 let hb:∀b,H b=none->b≠e:=λb n z=>by
  subst z;rcases he with r | r
  .show hx b n r
  .rw[n]at r;cases r
 let hm:∀b u,H b=!u->¬tz (!u)->b≠x:=λb u q nm z=>by subst z;rw[q]at mu;show nm mu
 show⟨λb u q n _ _=>k b u (hb b n) q,λb u q n _ _=>⟨u.slots,k b u (hb b n) q⟩,λb u q n _=>by rw[aM (hx b n)];show n,λb u q _=>?_,
  λb xs q=>by rw[aM (hm b _ q λz=>z)];show q,λb u xs q=>by rw[aM (hm b _ q λz=>z)];show q,λb ps q=>⟨#[],by rw[aM (hm b _ q λz=>z),q];simp⟩⟩
 by_cases nT:b=e
 .subst nT;show pN
 .show⟨u,k b u nT q⟩
end
def AE(h:Heap)(H:Hp):TQ:=(List.range h.objs.size).filter λa=>(H a).isSome
def jC(h:Heap)(H:Hp):Heap:=W.hideAll h (AE h H)
def UA(h:Heap)(H:Hp):(jC h H).objs.size=h.objs.size:=W.hideAll_size _ _
def UC(e:h.get? b=!o)(n:H b=none):(jC h H).get? b=!o :=
 W.hideAll_get _ e λhm=>by
  let q:(H b).isSome=true:=(rY.mp hm).2;rw[n]at q;simp at q
def UD(e:(jC h H).get? b=!o):h.get? b=!o/\H b=none:=by
 let e':h.get? b=!o:=W.of_hideAll (AE h H) e;show⟨e',?_⟩;cases q:H b with
 | none=>rfl
 | some x =>
   let hm:b∈AE h H:=rY.mpr ⟨xC.mpr (qK e'),by simp[q]⟩
   let z:(jC h H).get? b=none:=W.hideAll_none (AE h H) hm
   rw[z]at e;cases e
structure Mod(K:W.Frag)(mg:TJ)(base:Heap):Prop where
 kin:K.In base
 glob:base.Ns mainGlobals mg
 blt:∃mb,base.Ns builtinsNs mb/\∀x:Str,x ≠ "__name__" -> mb x=bootBuiltins x
 nolimit:base.NoLimit
structure Cx where
 prog:Program
 w:World
 K:W.Frag
 mg:Str->Option Value
 base:Heap
 A:Around
 N:TV
 s₀:Shared
 H₀:Hp
 env:Env
 outer:List Env
 stack:List Env
 ex:TQ
 fn:Str->Bool
 calm:Bool
 pn:TF
 xe:Value->Shared->Prop
def c8(l:List Env):TQ:=l.filterMap (·.frame)
abbrev Cx.fs(X:Cx):TQ:=c8 X.outer
def pO(sc:Scope)(x:Str):Prop:=sc.names.lookup x=!.local\/sc.names.lookup x=!.cell\/sc.names.lookup x=!.free
def Loc(sc:Scope)(x:Str):Prop:=sc.names.lookup x=!.local\/sc.names.lookup x=!.cell
def Look(env:Env)(h:Heap)(m:TJ)(x:Str)(u:Value):Prop :=
 (env.kindOf x=!.local/\m x=!u)\/((env.kindOf x=!.cell\/env.kindOf x=!.free)/\∃c,env.cells.lookup x=!c/\h.IsCell c (!u))
structure Cx.Ok(X:Cx):Prop where
 mod:Mod X.K X.mg X.base
 kind:X.env.scope.kind=.function
 glob:X.env.globals=mainGlobals
 blt:X.env.builtins=builtinsNs
 above: ~~~X.s₀<=X.env.locals
 inj:∀x y c,X.env.cells.lookup x=!c->X.env.cells.lookup y=!c->x=y
 has:∀x,(X.env.kindOf x=!.cell\/X.env.kindOf x=!.free)->∃c,X.env.cells.lookup x=!c
 cab:∀x c,X.fn x=true->X.env.cells.lookup x=!c-> ~~~X.s₀<=c
 hd:X.calm=true->X.A.handled=none
 frames:X.A.frames=!X.stack
 stk:X.stack=X.outer\/(X.stack=X.env::X.outer/\X.env.frame=!X.env.locals)
 exf:∀b∈X.ex,b≠X.env.locals/\∀x c,X.env.cells.lookup x=!c->c≠b
 bs:∀b o,X.base.get? b=!o->X.s₀.heap.get? b=!o/\X.H₀ b=none
 bsz:X.base.objs.size<= ~~~X.s₀
 noex:∀b o,X.base.get? b=!o->b∉X.ex
 exfs:∀b∈X.ex,b∉X.fs
 funs:X.s₀.heap.FunFrames X.base X.outer
 frf:∀b∈X.fs,X.H₀ b=none
structure Inv(X:Cx)(aa:TF)(σ:List (Option V))(H:Hp)(s:Shared):Prop where
 ok:X.Ok
 os:s.os=X.s₀.os
 bare:AllBare s.gens
 base:Un X.fs X.ex X.H₀ H X.s₀.heap s.heap
 loc:∃m,s.heap.Ns X.env.locals m/\∀(i:Nat) (x:Str) (v:V),X.N[i]?=!x->σ[i]?=!!v->pO X.env.scope x->∃u,RelV v u/\Look X.env s.heap m x u
 cell:∀x c,X.env.cells.lookup x=!c->∃v,s.heap.IsCell c v
 free:H X.env.locals=none
 freeC:∀x c,X.env.cells.lookup x=!c->H c=none
 pin:∀p∈X.pn++aa,s.heap.get? p.1=!p.2/\H p.1=none/\p.1≠X.env.locals/\p.1∉X.fs/\∀v,p.2.data≠.cell v
 hok:HOk X.prog X.w H s.heap
 len:σ⁻¹=X.N.length
section
variable{X:Cx}{aa:TF}{σ:List (Option V)}{H H':Hp}{s:Shared}{h':Heap}
def Cx.Ok.nofr(ok:X.Ok)(e:X.base.get? b=!o):b∉X.fs:=λhb=>by
 have:=(ok.funs.mem hb).1;rw[e]at this;cases this
def Inv.bs(I:Inv X aa σ H s):∀b o,X.base.get? b=!o->s.heap.get? b=!o/\H b=none:=λb o e =>
 ⟨I.base.keep b o (I.ok.bs b o e).1 (I.ok.bs b o e).2 (I.ok.nofr e) (I.ok.noex b o e),I.base.free b o (I.ok.bs b o e).1 (I.ok.bs b o e).2 (I.ok.noex b o e)⟩
def Inv.bk(I:Inv X aa σ H s):∀b o,X.base.get? b=!o->s.heap.get? b=!o:=λb o e=>(I.bs b o e).1
def Inv.mod(I:Inv X aa σ H s):Mod X.K X.mg X.base:=I.ok.mod
def Inv.kIn(I:Inv X aa σ H s):X.K.In s.heap:=I.ok.mod.kin.keeps I.bk
def Inv.lt(I:Inv X aa σ H s):X.env.locals< ~~~s:=let⟨_,hn,_⟩:=I.loc;hn.lt
def Inv.sz(I:Inv X aa σ H s): ~~~X.s₀<= ~~~s:=rK I.ok.above (xD I.lt)
def Inv.nofs(I:Inv X aa σ H s)(h: ~~~s<=a):a∉X.fs:=λhb=>by
 let⟨_,o,ho,_⟩:=I.ok.funs.mem hb;show qT (rB (qK ho) (rK I.sz h)) (rQ _)
def Inv.cne(I:Inv X aa σ H s):∀x c,X.env.cells.lookup x=!c->c≠X.env.locals:=λx c e z=>by
 let⟨v,o,ho,hd⟩:=I.cell x c e;let⟨m,⟨o',es,ep,kC,Du,_⟩,_⟩:=I.loc;rw[z,kC]at ho;cases ho;rw[Du]at hd;cases hd
def Inv.funs(I:Inv X aa σ H s):s.heap.FunFrames X.base X.outer:=by
 have all:∀(l:List Env),(∀b∈c8 l,b∈X.fs)->X.s₀.heap.FunFrames X.base l->s.heap.FunFrames X.base l:=by
  intro l
  induction l with
  | nil=>intro _ _;trivial
  | cons env r ih =>
    intro hs hl
    let⟨hk,⟨L,o,hf,hn,ho,hd⟩,hr⟩:=hl
    let hL:L∈X.fs:=hs L (by unfold c8;rw[uF,hf];show rE)
    let⟨sl,e⟩:=I.base.slot L o ho (I.ok.frf L hL) hL λz=>I.ok.exfs L z hL
    show⟨hk,⟨L,_,hf,hn,e,hd⟩,ih (λb hb=>hs b (by unfold c8;rw[uF,hf];show qS _ hb)) hr⟩
 show all X.outer (λ_ hb=>hb) I.ok.funs
def Inv.stack(I:Inv X aa σ H s):s.heap.FunFrames X.base X.stack:=by
 rcases I.ok.stk with e | ⟨e,hf⟩
 .rw[e];show I.funs
 .rw[e];let⟨m,hn,_⟩:=I.loc;show .cons (by rw[I.ok.kind];decide) hf hn ?_ I.funs;show Heap.get?_none_of_le (rK I.ok.bsz I.ok.above)
def Inv.stkSub(I:Inv X aa σ H s):∀b∈c8 X.stack,b∈X.env.locals::X.fs:=λb hb=>by
 rcases I.ok.stk with e | ⟨e,hf⟩
 .rw[e]at hb;show qS _ hb
 .rw[e]at hb;unfold c8 at hb;rw[uF,hf]at hb;show hb
def Inv.stkFree(I:Inv X aa σ H s):∀b∈c8 X.stack,H b=none:=λb hb=>by
 rcases qM.mp (I.stkSub b hb)with e | hb
 .rw[e];show I.free
 .let⟨_,o,ho,_⟩:=I.ok.funs.mem hb;show I.base.free b o ho (I.ok.frf b hb) λz=>I.ok.exfs b z hb
def Inv.step{g':Array GenState}{t':Nat}{d':Drawn}{ch:TQ}(I:Inv X aa σ H s)(eL:∀b∈ch,(b∈X.ex\/~~~X.s₀<=b)/\b≠X.env.locals/\(∀x c,X.env.cells.lookup x=!c->c≠b)/\∀p∈X.pn++aa,p.1≠b)(keep:∀b o,b≠X.env.locals->b∉X.fs->b∉ch->s.heap.get? b=!o->H b=none->h'.get? b=!o)(slot:∀b o,b≠X.env.locals->b∈X.fs->b∉ch->s.heap.get? b=!o->H b=none->∃sl,h'.get? b=!{o with slots:=sl})(free:∀b o,b∉ch->s.heap.get? b=!o->H b=none->H' b=none)(there:∀b o,b∉ch->s.heap.get? b=!o->∃o',h'.get? b=!o')(tups:∀b xs,H b=!.tup xs->H' b=!.tup xs)(frzs:∀b o u,H b=!.frz o u->H' b=!.frz o u)(tbls:∀b ps,H b=!.tbl ps->∃more,H' b=!.tbl (ps++more))(ns:∀m,s.heap.Ns X.env.locals m->h'.Ns X.env.locals m)(hok:HOk X.prog X.w H' h')(hg:AllBare g') :
  Inv X aa σ H' {s with heap:=h',gens:=g',drawn:=d',toks:=t'}:=by
 let JU:∀b o,X.s₀.heap.get? b=!o->b≠X.env.locals:=λb o e=>rD (rB (qK e) I.ok.above)
 let pP:∀b o,X.s₀.heap.get? b=!o->b∉X.ex->b∉ch:=λb o e hx hb=>by
  rcases(eL b hb).1 with z | z
  .show hx z
  .show qT (rB (qK e) z) (rQ _)
 let JV:∀x c,X.env.cells.lookup x=!c->∀v,s.heap.IsCell c v->h'.IsCell c v:=λx c e v ⟨o,ho,hd⟩=>by
  let tD:c∉ch:=λz=>(eL c z).2.2.1 x c e O
  by_cases hc:c∈X.fs
  .let⟨sl,q⟩:=slot c o (I.cne x c e) hc tD ho (I.freeC x c e);show⟨_,q,hd⟩
  .show⟨o,keep c o (I.cne x c e) hc tD ho (I.freeC x c e),hd⟩
 show⟨I.ok,I.os,hg,⟨λb o e n hb hx=>?_,λb o e n hb hx=>?_,λb o e n hx=>?_,λb o e hx=>?_,λb xs e=>tups b xs (I.base.tups b xs e),λb o xs e=>frzs b o xs (I.base.frzs b o xs e),λb ps e=>?_⟩,?_,λx c e=>?_,?_,λx c e=>?_,λp hp=>?_,hok,I.len⟩
 .show keep b o (JU b o e) hb (pP b o e hx) (I.base.keep b o e n hb hx) (I.base.free b o e n hx)
 .let⟨sl,e1⟩:=I.base.slot b o e n hb hx;let⟨Dt,e2⟩:=slot b _ (JU b o e) hb (pP b o e hx) e1 (I.base.free b o e n hx);show⟨Dt,e2⟩
 .let⟨o',e1⟩:=I.base.there b o e hx;show free b o' (pP b o e hx) e1 (I.base.free b o e n hx)
 .let⟨o',e1⟩:=I.base.there b o e hx;show there b o' (pP b o e hx) e1
 .let⟨m1,e1⟩:=I.base.tbls b ps e;let⟨m2,e2⟩:=tbls b _ e1;show⟨m1++m2,by rw[e2,Array.append_assoc]⟩
 .let⟨m,hn,hl⟩:=I.loc;show⟨m,ns m hn,λi x v e1 e2 e3=>?_⟩;let⟨u,r,l⟩:=hl i x v e1 e2 e3;show⟨u,r,?_⟩;rcases l with l | ⟨k,c,e,z⟩
  .show .inl l
  .show .inr ⟨k,c,e,JV x c e _ z⟩
 .let⟨v,z⟩:=I.cell x c e;show⟨v,JV x c e v z⟩
 .let⟨m,⟨o,_,_,ho,_⟩,_⟩:=I.loc;show free _ o (λz=>(eL _ z).2.1 O) ho I.free
 .let⟨v,o,ho,hd⟩:=I.cell x c e;show free c o (λz=>(eL c z).2.2.1 x c e O) ho (I.freeC x c e)
 .let⟨e,n,ne,nf,d⟩:=I.pin p hp;let tD:p.1∉ch:=λz=>(eL p.1 z).2.2.2 p hp O
  show⟨keep p.1 p.2 ne nf tD e n,free p.1 p.2 tD e n,ne,nf,d⟩
def Inv.un{t':Nat}(I:Inv X aa σ H s)(u:Un X.fs [] H H' s.heap h')(hok:HOk X.prog X.w H' h'):Inv X aa σ H' {s with heap:=h',toks:=t'}:=by
 let⟨m,⟨o,es,ep,ho,r⟩,_⟩:=id I.loc;let⟨sl,hL⟩:=u.any ho I.free ∅;show I.step (g':=s.gens) (d':=s.drawn) (ch:=[]) (λ_ z=>nomatch z) (λb o _ hb _ e n=>u.keep b o e n hb ∅) (λb o _ hb _ e n=>u.slot b o e n hb ∅) (λb o _ e n=>u.free b o e n ∅) (λb o _ e=>u.there b o e ∅) u.tups u.frzs u.tbls (λm' hm=>by
  let⟨o',nU,tF,kC,r'⟩:=hm;rw[ho]at kC;cases kC;show⟨_,nU,tF,hL,r'⟩) hok I.bare
def Inv.call{g':Array GenState}{t':Nat}{d':Drawn}{ch:TQ}(I:Inv X aa σ H s)(u:Un (c8 X.stack) ch H H' s.heap h')(hok:HOk X.prog X.w H' h')(hg:AllBare g')(eL:∀b∈ch,(b∈X.ex\/~~~X.s₀<=b)/\b≠X.env.locals/\(∀x c,X.env.cells.lookup x=!c->c≠b)/\∀p∈X.pn++aa,p.1≠b) :
  Inv X aa σ H' {s with heap:=h',gens:=g',drawn:=d',toks:=t'}:=by
 let⟨m,⟨o,es,ep,ho,r⟩,_⟩:=id I.loc;let⟨sl,hL⟩:=u.any ho I.free λz=>(eL _ z).2.1 O
 show I.step (ch:=ch) eL (λb o hL hb hc e n=>u.keep b o e n (λz=>(qM.mp (I.stkSub b z)).elim hL hb) hc) (λb o _ _ hc e n=>u.any e n hc) (λb o hc e n=>u.free b o e n hc) (λb o hc e=>u.there b o e hc) u.tups u.frzs u.tbls (λm' hm=>by
  let⟨o',nU,tF,kC,r'⟩:=hm;rw[ho]at kC;cases kC;show⟨_,nU,tF,hL,r'⟩) hok hg
def Inv.turned{t':Nat}{it:Addr}(I:Inv X aa σ H s)(k:∀b o,b≠it->s.heap.get? b=!o->h'.get? b=!o)(hn:H it=none)(hL:it≠X.env.locals)(h1:it∈X.ex\/~~~X.s₀<=it)(h2:∀x c,X.env.cells.lookup x=!c->c≠it)(h3:∀p∈X.pn++aa,p.1≠it):Inv X aa σ H {s with heap:=h',toks:=t'}:=by
 let JW:∀b u,H b=!u->b≠it:=λb u e z=>by rw[z,hn]at e;cases e
 show I.step (g':=s.gens) (d':=s.drawn) (ch:=[it]) (λb hb=>?_) (λb o _ _ hc e _=>k b o (λz=>hc (by simp[z])) e) (λb o _ _ hc e _=>⟨o.slots,k b o (λz=>hc (by simp[z])) e⟩) (λ_ _ _ _ n=>n)
  (λb o hc e=>⟨o,k b o (λz=>hc (by simp[z])) e⟩) (λ_ _ e=>e) (λ_ _ _ e=>e) (λb ps e=>⟨#[],by rw[e];simp⟩) (λm hm=>?_) (λb u e=>?_) I.bare
 .let e:b=it:=‹hb›
  subst e;show⟨h1,hL,h2,h3⟩
 .let⟨o,es,ep,ho,r⟩:=hm;show⟨o,es,ep,k _ o (rV hL) ho,r⟩
 .show(I.hok b u e).stay (λc v hc q=>k c v ?_ q) (λ_ q=>q) λ_ _ q=>q
  rcases hc with z | z
  .rw[z];show JW b u e
  .show JW c _ z
def Inv.tok(I:Inv X aa σ H s)(t:Nat):Inv X aa σ H {s with toks:=t}:=I.un (h':=s.heap) (t':=t) Un.refl I.hok
def Inv.kept{t':Nat}(I:Inv X aa σ H s)(k:∀b u,s.heap.get? b=!u->h'.get? b=!u):Inv X aa σ H {s with heap:=h',toks:=t'}:=I.un (Un.kept k) (I.hok.kept k)
def Inv.laid{t':Nat}(I:Inv X aa σ H s)(k:∀b u,s.heap.get? b=!u->h'.get? b=!u)(hp: ~~~s<=a)(new:ObjOk X.prog X.w (af H a o) h' a o) :
  Inv X aa σ (af H a o) {s with heap:=h',toks:=t'}:=I.un (Un.laid k hp (I.hok.fresh hp)) (I.hok.laid k hp new)
def Inv.write{t':Nat}(I:Inv X aa σ H s)(mu:tz (H x))(he:e=x\/H e=!.own x)(k:∀b u,b≠e->s.heap.get? b=!u->h'.get? b=!u)(pN:∃u,h'.get? e=!u)(new:ObjOk X.prog X.w (af H x o) h' x o):Inv X aa σ (af H x o) {s with heap:=h',toks:=t'}:=I.un (Un.write mu he k pN) (I.hok.write mu he k pN new)
def Inv.pins_of{JX:TF}(I:Inv X aa σ H s)(h:∀p∈JX,s.heap.get? p.1=!p.2/\H p.1=none/\p.1≠X.env.locals/\p.1∉X.fs/\∀v,p.2.data≠.cell v):Inv X JX σ H s :=
 ⟨I.ok,I.os,I.bare,I.base,I.loc,I.cell,I.free,I.freeC,λp hp=>(rG.mp hp).elim (λz=>I.pin p (uP _ z)) (h p),I.hok,I.len⟩
def JY{N:TV}(hN:N.Nodup){i j:Nat}{x:Str}(a:N[i]?=!x)(b:N[j]?=!x):i=j:=by
 let⟨h1,e1⟩:=qE.mp a;let⟨h2,e2⟩:=qE.mp b;show(List.getElem_inj hN).mp (e1.trans e2.symm)
def JZ{M:Model}{A:Around}{E:TH}{i:Nat}{x:Str}{v:V}{u:Value}{Q:Unit->Shared->Prop}(I:Inv X aa σ H s)(hN:X.N.Nodup)(hi:X.N[i]?=!x)(hx:Loc X.env.scope x)(r:RelV v u)(h:∀s',Inv X aa (σ.set i (!v)) H s'->(∃a,Heap.SameBut a s.heap s'.heap/\(a=X.env.locals\/X.env.cells.lookup x=!a))->Q Unit.unit s')(hf:X.fn x=true\/X.env.scope.names.lookup x=!.local:=by first | show .inl rfl | show .inr rfl | assumption):wpAny M A (storeName X.env x u) Q E s:=by
 let⟨m,hn,hl⟩:=id I.loc;let UE:(X.env.scope.kind == .class || (X.env.scope.kind == .module && X.env.locals != X.env.globals))=false:=by rw[I.ok.kind];rfl
 let J0:i<σ⁻¹:=by rw[I.len];show(qE.mp hi).1
 let cne:=I.cne;let J1:∀{a:Addr} {h':Heap},(∃o,s.heap.get? a=!o/\H a=none)->Heap.SameBut a s.heap h'->HOk X.prog X.w H h':=λ{a h'} ha hs b ob e=>by
  let⟨_,_,J2⟩:=ha;show(I.hok b ob e).stay (λc w' hc q=>(hs.2 c ?_).trans q) (λ_ q=>q) λ_ _ q=>q
  ext rfl;rcases hc with rfl | hc
  .rw[J2]at e;cases e
  .rw[J2]at hc;cases hc
 rcases hx with hk | hk
 .refine wpAny_storeName_local hk hn (λh' tG hs=>?_) UE;let⟨oL,_,_,UH,_⟩:=id hn;show h _ ⟨I.ok,I.os,I.bare,⟨λb o e n hb hx=>?_,λb o e n hb hx=>?_,I.base.free,λb o e hx=>?_,I.base.tups,I.base.frzs,I.base.tbls⟩,⟨_,tG,λj y v' e1 e2 e3=>?_⟩,λy c e=>?_,I.free,I.freeC,λp hp=>?_,J1 ⟨oL,UH,I.free⟩ hs,‹I.len›⟩ ⟨_,hs,.inl O⟩
  .show(hs.2 b (rD (rB (qK e) I.ok.above))).trans (I.base.keep b o e n hb hx)
  .let⟨sl,e1⟩:=I.base.slot b o e n hb hx;show⟨sl,(hs.2 b (rD (rB (qK e) I.ok.above))).trans e1⟩
  .let⟨o',e1⟩:=I.base.there b o e hx;show⟨o',(hs.2 b (rD (rB (qK e) I.ok.above))).trans e1⟩
  .by_cases hj:j=i
   .subst hj;rw[hi]at e1;cases e1;rw[u6 J0]at e2;cases e2;show⟨u,r,.inl ⟨hk,∅⟩⟩
   .rw[uR (rV hj)]at e2;let⟨u',r',q⟩:=hl j y v' e1 e2 e3;show⟨u',r',?_⟩;rcases q with⟨k,e⟩ | ⟨k,c,e,z⟩
    .show .inl ⟨k,?_⟩;have:y≠x:=λe=>hj (JY hN e1 (e ▸ hi))
     simp[this,e]
    .show .inr ⟨k,c,e,z.sameBut hs (cne y c e)⟩
  .let⟨w',z⟩:=I.cell y c e;show⟨w',z.sameBut hs (cne y c e)⟩
  .let⟨e,n,ne,nf,d⟩:=I.pin p hp;show⟨(hs.2 p.1 ne).trans e,n,ne,nf,d⟩
 .have tI:X.fn x=true:=by
   rcases hf with z | z
   .show z
   .rw[z]at hk;cases hk
  let⟨c,hc⟩:=I.ok.has x (.inl hk);let⟨w',z⟩:=I.cell x c hc;show wpAny_storeName_cell I.ok.kind hk hc z (λh' eO hs=>?_);let⟨oc,J3,UI⟩:=id z;show h {s with heap:=h'} ⟨I.ok,I.os,I.bare,⟨λb o e n hb hx=>?_,λb o e n hb hx=>?_,I.base.free,λb o e hx=>?_,I.base.tups,I.base.frzs,I.base.tbls⟩,⟨m,hn.sameBut hs (rV (cne x c hc)),λj y v' e1 e2 e3=>?_⟩,λy c' e=>?_,I.free,I.freeC,λp hp=>?_,J1 ⟨oc,J3,I.freeC x c hc⟩ hs,‹I.len›⟩ ⟨c,hs,.inr hc⟩
  .show(hs.2 b (rD (rB (qK e) (I.ok.cab x c tI hc)))).trans (I.base.keep b o e n hb hx)
  .let⟨sl,e1⟩:=I.base.slot b o e n hb hx;show⟨sl,(hs.2 b (rD (rB (qK e) (I.ok.cab x c tI hc)))).trans e1⟩
  .let⟨o',e1⟩:=I.base.there b o e hx;show⟨o',(hs.2 b (rD (rB (qK e) (I.ok.cab x c tI hc)))).trans e1⟩
  .by_cases hj:j=i
   .subst hj;rw[hi]at e1;cases e1;rw[u6 J0]at e2;cases e2;show⟨u,r,.inr ⟨.inl hk,c,hc,eO⟩⟩
   .rw[uR (rV hj)]at e2;let⟨u',r',q⟩:=hl j y v' e1 e2 e3;show⟨u',r',?_⟩;rcases q with q | ⟨k,c',e,z'⟩
    .show .inl q
    .show .inr ⟨k,c',e,z'.sameBut hs ?_⟩;ext rfl;show hj (JY hN e1 (I.ok.inj _ _ _ e hc ▸ hi))
  .by_cases jD:c'=c
   .subst jD;show⟨_,eO⟩
   .let⟨w2,z2⟩:=I.cell y c' e;show⟨w2,z2.sameBut hs jD⟩
  .let⟨e,n,ne,nf,d⟩:=I.pin p hp;show⟨(hs.2 p.1 ?_).trans e,n,ne,nf,d⟩;intro q;rw[q,J3]at e;let q':oc=p.2:=qZ e;show d w' (by rw[<-q'];show UI)
def Dw{E:TH}{i:Nat}{Q:Unit->Shared->Prop}(I:Inv X aa σ H s)(hN:X.N.Nodup)(hi:X.N[i]?=!x)(hx:Loc X.env.scope x)(r:RelV v u)(h:∀s',Inv X aa (σ.set i (!v)) H s'->Q Unit.unit s')(hf:X.fn x=true\/X.env.scope.names.lookup x=!.local:=by first | show .inl rfl | show .inr rfl | assumption):wpAny M A (storeName X.env x u) Q E s :=
 JZ I hN hi hx r (λs' I' _=>h s' I') hf
def Inv.call'(I:Inv X aa σ H s)(ho:s'.os=s.os)(u:Un (c8 X.stack) ch H H' s.heap s'.heap)(hok:HOk X.prog X.w H' s'.heap)(hg:AllBare s'.gens)(eL:∀b∈ch,(b∈X.ex\/~~~X.s₀<=b)/\b≠X.env.locals/\(∀x c,X.env.cells.lookup x=!c->c≠b)/\∀p∈X.pn++aa,p.1≠b):Inv X aa σ H' s':=by
 let⟨h',g',d',t',o'⟩:=s';let e:o'=s.os:=ho;subst e;show I.call (g':=g') (t':=t') (d':=d') u hok hg eL
end
abbrev XK:=Value->Option Addr->Hp->Prop
abbrev St:=List (Option V)
abbrev VK:=V->Hp->Prop
abbrev TE:=St->Hp->VK->Prop
abbrev TT:=St->Hp->(Bool->Hp->Prop)->Prop
abbrev TA:=St->Hp->(List V->Hp->Prop)->Prop
structure iH where
 nx:St->Hp->Prop
 rt:VK
 bk:St->Hp->Prop:=λ_ _=>False
 ct:St->Hp->Prop:=λ_ _=>False
abbrev TS:=iH->St->Hp->Prop
def EP(X:Cx)(aa:TF)(σ:St)(Q:VK)(u:Value)(s':Shared):=∃v H',Inv X aa σ H' s'/\RelV v u/\Q v H'
def TP(X:Cx)(aa:TF)(σ:St)(Q:Bool->Hp->Prop)(b:Bool)(s':Shared):=∃H',Inv X aa σ H' s'/\Q b H'
def AP(X:Cx)(aa:TF)(σ:St)(Q:List V->Hp->Prop)(us:TU)(s':Shared):=∃vs H',Inv X aa σ H' s'/\Vals vs us/\Q vs H'
def SP(X:Cx)(aa:TF)(D:iH)(f:Flow)(s':Shared):Prop :=
 match f with
 | .next=>∃ae H',Inv X aa ae H' s'/\D.nx ae H'
 | .brk=>∃ae H',Inv X aa ae H' s'/\D.bk ae H'
 | .cont=>∃ae H',Inv X aa ae H' s'/\D.ct ae H'
 | .ret u=>∃v ae H',Inv X aa ae H' s'/\RelV v u/\D.rt v H'
def PE(X:Cx)(e:Expr)(t:TE):Prop :=
 ∀(aa:TF) (s:Shared) (σ:St) (H:Hp) (Q:VK),Inv X aa σ H s->t σ H Q->wpAny (model X.prog X.w) X.A (eval e X.env) (EP X aa σ Q) X.xe s
def PT(X:Cx)(e:Expr)(t:TT):Prop :=
 ∀(aa:TF) (s:Shared) (σ:St) (H:Hp) (Q:Bool->Hp->Prop),Inv X aa σ H s->t σ H Q->wpAny (model X.prog X.w) X.A (isTrue e X.env (eval e X.env)) (TP X aa σ Q) X.xe s
def PW(X:Cx)(e:Expr)(t:TT):Prop :=
 ∀(AF:Sem Value) (aa:TF) (s:Shared) (σ:St) (H:Hp) (Q:Bool->Hp->Prop),Inv X aa σ H s->t σ H Q->wpAny (model X.prog X.w) X.A (isTrue e X.env AF) (TP X aa σ Q) X.xe s
def PW.pt(h:PW X e t):PT X e t:=h _
def PA(X:Cx)(es:TW)(t:TA):Prop :=
 ∀(pos:Pos) (aa:TF) (s:Shared) (σ:St) (H:Hp) (Q:List V->Hp->Prop),Inv X aa σ H s->t σ H Q->wpAny (model X.prog X.w) X.A (spliced (backTo pos (starEach es X.env))) (AP X aa σ Q) X.xe s
def PS(X:Cx)(st:Stmt)(t:TS):Prop :=
 ∀(aa:TF) (s:Shared) (σ:St) (H:Hp) (D:iH),Inv X aa σ H s->t D σ H->wpAny (model X.prog X.w) X.A (exec st X.env) (SP X aa D) X.xe s
def PSs(X:Cx)(st:List Stmt)(t:TS):Prop :=
 ∀(aa:TF) (s:Shared) (σ:St) (H:Hp) (D:iH),Inv X aa σ H s->t D σ H->wpAny (model X.prog X.w) X.A (execs st X.env) (SP X aa D) X.xe s
def aR{α:Type}{t:Sem α}{Q Q':α->Shared->Prop}{E:TH}(h:wpAny M A t Q E s)(hQ:∀a s,Q a s->Q' a s):wpAny M A t Q' E s:=xJ h hQ λ_ _ x=>x
section
variable{X:Cx}
inductive jE(i:Nat):St->Hp->VK->Prop
|m v:σ[i]?=!!v->Q v H->jE i σ H Q
def tC(v:V):TE:=λ_ H Q=>Q v H
def UJ{i:Nat}(hN:X.N[i]?=!x)(hv:pO X.env.scope x)(hd:(x == ("__debug__" : Str))=false:=by decide)(fS:(x == ("__classdict__" : Str))=false:=by decide):PE X (.Name x pos) (jE i):=by
 intro aa s σ H Q I h;let⟨v,e,h⟩:=h;let⟨m,hn,hl⟩:=I.loc;let⟨u,r,l⟩:=hl i x v hN e hv;let fin:EP X aa σ Q u s:=⟨v,H,I,r,h⟩;rcases l with⟨hk,hm⟩ | ⟨hk,c,hc,jF⟩
 .show wpAny_Name (wpAny_loadName_local I.ok.kind hk hn hm fin) hd
 .rcases hk with hk | hk
  .show wpAny_Name (wpAny_loadName_cell I.ok.kind hk hc jF fin) hd
  .show wpAny_Name (wpAny_loadName_free I.ok.kind hk hc jF fin fS) hd
def ao{i j pos}:PE X (.Constant (.int i) j pos) (tC (.int i)):=λ_ _ _ H _ I h=>wpAny_Constant_int ⟨.int i,H,I.tok _,⟨_,O⟩,h⟩
def gp{b j pos}:PE X (.Constant (.bool b) j pos) (tC (.bl b)):=λ_ _ _ H _ I h=>Constant_bool ⟨.bl b,H,I,O,h⟩
def pQ{j pos}:PE X (.Constant .none j pos) (tC .non):=λ_ _ _ H _ I h=>Constant_none ⟨.non,H,I,O,h⟩
def aU{x j pos}:PE X (.Constant (.str x) j pos) (tC (.str x)):=λ_ _ _ H _ I h=>Calls.Constant_str ⟨.str x,H,I.tok _,⟨_,O⟩,h⟩
def Gl(X:Cx)(x:Str):=X.env.kindOf x=!.globalImplicit
def J4{E:TH}{aa:TF}{Q:TH}(I:Inv X aa σ H s)(hg:Gl X x)(hm:X.mg x=!u)(h:Q u s)(hd:(x == ("__debug__" : Str))=false:=by decide):wpAny (model X.prog X.w) X.A (eval (.Name x pos) X.env) Q E s :=
 Calls.Name_function_global I.ok.kind hg (Calls.loadGlobal_global (by rw[I.ok.glob];show I.mod.glob.keeps I.bk) hm h) hd
def jG{E:TH}{aa:TF}{Q:TH}(I:Inv X aa σ H s)(hg:Gl X x)(hm:X.mg x=none)(hv:bootBuiltins x=!u)(h:Q u s)(hn:x ≠ "__name__":=by decide)(hd:(x == ("__debug__" : Str))=false:=by decide):wpAny (model X.prog X.w) X.A (eval (.Name x pos) X.env) Q E s:=by
 let⟨mb,h1,h2⟩:=I.mod.blt;show Calls.Name_function_global I.ok.kind hg (Calls.loadGlobal_builtin (by rw[I.ok.glob];show I.mod.glob.keeps I.bk) hm (by rw[I.ok.blt];show h1.keeps I.bk) ((h2 x hn).trans hv) h) hd
def Dx(hg:Gl X x)(hm:X.mg x=!u)(r:RelV v u)(hd:(x == ("__debug__" : Str))=false:=by decide):PE X (.Name x pos) (tC v) :=
 λ_ _ _ H _ I h=>J4 I hg hm ⟨v,H,I,r,h⟩ hd
variable{a b:Expr}{ta tb:TE}{pos:Pos}
def PC(X:Cx)(op:CmpOp)(a b:Expr)(t:TE):Prop :=
 ∀(aa:TF) (s:Shared) (σ:St) (H:Hp) (Q:VK),Inv X aa σ H s->t σ H Q ->
  wpAny (model X.prog X.w) X.A (eval a X.env) (λv a7=>wpAny (model X.prog X.w) X.A (eval b X.env) (λu iI=>wpAny (model X.prog X.w) X.A (compareOp op v u) (EP X aa σ Q) X.xe iI) X.xe a7) X.xe s
def J5(b:Expr)(h:op≠.In)(h2:op≠.NotIn):behindInMarks op b=false:=by
 let e1:(op == CmpOp.In)=false:=by cases op<;>first | rfl | show qT rfl h
 let e2:(op == CmpOp.NotIn)=false:=by cases op<;>first | rfl | show qT rfl h2
 cases b<;>simp[behindInMarks,e1,e2]
def UK(ta:TE):TE:=λσ H Q=>ta σ H λx H1=>Q (.bl (decide (x=.non))) H1
def UL(ta:TE):TE:=λσ H Q=>ta σ H λx H1=>Q (.bl ((Bool.not (decide (x=.non))))) H1
def RelV.none_iff(r:RelV x v):(v == Value.none)=decide (x=.non):=by
 cases x with
 | non=>cases r;rfl
 | bl _=>cases r;rfl
 | int _=>let⟨t,rfl⟩:=r;rfl
 | str _=>let⟨t,rfl⟩:=r;rfl
 | byt _=>let⟨t,rfl⟩:=r;rfl
 | flt _=>let⟨t,rfl⟩:=r;rfl
 | ref _=>cases r;rfl
 | ty _=>cases r;rfl
def tJ{j eP}(ha:PE X a ta):PC X .Is a (.Constant .none j eP) (UK ta):=by
 intro aa s σ H Q I h;show aR (ha aa s σ H _ I h) λv s1 ⟨x,H1,I1,r1,q1⟩=>?_
 show Constant_none (is_none_gen ⟨.bl _,H1,I1,by rw[r1.none_iff];rfl,q1⟩)
def Dy{j eP}(ha:PE X a ta):PC X .IsNot a (.Constant .none j eP) (UL ta):=by
 intro aa s σ H Q I h;show aR (ha aa s σ H _ I h) λv s1 ⟨x,H1,I1,r1,q1⟩=>?_
 show Constant_none (isnot_none_gen ⟨.bl _,H1,I1,by rw[r1.none_iff];rfl,q1⟩)
inductive J6(Q:Bool->Hp->Prop):V->Hp->Prop
|m {x H1} c:x=.bl c->Q c H1->J6 Q x H1
def tB(t:TE):TT:=λσ H Q=>t σ H (J6 Q)
def UM(h:PC X op a b t)(h1:behindInMarks op b=false:=by first | show J5 _ {} {} | rfl):PE X (.Compare a [op] [b] pos) t:=λaa s σ H Q I hw=>wpAny_Compare1 (h aa s σ H Q I hw) h1
def kD(h:PC X op a b t)(h1:behindInMarks op b=false:=by first | show J5 _ {} {} | rfl):PT X (.Compare a [op] [b] pos) (tB t):=by
 intro aa s σ H Q I hw;show wpAny_isTrue_Compare1 (aR (h aa s σ H _ I hw) λv s1 h1=>aR h1 λu s2 h2=>aR h2 λc s3 ⟨x,H1,I1,r1,q1⟩=>?_) h1;let⟨d,rfl,q⟩:=q1;cases r1;show yL ⟨H1,I1,q⟩
def kE(h:PE X e t)(he:∀ AF,isTrue e X.env AF=(do let v <- AF; standAt e.pos; holding [v] (truthy v)):=by intro _; rfl):PT X e (tB t):=by
 intro aa s σ H Q I hw
 show isTrue_plain (aR (h aa s σ H _ I hw) λv s1 ⟨x,H1,I1,r1,q1⟩=>?_) (he _)
 let⟨d,rfl,q⟩:=q1
 cases r1
 show yL ⟨H1,I1,q⟩
variable{tA AG:TT}{rest:TW}
def J7(t u:TT):TT:=λσ H Q=>t σ H λc H1=>if c=true then u σ H1 Q else Q false H1
def UN(t u:TT):TT:=λσ H Q=>t σ H λc H1=>if c=true then Q true H1 else u σ H1 Q
def UO(t:TT):TT:=λσ H Q=>t σ H λc H1=>Q ((Bool.not (c))) H1
def i9(ha:PT X a tA):PW X (.BoolOp .And [a] pos) tA:=by
 intro wh aa s σ H Q I h;show isTrue_and (aR (ha aa s σ H Q I h) λc s1 e=>?_);cases c with
 | true=>show isTrue_and_nil e
 | false=>show e
def kF(ha:PT X a tA):PW X (.BoolOp .Or [a] pos) tA:=by
 intro wh aa s σ H Q I h;show isTrue_or (aR (ha aa s σ H Q I h) λc s1 e=>?_);cases c with
 | false=>show isTrue_or_nil e
 | true=>show e
def gX(ha:PT X a tA)(hb:PW X (.BoolOp .And (b::rest) pos) AG):PW X (.BoolOp .And (a::b::rest) pos) (J7 tA AG):=by
 intro wh aa s σ H Q I h;show isTrue_and (aR (ha aa s σ H _ I h) λc s1 ⟨H1,I1,q1⟩=>?_);cases c with
 | true=>show hb wh aa s1 σ H1 Q I1 q1
 | false=>show⟨H1,I1,q1⟩
def jH(ha:PT X a tA)(hb:PW X (.BoolOp .Or (b::rest) pos) AG):PW X (.BoolOp .Or (a::b::rest) pos) (UN tA AG):=by
 intro wh aa s σ H Q I h;show isTrue_or (aR (ha aa s σ H _ I h) λc s1 ⟨H1,I1,q1⟩=>?_);cases c with
 | true=>show⟨H1,I1,q1⟩
 | false=>show hb wh aa s1 σ H1 Q I1 q1
def tM(ha:PT X a tA):PT X (.UnaryOp .Not a pos) (UO tA):=by
 intro aa s σ H Q I h;show isTrue_not (ha aa s σ H (λc H1=>Q ((Bool.not (c))) H1) I h)
inductive J8(tb:TE)(σ:St)(Q:VK):V->Hp->Prop
|m {x H1} c:x=.bl c->(if c=true then tb σ H1 Q else Q (.bl false) H1)->J8 tb σ Q x H1
def UP(ta tb:TE):TE:=λσ H Q=>ta σ H (J8 tb σ Q)
inductive J9(tb:TE)(σ:St)(Q:VK):V->Hp->Prop
|m {x H1} c:x=.bl c->(if c=true then Q (.bl true) H1 else tb σ H1 Q)->J9 tb σ Q x H1
def UQ(ta tb:TE):TE:=λσ H Q=>ta σ H (J9 tb σ Q)
inductive Ke(Q:VK):V->Hp->Prop
|m {x H1} c:x=.bl c->Q (.bl ((Bool.not (c)))) H1->Ke Q x H1
def UR(ta:TE):TE:=λσ H Q=>ta σ H (Ke Q)
def Kf{op}(h:PE X a t):PE X (.BoolOp op [a] pos) t:=λaa s σ H Q I hw=>BoolOp_one (h aa s σ H Q I hw)
def UT(ha:PE X a ta)(hb:PE X (.BoolOp .And (b::rest) pos) tb):PE X (.BoolOp .And (a::b::rest) pos) (UP ta tb):=by
 intro aa s σ H Q I h;show BoolOp_and (aR (ha aa s σ H _ I h) λv s1 ⟨x,H1,I1,r1,q1⟩=>?_);let⟨c,rfl,q1⟩:=q1;cases r1;show yL ?_;cases c with
 | true=>show hb aa s1 σ H1 Q I1 q1
 | false=>show⟨.bl false,H1,I1,O,q1⟩
def UV(ha:PE X a ta)(hb:PE X (.BoolOp .Or (b::rest) pos) tb):PE X (.BoolOp .Or (a::b::rest) pos) (UQ ta tb):=by
 intro aa s σ H Q I h;show BoolOp_or (aR (ha aa s σ H _ I h) λv s1 ⟨x,H1,I1,r1,q1⟩=>?_);let⟨c,rfl,q1⟩:=q1;cases r1;show yL ?_;cases c with
 | false=>show hb aa s1 σ H1 Q I1 q1
 | true=>show⟨.bl true,H1,I1,O,q1⟩
def UW(ha:PE X a ta):PE X (.UnaryOp .Not a pos) (UR ta):=by
 intro aa s σ H Q I h;show UnaryOp_ (aR (ha aa s σ H _ I h) λv s1 ⟨x,H1,I1,r1,q1⟩=>?_);let⟨c,rfl,q1⟩:=q1;cases r1;show not_of (yL ⟨.bl ((Bool.not (c))),H1,I1,O,q1⟩)
def UX(t:TT)(ta tb:TE):TE:=λσ H Q=>t σ H λc H1=>if c=true then ta σ H1 Q else tb σ H1 Q
def jI(hc:PT X c tA)(ha:PE X a ta)(hb:PE X b tb):PE X (.IfExp c a b pos) (UX tA ta tb):=by
 intro aa s σ H Q I h;show wpAny_IfExp (aR (hc aa s σ H _ I h) λd s1 ⟨H1,I1,q1⟩=>?_);cases d with
 | true=>show ha aa s1 σ H1 Q I1 q1
 | false=>show hb aa s1 σ H1 Q I1 q1
end
def SqL(K:W.Frag)(H:Hp)(a:Addr)(xs:List V):Prop :=
 Rd H a (.lst xs) \/
  ∃(o:Obj) (ah:Array Value) (n:Nat),K.lookup a=!o/\o.cls=.type "list" /\ o.dict=none/\o.data=.seq ah n/\ah.size<=sizeLine/\Vals xs ah.toList
def SqT(K:W.Frag)(H:Hp)(a:Addr)(xs:List V):Prop :=
 Rd H a (.tup xs) \/
  ∃(o:Obj) (ah:Array Value) (n:Nat),K.lookup a=!o/\o.cls=.type "tuple" /\ o.data=.seq ah n/\ah.size<=sizeLine/\Vals xs ah.toList
def UY:Value->Option V
 | .none=>!.non
 | .bool b=>!.bl b
 | .int i _=>!.int i
 | .str x _=>!.str x
 | .bytes b _=>!.byt b
 | .float b _=>!.flt b
 | .ref a=>!.ref a
 | .type n=>!.ty n
 | _=>none
def RelV.abs(r:RelV x u):UY u=!x:=by
 cases x with
 | non=>cases r;rfl
 | bl _=>cases r;rfl
 | int _=>let⟨t,rfl⟩:=r;rfl
 | str _=>let⟨t,rfl⟩:=r;rfl
 | byt _=>let⟨t,rfl⟩:=r;rfl
 | flt _=>let⟨t,rfl⟩:=r;rfl
 | ref _=>cases r;rfl
 | ty _=>cases r;rfl
def RelV.inj(r:RelV x u)(q:RelV y u):x=y:=qZ (r.abs.symm.trans q.abs)
theorem Vals.inj:∀{xs ys:List V} {us:TU},Vals xs us->Vals ys us->xs=ys
 | _,_,_,.nil,.nil=>rfl
 | _,_,_,.cons r t,.cons r' t'=>by rw[r.inj r',Vals.inj t t']
section
variable{X:Cx}{aa:TF}{σ:St}{H:Hp}{s:Shared}{a:Addr}{xs ys:List V}
def SqL.of{K:W.Frag}(h:H a=!.lst xs):SqL K H a xs:=.inl (.inl h)
def SqT.of{K:W.Frag}(h:H a=!.tup xs):SqT K H a xs:=.inl (.inl h)
def ag{K:W.Frag}(h:H a=!.lst xs):SqL K H a xs:=.of h
def aC{K:W.Frag}(h:H a=!.tup xs):SqT K H a xs:=.of h
def Inv.list(I:Inv X aa σ H s)(h:SqL X.K H a xs):∃ah:TU,Vals xs ah/\PlainL s.heap a ah.toArray/\xs⁻¹<=sizeLine:=by
 rcases h with h | ⟨o,ah,n,hk,hc,hd,hs,hz,r⟩
 .let⟨z,ah,n,r,e⟩:=h.ok I.hok;show⟨ah,r,⟨_,n,e,O,O,O⟩,z⟩
 .show⟨ah.toList,r,⟨o,n,I.kIn a o hk,hc,hd,‹hs›⟩,?_⟩;let e:=r⁻¹;simp only[Array.length_toList]at e;omega
def Inv.tuple(I:Inv X aa σ H s)(h:SqT X.K H a xs):∃ah:TU,Vals xs ah/\IsTup s.heap a ah.toArray/\xs⁻¹<=sizeLine:=by
 rcases h with h | ⟨o,ah,n,hk,hc,hs,hz,r⟩
 .let⟨z,ah,r,p⟩:=h.ok I.hok;show⟨ah,r,p,z⟩
 .show⟨ah.toList,r,⟨o,I.kIn a o hk,hc,n,‹hs›⟩,?_⟩;let e:=r⁻¹;simp only[Array.length_toList]at e;omega
def Inv.list_inj(I:Inv X aa σ H s)(h:SqL X.K H a xs)(h':SqL X.K H a ys):xs=ys:=by
 let⟨ah,r,⟨o,n,e,_,_,d⟩,_⟩:=I.list h;let⟨its',r',⟨o',n',e',_,_,d'⟩,_⟩:=I.list h';rw[e]at e';cases e';rw[d]at d';injection d' with d1 _
 have:ah=its':=‹xH Array.toList d1›
 subst this;show r.inj r'
end
abbrev Cx.wish(X:Cx)(E:TH):Cx:={X with xe:=E}
abbrev Cx.nox(X:Cx):Cx:=X.wish λ_ _=>False
def Cx.Ok.wish{X:Cx}(ok:X.Ok)(E:TH):(X.wish E).Ok :=
 ⟨ok.mod,ok.kind,ok.glob,ok.blt,ok.above,ok.inj,ok.has,ok.cab,ok.hd,ok.frames,ok.stk,ok.exf,ok.bs,ok.bsz,ok.noex,ok.exfs,ok.funs,ok.frf⟩
def Cx.Ok.unwish{X:Cx}{E:TH}(ok:(X.wish E).Ok):X.Ok :=
 ⟨ok.mod,ok.kind,ok.glob,ok.blt,ok.above,ok.inj,ok.has,ok.cab,ok.hd,ok.frames,ok.stk,ok.exf,ok.bs,ok.bsz,ok.noex,ok.exfs,ok.funs,ok.frf⟩
section
variable{X:Cx}{aa:TF}{σ:St}{H:Hp}{s:Shared}{E:TH}
def Inv.wish(I:Inv X aa σ H s)(E:TH):Inv (X.wish E) aa σ H s:=⟨I.ok.wish E,I.os,I.bare,I.base,I.loc,I.cell,I.free,I.freeC,I.pin,I.hok,I.len⟩
def Inv.unwish(I:Inv (X.wish E) aa σ H s):Inv X aa σ H s:=⟨I.ok.unwish,I.os,I.bare,I.base,I.loc,I.cell,I.free,I.freeC,I.pin,I.hok,I.len⟩
def SP.unwish(h:SP (X.wish E) aa D f s'):SP X aa D f s':=by
 cases f with
 | next=>let⟨ae,H',I,q⟩:=h;show⟨ae,H',I.unwish,q⟩
 | brk=>let⟨ae,H',I,q⟩:=h;show⟨ae,H',I.unwish,q⟩
 | cont=>let⟨ae,H',I,q⟩:=h;show⟨ae,H',I.unwish,q⟩
 | ret u=>let⟨v,ae,H',I,r,q⟩:=h;show⟨v,ae,H',I.unwish,r,q⟩
def PSs.nox{st:List Stmt}{t:TS}(h:PSs X.nox st t):PSs X st t:=λaa s σ H D I hw =>
 xJ (h aa s σ H D (I.wish _) hw) (λ_ _ q=>q.unwish) λ_ _ z=>False.elim z
end
section
variable{X:Cx}{st:Stmt}{rest:List Stmt}{t u:TS}{e:Expr}{te:TE}{pos:Pos}
def UZ:TS:=λD σ H=>D.nx σ H
def nV(t u:TS):TS:=λD σ H=>t {D with nx:=u D} σ H
def bi:PSs X [] UZ:=λ_ _ σ H _ I h=>vQ ⟨σ,H,I,h⟩
def ax(h1:PS X st t)(h2:PSs X rest u):PSs X (st::rest) (nV t u):=by
 intro aa s σ H D I h;show wpAny_execs_cons (aR (h1 aa s σ H {D with nx:=u D} I h) λf s1 q=>?_);cases f with
 | next =>
   let⟨ae,H',I',q⟩:=q
   show h2 aa s1 ae H' D I' q
 | ret v=>show q
 | brk=>show q
 | cont=>show q
def aA(h1:PS X st t):PSs X [st] t:=by
 intro aa s σ H D I h;show wpAny_execs_cons (aR (h1 aa s σ H D I h) λf s1 q=>?_);cases f with
 | next=>show vQ q
 | ret v=>show q
 | brk=>show q
 | cont=>show q
def U0:TS:=λD σ H=>D.bk σ H
def U1:PS X (.Break pos) U0:=λ_ _ σ H _ I h=>wpAny_Break ⟨σ,H,I,h⟩
def Inv.quiet{aa:TF}(I:Inv X aa σ H s):interactive X.env=false:=by simp[interactive,I.ok.kind]
def U2(te:TE):TS:=λD σ H=>te σ H λ_ H1=>D.nx σ H1
def cI(he:PE X e te)(hs:swapsWith e none pos.line X.env=pure false:=by rfl):PS X (.Expr e pos) (U2 te):=by
 intro aa s σ H D I h;show wpAny_Expr_any (aR (he aa s σ H _ I h) λv s1 ⟨x,H1,I1,r1,q1⟩=>⟨σ,H1,I1,q1⟩) I.quiet hs
def Kg(te:TE):TS:=λD σ H=>te σ H D.rt
def aH(he:PE X e te):PS X (.Return (!e) pos) (Kg te):=by
 intro aa s σ H D I h;show wpAny_Return_some (aR (he aa s σ H _ I h) λv s1 ⟨x,H1,I1,r1,q1⟩=>⟨x,σ,H1,I1,r1,q1⟩)
def Kh(c:TT)(t u:TS):TS:=λD σ H=>c σ H λb H1=>if b=true then t D σ H1 else u D σ H1
def ba(hc:PT X c tc)(ha:PSs X a t)(hb:PSs X b u):PS X (.If c a b pos) (Kh tc t u):=by
 intro aa s σ H D I h;show wpAny_If (aR (hc aa s σ H _ I h) λd s1 ⟨H1,I1,q1⟩=>?_);cases d with
 | true=>show ha aa s1 σ H1 D I1 q1
 | false=>show hb aa s1 σ H1 D I1 q1
end
abbrev TG:=V->St->Hp->(St->Hp->Prop)->Prop
abbrev AH:=List V->St->Hp->(St->Hp->Prop)->Prop
def PG(X:Cx)(target:Expr)(t:TG):Prop :=
 ∀(aa:TF) (s:Shared) (σ:St) (H:Hp) (v:V) (u:Value) (Q:St->Hp->Prop),Inv X aa σ H s->RelV v u->t v σ H Q ->
  wpAny (model X.prog X.w) X.A (assign target X.env u) (λ_ s'=>∃ae H',Inv X aa ae H' s'/\Q ae H') X.xe s
def pR(X:Cx)(ts:TW)(t:AH):Prop :=
 ∀(aa:TF) (s:Shared) (σ:St) (H:Hp) (vs:List V) (us:TU) (Q:St->Hp->Prop),Inv X aa σ H s->Vals vs us->t vs σ H Q ->
  wpAny (model X.prog X.w) X.A (assignInOrder ((assignEach ts X.env).map (·.2)) us) (λ_ s'=>∃ae H',Inv X aa ae H' s'/\Q ae H') X.xe s
abbrev Dz:=V->V->V->Hp->(Hp->Prop)->Prop
def DA(X:Cx)(t:Dz):Prop :=
 ∀(aa:TF) (s:Shared) (σ:St) (H:Hp) (o i v:V) (ov iv u:Value) (Q:Hp->Prop),Inv X aa σ H s->RelV o ov->RelV i iv->RelV v u->t o i v H Q ->
  wpAny (model X.prog X.w) X.A (setItem ov iv u) (λ_ s'=>∃H',Inv X aa σ H' s'/\Q H') X.xe s
abbrev DB:=V->V->Hp->VK->Prop
def tO(X:Cx)(op:Operator)(t:DB):Prop :=
 ∀(aa:TF) (s:Shared) (σ:St) (H:Hp) (x y:V) (v u:Value) (Q:VK),Inv X aa σ H s->RelV x v->RelV y u->t x y H Q ->
  wpAny (model X.prog X.w) X.A (inplaceOp op v u) (EP X aa σ Q) X.xe s
section
variable{X:Cx}{pos:Pos}
def aY(i:Nat):TG:=λv σ H Q=>Q (σ.set i (!v)) H
def U3{i:Nat}(hN:X.N.Nodup)(hi:X.N[i]?=!x)(hx:Loc X.env.scope x)(hf:X.fn x=true\/X.env.scope.names.lookup x=!.local:=by first | show .inl rfl | show .inr rfl | assumption):PG X (.Name x pos) (aY i):=by
 intro aa s σ H v u Q I r h;show wpAny_assign_Name (Dw I hN hi hx r (λs' I'=>⟨_,H,I',h⟩) hf)
inductive Ki:List V->St->Hp->(St->Hp->Prop)->Prop
 | m  : vs=[]->Q σ H->Ki vs σ H Q
inductive Kj(t:TG)(u:AH):List V->St->Hp->(St->Hp->Prop)->Prop
|m v r:vs=v::r->(t v σ H λae H'=>u r ae H' Q)->Kj t u vs σ H Q
def dZ:pR X [] Ki:=by
 intro aa s σ H vs us Q I r h;let⟨e,h⟩:=h;subst e;cases r;show assignInOrder_nil ⟨σ,H,I,h⟩
def bF(h1:PG X e t)(h2:pR X es u)(hs:(assignEach (e::es) X.env).map (·.2)=assign e X.env::(assignEach es X.env).map (·.2):=by rfl):pR X (e::es) (Kj t u):=by
 intro aa s σ H vs us Q I r h;let⟨v,vr,e1,h⟩:=h;subst e1;cases r with
 | cons r rr =>
   rw[hs]
   show assignInOrder_cons (aR (h1 aa s σ H _ _ _ I r h) λ_ s1 ⟨pS,H1,I1,q1⟩=>?_)
   show h2 aa s1 pS H1 _ _ Q I1 rr q1
inductive DC(K:W.Frag)(n:Nat)(t:AH):V->St->Hp->(St->Hp->Prop)->Prop
|m a xs:v=.ref a->SqT K H a xs->xs⁻¹=n->t xs σ H Q->DC K n t v σ H Q
def jJ{k:Nat}{n:Nat}(hc:X.calm=true)(h:pR X es t)(hn:(assignEach es X.env)⁻¹=n:=by rfl)(cp:(assignEach es X.env).findIdx? (·.1)=none:=by rfl):PG X (.Tuple es k pos) (DC X.K n t):=by
 intro aa s σ H v u Q I r hw;let⟨a,xs,e1,hq,hl,hw⟩:=hw;subst e1;cases r;let⟨ah,rv,ht,hz⟩:=I.tuple hq;show assign_Tuple_tuple (I.ok.hd hc) ht (by simp[hn,<-hl,rv⁻¹]) cp λh' hx=>?_
 let I1:Inv X aa σ H {s with heap:=h'}:=I.kept (t':=s.toks) λb o e=>hx b o (rD (qK e)) e
 show h aa _ σ H xs _ Q I1 ‹rv› hw
def Kk(to ti:TE)(t:Dz):TG:=λv σ H Q=>to σ H λo H1=>ti σ H1 λi H2=>t o i v H2 λH3=>Q σ H3
def tP(ho:PE X o to)(hi:PE X i ti)(hs:DA X t)(ha:∀ v,assign (.Subscript o i pos) X.env v=(do
   let ov <- holding [v] (eval o X.env)
   let iv <- holding [v,ov] (eval i X.env)
   standAt pos
   holding [v,ov,iv] (setItem ov iv v)
   release [v,ov,iv] []):=by intro _; rfl):PG X (.Subscript o i pos) (Kk to ti t):=by
 intro aa s σ H v u Q I r h
 rw [ha]
 show qC (xY (aR (ho aa s σ H _ I h) λov s1 ⟨x,H1,I1,r1,q1⟩=>?_))
 show qC (xY (aR (hi aa s1 σ H1 _ I1 q1) λiv s2 ⟨y,H2,I2,r2,q2⟩=>?_))
 show qC (vZ (qC (xY (aR (hs aa s2 σ H2 x y v ov iv u _ I2 r1 r2 r q2) λ_ s3 ⟨H3,I3,q3⟩=>?_))))
 show wpAny_release ⟨σ,H3,I3,q3⟩
def mf(te:TE)(g:TG):TS:=λD σ H=>te σ H λx H1=>g x σ H1 D.nx
def nW(he:PE X e te)(hg:PG X tg g)(hs:swapsWithSole [tg] e pos.line X.env=pure false:=by rfl)(hw:swappedStores [tg] e X.env=pure none:=by rfl)(h1:(assignEach [tg] X.env).map (·.2)=[assign tg X.env]:=by rfl):PS X (.Assign [tg] e pos) (mf te g):=by
 intro aa s σ H D I h;show wpAny_Assign_stores (aR (he aa s σ H _ I h) λv s1 ⟨x,H1,I1,r1,q1⟩=>?_) hs hw;rw[h1];show aR (hg aa s1 σ H1 x v _ I1 r1 q1) λ_ s2 q=>q
def U4{i:Nat}(hN:X.N.Nodup)(hi:X.N[i]?=!x)(hx:Loc X.env.scope x)(he:PE X e te)(hs:swapsWith e (!.Name x eP) pos.line X.env=pure false:=by rfl)(hf:X.fn x=true\/X.env.scope.names.lookup x=!.local:=by first | show .inl rfl | show .inr rfl | assumption) :
  PS X (.Assign [.Name x eP] e pos) (mf te (aY i)):=by
 intro aa s σ H D I h;show wpAny_Assign_Name (aR (he aa s σ H _ I h) λv s1 ⟨y,H1,I1,r1,q1⟩=>?_) hs;show Dw I1 hN hi hx r1 (λs2 I2=>⟨_,H1,I2,q1⟩) hf
inductive DD(i:Nat)(te:TE)(ti:DB):iH->St->Hp->Prop
|m x:σ[i]?=!!x->(te σ H λy H1=>ti x y H1 λz H2=>D.nx (σ.set i (!z)) H2)->DD i te ti D σ H
def U5{i:Nat}(hN:X.N.Nodup)(hi:X.N[i]?=!x)(hx:Loc X.env.scope x)(he:PE X e te)(ho:tO X op ti)(hf:X.fn x=true\/X.env.scope.names.lookup x=!.local:=by first | show .inl rfl | show .inr rfl | assumption) :
  PS X (.AugAssign (.Name x eP) op e pos) (DD i te ti):=by
 intro aa s σ H D I h;let⟨v,e1,h⟩:=h;let⟨m,hn,hl⟩:=I.loc;let tQ:pO X.env.scope x:=by rcases hx with k | k;show .inl k;show .inr (.inl k)
 let⟨u,r,l⟩:=hl i x v hi e1 tQ;show wpAny_AugAssign_Name ?_;let go:wpAny (model X.prog X.w) X.A (eval e X.env) (λw iI=>wpAny (model X.prog X.w) X.A (inplaceOp op u w) (λr AI=>wpAny (model X.prog X.w) X.A (storeName X.env x r) (λ_=>SP X aa D .next) X.xe AI) X.xe iI) X.xe s:=by
  show aR (he aa s σ H _ I h) λw s1 ⟨y,H1,I1,r1,q1⟩=>?_
  show aR (ho aa s1 σ H1 v y u w _ I1 r r1 q1) λz s2 ⟨zv,H2,I2,r2,q2⟩=>?_
  show Dw I2 hN hi hx r2 (λs3 I3=>⟨_,H2,I3,q2⟩) hf
 rcases l with⟨hk,hm⟩ | ⟨hk,c,hc,jF⟩
 .show wpAny_loadName_local I.ok.kind hk hn hm go
 .rcases hk with hk | hk
  .show wpAny_loadName_cell I.ok.kind hk hc jF go
  .rcases hx with k | k
   .have:X.env.scope.names.lookup x=!.free:=hk;rw[k]at this;cases this
   .have:X.env.scope.names.lookup x=!.free:=hk;rw[k]at this;cases this
def U6(to ti te:TE)(AJ:V->V->Hp->VK->Prop)(DE:DB)(DF:Dz):TS:=λD σ H=>to σ H λo H1=>ti σ H1 λi H2=>AJ o i H2 λx H3=>te σ H3 λy H4=>DE x y H4 λz H5=>DF o i z H5 λH6=>D.nx σ H6
def Kl(X:Cx)(t:V->V->Hp->VK->Prop):Prop :=
 ∀(aa:TF) (s:Shared) (σ:St) (H:Hp) (o i:V) (ov iv:Value) (Q:VK),Inv X aa σ H s->RelV o ov->RelV i iv->t o i H Q ->
  wpAny (model X.prog X.w) X.A (getItem ov iv) (EP X aa σ Q) X.xe s
def U7{AJ:V->V->Hp->VK->Prop}(ho:PE X o to)(hi:PE X i ti)(hg:Kl X AJ)(he:PE X e te)(hp:tO X op DE)(hs:DA X DF)(ha:∀ ov iv new,augStore i ov iv new=(do holding [new,ov,iv] (setItem ov iv new); release [new,ov,iv] []; pure .next):=by intros; rfl):PS X (.AugAssign (.Subscript o i U8) op e pos) (U6 to ti te AJ DE DF):=by
 intro aa s σ H D I h
 show wpAny_AugAssign_SubscriptAny (aR (ho aa s σ H _ I h) λov s1 ⟨x1,H1,I1,r1,q1⟩=>?_) ha
 show aR (hi aa s1 σ H1 _ I1 q1) λiv s2 ⟨x2,H2,I2,r2,q2⟩=>?_
 show aR (hg aa s2 σ H2 x1 x2 ov iv _ I2 r1 r2 q2) λold s3 ⟨x3,H3,I3,r3,q3⟩=>?_
 show aR (he aa s3 σ H3 _ I3 q3) λv s4 ⟨x4,H4,I4,r4,q4⟩=>?_
 show aR (hp aa s4 σ H4 x3 x4 old v _ I4 r3 r4 q4) λnew s5 ⟨x5,H5,I5,r5,q5⟩=>?_
 show aR (hs aa s5 σ H5 x1 x2 x5 ov iv new _ I5 r1 r2 r5 q5) λ_ s6 ⟨H6,I6,q6⟩=>⟨σ,H6,I6,q6⟩
inductive DG(f:Int->Int->Int):V->V->Hp->VK->Prop
|m i j:x=.int i->y=.int j->Q (.int (f i j)) H->DG f x y H Q
def DH:tO X .Add (DG λi j=>i+j):=by
 intro aa s σ H x y v u Q I r1 r2 h;let⟨i,j,e1,e2,q⟩:=h;subst e1;subst e2;let⟨t,rfl⟩:=r1;let⟨t',rfl⟩:=r2;show iadd_int ⟨.int _,H,I.tok _,⟨_,O⟩,q⟩
def U9:tO X .Sub (DG λi j=>i-j):=by
 intro aa s σ H x y v u Q I r1 r2 h;let⟨i,j,e1,e2,q⟩:=h;subst e1;subst e2;let⟨t,rfl⟩:=r1;let⟨t',rfl⟩:=r2;show isub_int ⟨.int _,H,I.tok _,⟨_,O⟩,q⟩
inductive Km(c:TT)(tb:TS):iH->St->Hp->Prop
|m (W:Nat->St->Hp->Prop):(∃m,W m σ H)->(∀m σ H,W m σ H->c σ H λb H1=>if b=true then∃N:St->Hp->Prop,(∀ae H',N ae H'->∃m',m'<m/\W m' ae H')/\tb {D with nx:=N,ct:=N,bk:=D.nx} σ H1 else D.nx σ H1)->Km c tb D σ H
def AK(hp:PassesOwn (model X.prog X.w) X.A X.env X.xe)(hc:PT X c tc)(hb:PSs X body tb):PS X (.While c body [] pos) (Km tc tb):=by
 intro aa s σ H D I h;let⟨W,⟨m0,w0⟩,turn⟩:=h;show wpAny_While (codeAny_whileLoop (λn s'=>∃ae H',Inv X aa ae H' s'/\W n ae H') ?_ m0 ⟨σ,H,I,w0⟩);ext n s1 ⟨pS,H1,I1,w1⟩;show uO hp (aR (hc aa s1 pS H1 _ I1 (turn n pS H1 w1)) λb s2 ⟨H2,I2,q2⟩=>?_);cases b with
 | true =>
   let⟨N,hN,q2⟩:=q2
   rw[qX O]
   show uO hp (aR (hb aa s2 pS H2 _ I2 q2) λf s3 q3=>?_)
   cases f with
   | next =>
     let⟨ja,H3,I3,n3⟩:=q3
     let⟨m',hm,w3⟩:=hN ja H3 n3
     show⟨m',hm,ja,H3,I3,w3⟩
   | cont =>
     let⟨ja,H3,I3,n3⟩:=q3
     let⟨m',hm,w3⟩:=hN ja H3 n3
     show⟨m',hm,ja,H3,I3,w3⟩
   | brk=>show q3
   | ret v=>show q3
 | false =>
   rw[qY rA]
   show vQ ⟨pS,H2,I2,q2⟩
end
structure It where
 go:Nat->Hp->Prop
 yld:Nat->Hp->V->Hp->Prop
 stop:Nat->Hp->Prop
def iJ(X:Cx)(aa:TF)(H:Hp)(b:Addr):Prop :=
 H b=none/\b≠X.env.locals/\b∉X.fs/\(b∈X.ex\/~~~X.s₀<=b)/\(∀x c,X.env.cells.lookup x=!c->c≠b)/\∀p∈X.pn++aa,p.1≠b
def Inv.fpOk{aa:TF}(I:Inv X aa σ H s)(hb: ~~~s<=b)(hn:H' b=none):iJ X aa H' b:=by
 show⟨hn,yJ (rB I.lt hb),I.nofs hb,.inr (rK I.sz hb),λx c e z=>?_,λp hp z=>?_⟩
 .let⟨v,q⟩:=I.cell x c e;show qT (rB q.lt (by rw[z];show hb)) (rQ _)
 .show qT (rB (qK (I.pin p hp).1) (by rw[z];show hb)) (rQ _)
structure jK(P:Program)(w:World)(K:W.Frag)(tg:Expr)(J:It)(fp:TQ)(it:Addr)(tn:Nat->Heap->Prop):Prop where
 mem:it∈fp
 obj:∀i h,tn i h->∀b∈fp,∃o,h.get? b=!o/\∀v,o.data≠.cell v
 keep:∀i h h',tn i h->(∀b∈fp,∀o,h.get? b=!o->h'.get? b=!o)->tn i h'
 item:∀(X:Cx),X.prog=P->X.w=w->X.K=K->X.calm=true->∀(i:Nat) (aa:TF) (s:Shared) (σ:St) (H:Hp) (E:TH),Inv X aa σ H s->(∀b∈fp,iJ X aa H b)->tn i s.heap->J.go i H ->
  wpAny (model P w) X.A (pyNext (.ref it)) (λr s1=>∃u,r=!u /\
   wpAny (model P w) X.A (letOwnedTupleGo tg (.ref it) u) (λ_ s2=>∃x H',Inv X aa σ H' s2/\RelV x u/\J.yld i H x H'/\tn (i+1) s2.heap/\∀b∈fp,H' b=none) E s1) E s
 done:∀(X:Cx),X.prog=P->X.w=w->X.K=K->X.calm=true->∀(i:Nat) (aa:TF) (s:Shared) (σ:St) (H:Hp) (E:TH),Inv X aa σ H s->(∀b∈fp,iJ X aa H b)->tn i s.heap->J.stop i H ->
  wpAny (model P w) X.A (pyNext (.ref it)) (λr s1=>r=none/\Inv X aa σ H s1) E s
 self:∀(A:Around) (i:Nat) (s:Shared) (Q:TH) (E:TH),tn i s.heap->Q (.ref it) s->wpAny (model P w) A (pyIter (.ref it)) Q E s
abbrev TI:=St->Hp->(It->Hp->Prop)->Prop
def DI(X:Cx)(aa:TF)(σ:St)(tg:Expr)(R:It->Hp->Prop)(AL:Value)(s2:Shared):Prop :=
 ∃(it:Addr) (fp:TQ) (tn:Nat->Heap->Prop) (J:It) (H':Hp),AL=.ref it/\Inv X aa σ H' s2/\jK X.prog X.w X.K tg J fp it tn/\tn 0 s2.heap/\(∀b∈fp,iJ X aa H' b)/\R J H'
def PI(X:Cx)(tg iter:Expr)(wi:TI):Prop :=
 ∀(aa:TF) (s:Shared) (σ:St) (H:Hp) (R:It->Hp->Prop),Inv X aa σ H s->wi σ H R ->
  wpAny (model X.prog X.w) X.A (eval iter X.env) (λv s1=>wpAny (model X.prog X.w) X.A (pyIter v) (DI X aa σ tg R) X.xe s1) X.xe s
def AM{E:TH}{n:String}{Q:Unit->Shared->Prop}(ho:s.heap.get? it=!o)(hc:o.cls=.type n)(hd:o.data=.fields vs)(hn:["enumerate", "zip", "dict_itemiterator", "dict_reverseitemiterator", "odict_iterator", "itertools.zip_longest", "itertools.pairwise"].contains n=false)(hQ:Q Unit.unit s):wpAny M A (letOwnedTupleGo tg (.ref it) u) Q E s:=by
 unfold letOwnedTupleGo;cases tg<;>first
  | show qL hQ
  | (cases u<;>first
    | show qL hQ
    | (show qC (wpAny_load ho ?_)
       rw[hc,hd]
       show wpAny M A (if(["enumerate", "zip", "dict_itemiterator", "dict_reverseitemiterator", "odict_iterator", "itertools.zip_longest", "itertools.pairwise"].contains n && vs[0]? == !rawInt _)=true then _ else _) Q E s
       rw[qY (by intro h;rw[hn,Bool.false_and]at h;cases h)]
       show qL hQ))
def pT(K:W.Frag)(a:Addr):It :=
 ⟨λi H=>∃xs x,SqL K H a xs/\xs[i]?=!x,λi H x H'=>H'=H/\∀xs,SqL K H a xs->xs[i]?=!x,λi H=>∃xs,SqL K H a xs/\xs⁻¹<=i⟩
def mj(lo:Int)(n:Nat):It:=⟨λi _=>i<n,λi H x H'=>H'=H/\x=.int (lo+i),λi _=>n<=i⟩
def U'{P:Program}{w:World}{K:W.Frag}{tg:Expr}(a it:Addr):jK P w K tg (pT K a) [it] it (λi h=>h.IsListIter it a i) where
 mem:=∅
 obj:=λi h st b hb=>by
  let e:b=it:=‹hb›
  subst e;let⟨o,e,c,d⟩:=st;show⟨o,e,λv z=>by rw[d]at z;cases z⟩
 keep:=λi h h' st k=>st.at λo e=>k it ∅ o e
 item:=by
  intro X hP hw hK hc i aa s σ H E I hf st hg;subst hP hw hK;let⟨xs,x,hq,hx⟩:=hg;let⟨ah,rv,p,hz⟩:=I.list hq;let⟨u,hu,ru⟩:=rv.get hx;let⟨f0,f1,f2,f3,f4,f5⟩:=hf it ∅;show wpAny_pyNext_list_item st p.isList (x:=u) ‹hu› λh' aQ sb=>?_
  let I1:Inv X aa σ H {s with heap:=h'}:=I.turned (t':=s.toks) (λb o hb e=>(sb.2 b hb).trans e) f0 f1 f3 f4 f5;let⟨o,e,c,d⟩:=id aQ;show⟨u,O,AM (s:={s with heap:=h'}) e c d {} ⟨x,H,I1,ru,⟨O,λys hy=>by rw[I.list_inj hy hq];show hx⟩,aQ,λb hb=>(hf b hb).1⟩⟩
 done:=by
  intro X hP hw hK hc i aa s σ H E I hf st hg;subst hP hw hK;let⟨xs,hq,hx⟩:=hg;let⟨ah,rv,p,hz⟩:=I.list hq;let⟨f0,f1,f2,f3,f4,f5⟩:=hf it ∅;let hl:=rv⁻¹;show wpAny_pyNext_list_end (I.ok.hd hc) st p.isList (by simp;omega) λh' eb=>⟨O,I.turned (t':=s.toks) (λb o hb e=>eb b o hb e) f0 f1 f3 f4 f5⟩
 self:=λ_ _ _ _ _ st h=>wpAny_pyIter_listiter st h
def Va{P:Program}{w:World}{K:W.Frag}{tg:Expr}(it:Addr)(lo:Int)(n:Nat):jK P w K tg (mj lo n) [it] it (λi h=>IsRangeIter h it (lo+(i:Nat)*1) ((n:Int)-(i:Nat)) 1) where
 mem:=∅
 obj:=λi h st b hb=>by
  let e:b=it:=‹hb›
  subst e;show⟨_,st,λv z=>by
   let z':Data.fields _=Data.cell v:=z;cases z'⟩
 keep:=λi h h' st k=>k it ∅ _ st
 item:=by
  intro X hP hw hK hc i aa s σ H E I hf st hg;subst hP hw hK;let⟨f0,f1,f2,f3,f4,f5⟩:=hf it ∅;let W:=Walks.range (prog:=X.prog) (w:=X.w) (I.ok.hd hc) it lo 1 n;show W.item i s _ _ hg st λv h' tk hv aQ kk=>?_
  let⟨t,rfl⟩:=hv;let I1:Inv X aa σ H {s with heap:=h',toks:=tk}:=I.turned (λb o hb e=>kk b o ‹hb› e) f0 f1 f3 f4 f5;show-⟨AM (s:={s with heap:=h',toks:=tk}) (n := "range_iterator") aQ O O {} ⟨.int (lo+i),H,I1,⟨t,?_⟩,⟨O,O⟩,aQ,λb hb=>(hf b hb).1⟩⟩;rw[Int.mul_one]
 done:=by
  intro X hP hw hK hc i aa s σ H E I hf st hg;subst hP hw hK;let⟨f0,f1,f2,f3,f4,f5⟩:=hf it ∅;show wpAny_pyNext_range_end (I.ok.hd hc) st (by have:n<=i:=hg;omega) λh' eb=>⟨O,I.turned (t':=s.toks) (λb o hb e=>eb b o hb e) f0 f1 f3 f4 f5⟩
 self:=λ_ _ _ _ _ st h=>wpAny_pyIter_rangeiter st h
section
variable{X:Cx}{tg:Expr}
inductive Kn(K:W.Frag)(R:It->Hp->Prop):V->Hp->Prop
|m {x H1} a:x=.ref a->(∃xs,SqL K H1 a xs)->R (pT K a) H1->Kn K R x H1
def Vb(K:W.Frag)(tl:TE):TI:=λσ H R=>tl σ H (Kn K R)
def bc(hl:PE X l tl):PI X tg l (Vb X.K tl):=by
 intro aa s σ H R I h;show aR (hl aa s σ H _ I h) λv s1 ⟨x,H1,I1,r1,q1⟩=>?_
 let⟨a,e,⟨xs,hq⟩,q⟩:=q1;subst e;cases r1;let⟨ah,rv,p,hz⟩:=I1.list hq;show xU p.isList ?_;show⟨~~~s1,[~~~s1],_,_,H1,O,I1.kept (t':=s1.toks) λb o e=>qF _ e,U' a _,⟨_,qQ _ O,O,O⟩,λb hb=>?_,q⟩;let e:b= ~~~s1:=‹hb›
 subst e;show I1.fpOk (qG _) (I1.hok.fresh (qG _))
def Ko{aa:TF}{R:It->Hp->Prop}{E:TH}{lo hi:Int}{tk:Nat}(I:Inv X aa σ H s)(h1:-(2 ^ 62)<=lo)(h2:lo<2 ^ 62)(h3:-(2 ^ 62)<=hi)(h4:hi<2 ^ 62)(q:R (mj lo (hi-lo).toNat) H):wpAny (model X.prog X.w) X.A (pyIter (.ref (~~~s))) (DI X aa σ tg R) E {s with heap:=s.heap.push {cls:=.type "range",data:=.fields #[.int lo t,.int hi u,.int 1 v]},toks:=tk}:=by
 show wpAny_pyIter_range (IsRange.new ..) (small_one h1 h2 h3 h4) ?_;let I1:Inv X aa σ H {s with heap:=s.heap.push {cls:=.type "range",data:=.fields #[.int lo t,.int hi u,.int 1 v]},toks:=tk}:=I.kept λb o e=>qF _ e
 show⟨(s.heap.push {cls:=.type "range",data:=.fields #[.int lo t,.int hi u,.int 1 v]}).objs.size,[(s.heap.push {cls:=.type "range",data:=.fields #[.int lo t,.int hi u,.int 1 v]}).objs.size],_,_,H,O,
  I1.kept (t':=tk) λb o e=>qF _ e,Va _ lo (hi-lo).toNat,?_,λb hb=>?_,q⟩
 .let e1:lo+((0:Nat):Int)*1=lo:=∅
  let e2:(((hi-lo).toNat:Nat):Int)-((0:Nat):Int)=Builtin.Range.rangeSize lo hi 1:=by rw[rangeSize_one];split<;>omega
  show IsRangeIter _ _ (lo+((0:Nat):Int)*1) ((((hi-lo).toNat:Nat):Int)-((0:Nat):Int)) 1;rw[e1,e2];show qQ _ O
 .let e:b=(s.heap.push {cls:=.type "range",data:=.fields #[.int lo t,.int hi u,.int 1 v]}).objs.size:=‹hb›
  subst e;show I1.fpOk (qG _) (I1.hok.fresh (qG _))
inductive Kp(R:It->Hp->Prop):List V->Hp->Prop
|m {vs H1} (j:Int):vs=[.int j]->-(2 ^ 62)<=j->j<2 ^ 62->R (mj 0 j.toNat) H1->Kp R vs H1
def Kq(ta:TA):TI:=λσ H R=>ta σ H (Kp R)
inductive Kr(R:It->Hp->Prop):List V->Hp->Prop
|m {vs H1} (i j:Int):vs=[.int i,.int j]->(-(2 ^ 62)<=i/\i<2 ^ 62/\-(2 ^ 62)<=j/\j<2 ^ 62)->R (mj i (j-i).toNat) H1->Kr R vs H1
def Vc(ta:TA):TI:=λσ H R=>ta σ H (Kr R)
def Vd(hg:Gl X "range")(hm:X.mg "range" = none)(ha:PA X [a] ta)(hs:starEach [a] X.env=[(false,eval a X.env)]:=by rfl):PI X tg (.Call (.Name "range" p) [a] [] pos) (Kq ta):=by
 intro aa s σ H R I h;show Call_ (jG I hg hm boot_range (xV (aR (ha pos aa s σ H _ I h) λus s1 ⟨vs,H1,I1,r1,q1⟩=>?_) hs O));let⟨j,e,q1,q2,q⟩:=q1;subst e;cases r1 with
 | cons r rr =>
   cases rr
   let⟨t,rfl⟩:=r
   show call_range_1 (Ko I1 () () q1 q2 ‹q›)
def AN(hg:Gl X "range")(hm:X.mg "range" = none)(ha:PA X [a,b] ta)(hs:starEach [a,b] X.env=[(false,eval a X.env),(false,eval b X.env)]:=by rfl)(fA:starEach [b] X.env=[(false,eval b X.env)]:=by rfl) :
  PI X tg (.Call (.Name "range" p) [a,b] [] pos) (Vc ta):=by
 intro aa s σ H R I h;show Call_ (jG I hg hm boot_range (xV (aR (ha pos aa s σ H _ I h) λus s1 ⟨vs,H1,I1,r1,q1⟩=>?_) (by rw[hs,fA]) (by rw[fA];rfl)));let⟨i,j,e,⟨q1,q2,q3,q4⟩,q⟩:=q1;subst e;cases r1 with
 | cons r rr =>
   cases rr with
   | cons r' rr =>
     cases rr
     let⟨t,rfl⟩:=r
     let⟨t',rfl⟩:=r'
     show call_range_2 (Ko I1 q1 q2 q3 q4 q)
def Ks(wi:TI)(g:TG)(tb:TS):TS:=λD σ H=>wi σ H λJ H1=>∃W:Nat->Nat->St->Hp->Prop,(∃m,W 0 m σ H1)/\∀i m σ H,W i m σ H ->
 (J.stop i H/\D.nx σ H)\/(J.go i H/\∃N:St->Hp->Prop,(∀ae H',N ae H'->∃m',m'<m/\W (i+1) m' ae H')/\∀x H',J.yld i H x H'->g x σ H' λa0 H2=>tb {D with nx:=N,ct:=N,bk:=D.nx} a0 H2)
def nX(fp:TQ)(h:Heap):TF:=fp.filterMap λb=>(h.get? b).map λo=>(b,o)
def pU(hb:b∈fp)(e:h.get? b=!o):(b,o)∈nX fp h:=uB.mpr ⟨b,hb,by rw[e];rfl⟩
def Kt{p:Addr×Obj}(hp:p∈nX fp h):p.1∈fp/\h.get? p.1=!p.2:=by
 let⟨b,hb,e⟩:=uB.mp hp;cases q:h.get? b with
 | none=>rw[q]at e;cases e
 | some o =>
   rw[q]at e
   let e':(b,o)=p:=qZ e
   subst e'
   show⟨hb,q⟩
def Inv.pinned{aa:TF}(I:Inv X aa σ H s)(hf:∀b∈fp,iJ X aa H b)(ho:∀b∈fp,∃o,s.heap.get? b=!o/\∀v,o.data≠.cell v):Inv X (aa++nX fp s.heap) σ H s :=
 I.pins_of λp hp=>(rG.mp hp).elim (λz=>I.pin p (rN _ z)) λz=>by
  let⟨hb,e⟩:=Kt z;let⟨f0,f1,f2,_⟩:=hf p.1 hb;let⟨o,e',d⟩:=ho p.1 hb;rw[e]at e';cases e';show⟨e,f0,f1,f2,d⟩
def Inv.unpinned{aa pl:TF}(I:Inv X (aa++pl) σ H s):Inv X aa σ H s:=I.pins_of λp hp=>I.pin p (rN _ (uP _ hp))
def Ve(hp:PassesOwn (model X.prog X.w) X.A X.env X.xe)(hc:X.calm=true)(hi:PI X tg iter wi)(hg:PG X tg g)(hb:PSs X body tb)(hs:∀x,foldedSetIterable iter X.env x=pure x:=by intro _;rfl):PS X (.For tg iter body [] pos) (Ks wi g tb):=by
 intro aa s σ H D I h;show wpAny_For (aR (hi aa s σ H _ I h) λv s1 h1=>aR h1 λAL s2 h2=>?_) hs;let⟨it,fp,tn,J,H2,e,I2,T,gq,f2,W,⟨m0,w0⟩,turn⟩:=h2;subst e;let nY:∀{H':Hp},(∀b∈fp,H' b=none)->∀b∈fp,iJ X aa H' b:=λhn b hb=>⟨hn b hb,(f2 b hb).2⟩
 show codeAny_forLoop_any (λn s'=>∃i ae H',Inv X aa ae H' s'/\tn i s'.heap/\(∀b∈fp,H' b=none)/\W i n ae H') ?_ m0 ⟨0,σ,H2,I2,gq,λb hb=>(f2 b hb).1,w0⟩;ext n s3 ⟨i,ja,H3,I3,kG,Ku,w3⟩;rcases turn i n ja H3 w3 with⟨stop,qn⟩ | ⟨go,N,hN,step⟩
 .show uO hp (aR (T.done X O O O hc i aa s3 ja H3 X.xe I3 (nY Ku) kG stop) λr s4 ⟨hr,I4⟩=>?_);subst hr;show vQ ⟨ja,H3,I4,qn⟩
 .show uO hp (aR (T.item X O O O hc i aa s3 ja H3 X.xe I3 (nY Ku) kG go) λr s4 ⟨u,hr,h4⟩=>?_);subst hr;show uO hp (aR h4 λ_ s5 ⟨x,H5,I5,r5,y5,DJ,Vf⟩=>?_);let Vg:=I5.pinned (nY Vf) (T.obj _ _ DJ);show uO hp (aR (hg _ s5 ja H5 x u _ Vg r5 (step x H5 y5)) λ_ s6 ⟨Vh,H6,I6,q6⟩=>?_);show uO hp (aR (hb _ s6 Vh H6 _ I6 q6) λf s7 q7=>?_);let again:∀{eh:St} {H7:Hp},Inv X (aa++nX fp s5.heap) eh H7 s7->N eh H7->∃m,m<n/\∃i ae H',Inv X aa ae H' s7/\tn i s7.heap/\(∀b∈fp,H' b=none)/\W i m ae H':=λ{eh H7} I7 n7=>by
   let⟨m',hm,w7⟩:=hN eh H7 n7;show⟨m',hm,i+1,eh,H7,I7.unpinned,T.keep _ _ _ DJ λb hb o e=>(I7.pin (b,o) (rN _ (rN _ (pU hb e)))).1,λb hb=>?_,w7⟩;let⟨o,e,d⟩:=T.obj _ _ DJ b hb;show(I7.pin (b,o) (rN _ (rN _ (pU hb e)))).2.1
  cases f with
  | next=>let⟨eh,H7,I7,n7⟩:=q7;show again I7 n7
  | cont=>let⟨eh,H7,I7,n7⟩:=q7;show again I7 n7
  | brk=>let⟨eh,H7,I7,q7⟩:=q7;show⟨eh,H7,I7.unpinned,q7⟩
  | ret v=>let⟨x7,eh,H7,I7,r7,q7⟩:=q7;show⟨x7,eh,H7,I7.unpinned,r7,q7⟩
end
def iK{K:W.Frag}{a:Addr}{xs:List V}{g:TG}{tb:TS}{D:iH}{σ:St}{H:Hp}(Pv:Nat->St->Hp->Prop)(h0:Pv 0 σ H)(hl:∀i σ H,i<=xs⁻¹->Pv i σ H->SqL K H a xs)(hs:∀i x σ H,xs[i]?=!x->Pv i σ H->g x σ H λa0 H2=>tb {D with nx:=Pv (i+1),ct:=Pv (i+1),bk:=D.nx} a0 H2)(hd:∀σ H,Pv xs⁻¹ σ H->D.nx σ H) :
  ∃W:Nat->Nat->St->Hp->Prop,(∃m,W 0 m σ H)/\∀i m σ H,W i m σ H ->
   ((pT K a).stop i H/\D.nx σ H)\/((pT K a).go i H/\∃N:St->Hp->Prop,(∀ae H',N ae H'->∃m',m'<m/\W (i+1) m' ae H')/\∀x H',(pT K a).yld i H x H'->g x σ H' λa0 H2=>tb {D with nx:=N,ct:=N,bk:=D.nx} a0 H2):=by
 show⟨λi m σ H=>m=xs⁻¹-i/\i<=xs⁻¹/\Pv i σ H,⟨xs⁻¹,∅,rO _,h0⟩,?_⟩;ext i m σ H ⟨rfl,hi,p⟩;let q:=hl i σ H hi p
 by_cases aZ:i<xs⁻¹
 .show .inr ⟨⟨xs,xs[i],q,by simp[aZ]⟩,Pv (i+1),λae H' p'=>⟨xs⁻¹-(i+1),(),O,aZ,p'⟩,λx H' y=>?_⟩;let⟨e,y⟩:=y;subst e;show hs i x σ _ (y xs q) p
 .let e:i=xs⁻¹:=()
  subst e;show .inl ⟨⟨xs,q,qG _⟩,hd σ H p⟩
def gY{lo:Int}{n:Nat}{g:TG}{tb:TS}{D:iH}{σ:St}{H:Hp}(Pv:Nat->St->Hp->Prop)(h0:Pv 0 σ H)(hs:∀i σ H,i<n->Pv i σ H->g (.int (lo+i)) σ H λa0 H2=>tb {D with nx:=Pv (i+1),ct:=Pv (i+1),bk:=D.nx} a0 H2)(hd:∀σ H,Pv n σ H->D.nx σ H) :
  ∃W:Nat->Nat->St->Hp->Prop,(∃m,W 0 m σ H)/\∀i m σ H,W i m σ H ->
   ((mj lo n).stop i H/\D.nx σ H)\/((mj lo n).go i H/\∃N:St->Hp->Prop,(∀ae H',N ae H'->∃m',m'<m/\W (i+1) m' ae H')/\∀x H',(mj lo n).yld i H x H'->g x σ H' λa0 H2=>tb {D with nx:=N,ct:=N,bk:=D.nx} a0 H2):=by
 show⟨λi m σ H=>m=n-i/\i<=n/\Pv i σ H,⟨n,∅,rO _,h0⟩,?_⟩;ext i m σ H ⟨rfl,hi,p⟩
 by_cases aZ:i<n
 .show .inr ⟨aZ,Pv (i+1),λae H' p'=>⟨n-(i+1),(),O,aZ,p'⟩,λx H' y=>?_⟩;let⟨e,y⟩:=y;subst e y;show hs i σ _ aZ p
 .let e:i=n:=()
  subst e;show .inl ⟨qG _,hd σ H p⟩
abbrev R2:=V->V->Hp->VK->Prop
def cw(X:Cx)(f:Value->Value->Sem Value)(r:R2):Prop :=
 ∀(aa:TF) (s:Shared) (σ:St) (H:Hp) (x y:V) (v u:Value) (Q:VK),Inv X aa σ H s->RelV x v->RelV y u->r x y H Q ->
  wpAny (model X.prog X.w) X.A (f v u) (EP X aa σ Q) X.xe s
def DK(X:Cx)(f:Value->Sem Value)(r:V->Hp->VK->Prop):Prop :=
 ∀(aa:TF) (s:Shared) (σ:St) (H:Hp) (x:V) (v:Value) (Q:VK),Inv X aa σ H s->RelV x v->r x H Q ->
  wpAny (model X.prog X.w) X.A (f v) (EP X aa σ Q) X.xe s
def eB(X:Cx)(f:Value)(r:List V->Hp->VK->Prop):Prop :=
 ∀(aa:TF) (s:Shared) (σ:St) (H:Hp) (xs:List V) (us:TU) (Q:VK),Inv X aa σ H s->Vals xs us->r xs H Q ->
  wpAny (model X.prog X.w) X.A (call f us) (EP X aa σ Q) X.xe s
def eQ(r:R2)(ta tb:TE):TE:=λσ H Q=>ta σ H λx H1=>tb σ H1 λy H2=>r x y H2 Q
def Vi(r:V->Hp->VK->Prop)(ta:TE):TE:=λσ H Q=>ta σ H λx H1=>r x H1 Q
inductive rI(C:Int->Int->Prop)(g:Int->Int->V):V->V->Hp->VK->Prop
|m i j:x=.int i->y=.int j->C i j->Q (g i j) H->rI C g x y H Q
inductive jb(g:Int->Int->V):V->V->Hp->VK->Prop
|m i j:x=.int i->y=.int j->Q (g i j) H->jb g x y H Q
inductive rU(g:Int->V):V->Hp->VK->Prop
|m i:x=.int i->Q (g i) H->rU g x H Q
section
variable{X:Cx}{a b c:Expr}{ta tb tc:TE}{pos:Pos}
def DM(ha:PE X a ta)(hb:PE X b tb){aa:TF}{R:V->V->Hp->Prop}(I:Inv X aa σ H s)(h:ta σ H λx H1=>tb σ H1 λy H2=>R x y H2){Q:TH}{f:Value->Value->Sem Value}(hf:∀v u s2 x y H2,Inv X aa σ H2 s2->RelV x v->RelV y u->R x y H2->wpAny (model X.prog X.w) X.A (f v u) Q X.xe s2) :
  wpAny (model X.prog X.w) X.A (eval a X.env) (λv a7=>wpAny (model X.prog X.w) X.A (eval b X.env) (λu iI=>wpAny (model X.prog X.w) X.A (f v u) Q X.xe iI) X.xe a7) X.xe s:=by
 show aR (ha aa s σ H _ I h) λv s1 ⟨x,H1,I1,r1,q1⟩=>?_
 show aR (hb aa s1 σ H1 _ I1 q1) λu s2 ⟨y,H2,I2,r2,q2⟩=>?_
 show hf v u s2 x y H2 I2 r1 r2 q2
def aG(ho:cw X (binaryOp op) r)(ha:PE X a ta)(hb:PE X b tb):PE X (.BinOp a op b pos) (eQ r ta tb):=by
 intro aa s σ H Q I h;show wpAny_BinOp (DM ha hb I h λv u s2 x y H2 I2 rx ry q=>ho aa s2 σ H2 x y v u Q I2 rx ry q)
def dJ{r:V->Hp->VK->Prop}(ho:DK X (unaryOp op) r)(ha:PE X a ta):PE X (.UnaryOp op a pos) (Vi r ta):=by
 intro aa s σ H Q I h;show UnaryOp_ (aR (ha aa s σ H _ I h) λv s1 ⟨x,H1,I1,r1,q1⟩=>ho aa s1 σ H1 x v Q I1 r1 q1)
def tV{f:Value->Value->Sem Value}{C:Int->Int->Prop}{g:Int->Int->Int}(rule:∀(i j:Int) (t u:Tok) (s:Shared) (Q:TH) (E:TH),C i j->Q (.int (g i j) s.toks) {s with toks:=s.toks+1}->wpAny (model X.prog X.w) X.A (f (.int i t) (.int j u)) Q E s) :
  cw X f (rI C λi j=>.int (g i j)):=by
 intro aa s σ H x y v u Q I rx ry h;let⟨i,j,rfl,rfl,hc,q⟩:=h;let⟨t,rfl⟩:=rx;let⟨t',rfl⟩:=ry;show rule i j t t' s _ _ hc ⟨.int (g i j),H,I.tok _,⟨_,O⟩,q⟩
def Kv{f:Value->Value->Sem Value}{g:Int->Int->Int}(rule:∀(i j:Int) (t u:Tok) (s:Shared) (Q:TH) (E:TH),Q (.int (g i j) s.toks) {s with toks:=s.toks+1}->wpAny (model X.prog X.w) X.A (f (.int i t) (.int j u)) Q E s) :
  cw X f (jb λi j=>.int (g i j)):=by
 intro aa s σ H x y v u Q I rx ry h;let⟨i,j,rfl,rfl,q⟩:=h;let⟨t,rfl⟩:=rx;let⟨t',rfl⟩:=ry;show rule i j t t' s _ _ ⟨.int (g i j),H,I.tok _,⟨_,O⟩,q⟩
def AO{f:Value->Value->Sem Value}{g:Int->Int->Bool}(rule:∀(i j:Int) (t u:Tok) (s:Shared) (Q:TH) (E:TH),Q (.bool (g i j)) s->wpAny (model X.prog X.w) X.A (f (.int i t) (.int j u)) Q E s) :
  cw X f (jb λi j=>.bl (g i j)):=by
 intro aa s σ H x y v u Q I rx ry h;let⟨i,j,rfl,rfl,q⟩:=h;let⟨t,rfl⟩:=rx;let⟨t',rfl⟩:=ry;show rule i j t t' s _ _ ⟨.bl (g i j),H,I,O,q⟩
def Vj(i j:Int):=0<j/\j<1073741824
def CMul(i j:Int):=(-(2 ^ 64)<i/\i<2 ^ 64)\/(-(2 ^ 64)<j/\j<2 ^ 64)
def CMul.ok{i j:Int}(h:CMul i j):IntMulOk i j:=by
 rcases h with⟨h1,h2⟩ | ⟨h1,h2⟩
 .show .of_left (intBits_le_64 h1 h2)
 .show .of_right (intBits_le_64 h1 h2)
def a9:cw X (binaryOp .Add) (jb λi j=>.int (i+j)):=Kv λ_ _ _ _ _ _ _ q=>add_int q
def c9:cw X (binaryOp .Sub) (jb λi j=>.int (i-j)):=Kv λ_ _ _ _ _ _ _ q=>sub_int q
def eR:cw X (binaryOp .Mult) (rI CMul λi j=>.int (i*j)):=tV λ_ _ _ _ _ _ _ hc q=>mul_int q hc.ok
def DN:cw X (binaryOp .FloorDiv) (rI Vj λi j=>.int (i / j)):=tV λi j _ _ _ _ _ hc q=>by
 let h1:(0:Int)<j:=hc.1;let h2:j<1073741824:=hc.2;show floordiv_int () (by rw[Int.fdiv_eq_ediv_of_nonneg i ()];show q) (.inl (PyProof.noPylong_small ()))
def mq:cw X (binaryOp .Mod) (rI (λ_ j=>0<j) λi j=>.int (i % j)):=tV λi j _ _ _ _ _ hc q=>by
 let h1:(0:Int)<j:=hc;show mod_int' () (by rw[Int.fmod_eq_emod_of_nonneg i ()];show q)
def Vk{f:Value->Sem Value}{g:Int->Int}(rule:∀(i:Int) (t:Tok) (s:Shared) (Q:TH) (E:TH),Q (.int (g i) s.toks) {s with toks:=s.toks+1}->wpAny (model X.prog X.w) X.A (f (.int i t)) Q E s) :
  DK X f (rU λi=>.int (g i)):=by
 intro aa s σ H x v Q I rx h;let⟨i,rfl,q⟩:=h;let⟨t,rfl⟩:=rx;show rule i t s _ _ ⟨.int (g i),H,I.tok _,⟨_,O⟩,q⟩
def dL:DK X (unaryOp .USub) (rU λi=>.int (-i)):=Vk λ_ _ _ _ _ q=>neg_int q
def DO:V->V->Bool
 | .non,.non=>true | .non,.int _=>true | .int _,.non=>true | .non,.bl _=>true | .bl _,.non=>true | .non,.str _=>true | .str _,.non=>true
 | .int _,.int _=>true | .bl _,.bl _=>true | .str _,.str _=>true | .byt _,.byt _=>true
 | .int _,.str _=>true | .str _,.int _=>true | .bl _,.str _=>true | .str _,.bl _=>true
 | _,_=>false
def Vl:R2:=λx y H Q=>DO x y=true/\Q (.bl (decide (x=y))) H
def Vm:R2:=λx y H Q=>DO x y=true/\Q (.bl ((Bool.not (decide (x=y))))) H
def Kw{i j:Int}:decide (V.int i=V.int j)=(i == j):=by
 rw[yZ];simp
def Kx{i j:Bool}:decide (V.bl i=V.bl j)=(i == j):=by
 rw[yZ];simp
def Ky:decide (V.str i=V.str j)=(i == j):=by
 rw[yZ];simp
def Kz:decide (V.byt i=V.byt j)=(i.toList == j.toList):=by
 rw[yZ];cases i;cases j;simp
def cq{aa:TF}{k k':Bool}(I:Inv X aa σ H s)(q:Q (.bl k) H)(e:k=k'):EP X aa σ Q (.bool k') s:=by
 subst e;show⟨.bl k,H,I,O,q⟩
def bv:cw X (compareOp .Eq) Vl:=by
 intro aa s σ H x y v u Q I rx ry h;let⟨hs,q⟩:=h;cases x with
 | non =>
   cases rx
   cases y with
   | non=>cases ry;show EqNone.eq_none_none (cq I q ∅)
   | bl j=>cases ry;show EqNone.eq_none_bool (cq I q ∅)
   | int j=>let⟨t',rfl⟩:=ry;show EqNone.eq_none_int (cq I q ∅)
   | str j=>let⟨t',rfl⟩:=ry;show EqNone.eq_none_str (cq I q ∅)
   | _=>show qT (show false=true from hs) rA
 | bl i =>
   cases rx
   cases y with
   | non=>cases ry;show EqNone.eq_bool_none (cq I q ∅)
   | bl j=>cases ry;show eq_bool (cq I q Kx)
   | str j=>let⟨t',rfl⟩:=ry;show EqMixed.eq_bool_str (cq I q ∅)
   | _=>show qT (show false=true from hs) rA
 | int i =>
   let⟨t,rfl⟩:=rx
   cases y with
   | non=>cases ry;show EqNone.eq_int_none (cq I q ∅)
   | int j=>let⟨t',rfl⟩:=ry;show eq_int (cq I q Kw)
   | str j=>let⟨t',rfl⟩:=ry;show EqMixed.eq_int_str (cq I q ∅)
   | _=>show qT (show false=true from hs) rA
 | str i =>
   let⟨t,rfl⟩:=rx
   cases y with
   | non=>cases ry;show EqNone.eq_str_none (cq I q ∅)
   | bl j=>cases ry;show EqMixed.eq_str_bool (cq I q ∅)
   | int j=>let⟨t',rfl⟩:=ry;show EqMixed.eq_str_int (cq I q ∅)
   | str j=>let⟨t',rfl⟩:=ry;show eq_str (cq I q Ky)
   | _=>show qT (show false=true from hs) rA
 | byt i =>
   let⟨t,rfl⟩:=rx
   cases y with
   | byt j=>let⟨t',rfl⟩:=ry;show W.eq_bytes (cq I q Kz)
   | _=>show qT (show false=true from hs) rA
 | _=>cases y<;>show qT (show false=true from hs) rA
def jc:cw X (compareOp .NotEq) Vm:=by
 intro aa s σ H x y v u Q I rx ry h;let⟨hs,q⟩:=h;cases x with
 | non =>
   cases rx
   cases y with
   | non=>cases ry;show EqNone.ne_none_none (cq I q ∅)
   | bl j=>cases ry;show EqNone.ne_none_bool (cq I q ∅)
   | int j=>let⟨t',rfl⟩:=ry;show EqNone.ne_none_int (cq I q ∅)
   | str j=>let⟨t',rfl⟩:=ry;show EqNone.ne_none_str (cq I q ∅)
   | _=>show qT (show false=true from hs) rA
 | bl i =>
   cases rx
   cases y with
   | non=>cases ry;show EqNone.ne_bool_none (cq I q ∅)
   | bl j=>cases ry;show ne_bool (cq I q (xH not Kx))
   | str j=>let⟨t',rfl⟩:=ry;show EqMixed.ne_bool_str (cq I q ∅)
   | _=>show qT (show false=true from hs) rA
 | int i =>
   let⟨t,rfl⟩:=rx
   cases y with
   | non=>cases ry;show EqNone.ne_int_none (cq I q ∅)
   | int j=>let⟨t',rfl⟩:=ry;show ne_int (cq I q (xH not Kw))
   | str j=>let⟨t',rfl⟩:=ry;show EqMixed.ne_int_str (cq I q ∅)
   | _=>show qT (show false=true from hs) rA
 | str i =>
   let⟨t,rfl⟩:=rx
   cases y with
   | non=>cases ry;show EqNone.ne_str_none (cq I q ∅)
   | bl j=>cases ry;show EqMixed.ne_str_bool (cq I q ∅)
   | int j=>let⟨t',rfl⟩:=ry;show EqMixed.ne_str_int (cq I q ∅)
   | str j=>let⟨t',rfl⟩:=ry;show ne_str (cq I q (xH not Ky))
   | _=>show qT (show false=true from hs) rA
 | byt i =>
   let⟨t,rfl⟩:=rx
   cases y with
   | byt j=>let⟨t',rfl⟩:=ry;show W.ne_bytes (cq I q (xH not Kz))
   | _=>show qT (show false=true from hs) rA
 | _=>cases y<;>show qT (show false=true from hs) rA
def jd:cw X (compareOp .Lt) (jb λi j=>.bl (decide (i<j))):=AO λ_ _ _ _ _ _ _ q=>lt_int q
def tX:cw X (compareOp .LtE) (jb λi j=>.bl (decide (i<=j))):=AO λ_ _ _ _ _ _ _ q=>le_int q
def gZ:cw X (compareOp .Gt) (jb λi j=>.bl (decide (j<i))):=AO λ_ _ _ _ _ _ _ q=>gt_int q
def AQ:cw X (compareOp .GtE) (jb λi j=>.bl (decide (j<=i))):=AO λ_ _ _ _ _ _ _ q=>ge_int q
def KD(b:Expr)(h:op≠.In:=by decide)(h2:op≠.NotIn:=by decide):behindInMarks op b=false:=by
 let e1:(op == CmpOp.In)=false:=by cases op<;>first | rfl | show qT rfl h
 let e2:(op == CmpOp.NotIn)=false:=by cases op<;>first | rfl | show qT rfl h2
 cases b<;>simp[behindInMarks,e1,e2]
def Vn(ho:cw X (compareOp op) r)(ha:PE X a ta)(hb:PE X b tb)(hm:behindInMarks op b=false):PE X (.Compare a [op] [b] pos) (eQ r ta tb):=by
 intro aa s σ H Q I h;show wpAny_Compare1 (DM ha hb I h λv u s2 x y H2 I2 rx ry q=>ho aa s2 σ H2 x y v u Q I2 rx ry q) hm
inductive KF(Q:Bool->Hp->Prop):V->Hp->Prop
|m {x H'} k:x=.bl k->Q k H'->KF Q x H'
def tY(t:TE):TT:=λσ H Q=>t σ H (KF Q)
def Vo(ho:cw X (compareOp op) r)(ha:PE X a ta)(hb:PE X b tb)(hm:behindInMarks op b=false):PT X (.Compare a [op] [b] pos) (tY (eQ r ta tb)):=by
 intro aa s σ H Q I h;show wpAny_isTrue_Compare1 (aR (ha aa s σ H _ I h) λv s1 ⟨x,H1,I1,r1,q1⟩=>aR (hb aa s1 σ H1 _ I1 q1) λu s2 ⟨y,H2,I2,r2,q2⟩ =>
  aR (ho aa s2 σ H2 x y v u _ I2 r1 r2 q2) λc s3 ⟨z,H3,I3,r3,k,e,q3⟩=>?_) hm
 subst e;cases r3;show yL ⟨H3,I3,q3⟩
def Vp(r r':R2)(ta tb tc:TE):TE:=λσ H Q=>ta σ H λx H1=>tb σ H1 λy H2=>r x y H2 λz H3=>∃k,z=.bl k /\
 (if k=true then tc σ H3 λw' H4=>r' y w' H4 Q else Q (.bl false) H3)
def Vq(ho:cw X (compareOp op) r)(kC:cw X (compareOp KG) r')(ha:PE X a ta)(hb:PE X b tb)(hc:PE X c tc)(hm:lastMarks [op,KG] [b,c]=false:=by with_unfolding_all rfl):PT X (.Compare a [op,KG] [b,c] pos) (tY (Vp r r' ta tb tc)):=by
 intro aa s σ H Q I h;show isTrue_chain (aR (ha aa s σ H _ I h) λv s1 ⟨x,H1,I1,r1,q1⟩=>test_link (aR (hb aa s1 σ H1 _ I1 q1) λu s2 ⟨y,H2,I2,r2,q2⟩ =>
  aR (ho aa s2 σ H2 x y v u _ I2 r1 r2 q2) λd s3 ⟨z,H3,I3,r3,k,e,q3⟩=>?_)) hm
 subst e;cases r3;show yL ?_;cases k with
 | false =>
   let⟨k',e',q'⟩:=q3
   cases e'
   show ite_ff ⟨H3,I3,q'⟩
 | true =>
   show ite_tt (test_last (aR (hc aa s3 σ H3 _ I3 q3) λw' s4 ⟨z',H4,I4,r4,q4⟩=>aR (kC aa s4 σ H4 y z' u w' _ I4 r2 r4 q4) λd' s5 ⟨z2,H5,I5,r5,k2,e2,q5⟩=>?_))
   subst e2
   cases r5
   show yL ⟨H5,I5,q5⟩
def pV:(sizeLine:Nat)<2 ^ 63:=by rw[sizeLine_eq];decide
def DP:cw X (binaryOp .Add) (λx y H Q=>∃i j,x=.str i/\y=.str j/\i⁻¹+j⁻¹<=sizeLine/\Q (.str (i++j)) H):=by
 intro aa s σ H x y v u Q I rx ry h;let⟨i,j,rfl,rfl,hz,q⟩:=h;let⟨t,rfl⟩:=rx;let⟨t',rfl⟩:=ry;show add_str (λt' tk=>⟨.str (i++j),H,I.tok _,⟨_,O⟩,q⟩) hz
def vals1(r:Vals [x] us):∃u,us=[u]/\RelV x u:=by
 cases r with
 | cons r1 r2=>cases r2;show-⟨r1⟩
def vals2(r:Vals [x,y] us):∃u w',us=[u,w']/\RelV x u/\RelV y w':=by
 cases r with
 | cons r1 r2 =>
   cases r2 with
   | cons r3 r4=>cases r4;show⟨_,_,O,r1,r3⟩
def kH(hc:X.calm=true):eB X (.builtin "max") (λxs H Q=>∃i j,xs=[.int i,.int j]/\Q (.int (if j>i then j else i)) H):=by
 intro aa s σ H xs us Q I r h;let⟨i,j,rfl,q⟩:=h;let⟨u,w',rfl,⟨t,rfl⟩,⟨t',rfl⟩⟩:=vals2 r;show max_two_ints (I.ok.hd hc) λh' tk k=>⟨_,H,I.kept k,?_,q⟩
 by_cases hj:j>i
 .rw[qX hj,qX hj];show⟨_,O⟩
 .rw[qY hj,qY hj];show⟨_,O⟩
def tZ(hc:X.calm=true):eB X (.builtin "min") (λxs H Q=>∃i j,xs=[.int i,.int j]/\Q (.int (if j<i then j else i)) H):=by
 intro aa s σ H xs us Q I r h;let⟨i,j,rfl,q⟩:=h;let⟨u,w',rfl,⟨t,rfl⟩,⟨t',rfl⟩⟩:=vals2 r;show min_two_ints (I.ok.hd hc) λh' tk k=>⟨_,H,I.kept k,?_,q⟩
 by_cases hj:j<i
 .rw[qX hj,qX hj];show⟨_,O⟩
 .rw[qY hj,qY hj];show⟨_,O⟩
def AR:eB X (.type "int") (λxs H Q=>(∃i,xs=[.int i]/\Q (.int i) H)\/∃k,xs=[.bl k]/\Q (.int (if k then 1 else 0)) H):=by
 intro aa s σ H xs us Q I r h;rcases h with⟨i,rfl,q⟩ | ⟨k,rfl,q⟩
 .let⟨u,rfl,t,rfl⟩:=vals1 r;show call_int_int ⟨.int i,H,I,⟨_,O⟩,q⟩
 .let⟨u,rfl,r1⟩:=vals1 r;cases r1;show call_int_bool ⟨.int (if k then 1 else 0),H,I.tok _,⟨_,O⟩,q⟩
def Vr:eB X (.type "str") (λxs H Q=>∃i,xs=[.int i]/\i.natAbs.log2<1920/\Q (.str (toString i)) H):=by
 intro aa s σ H xs us Q I r h;let⟨i,rfl,hz,q⟩:=h;let⟨u,rfl,t,rfl⟩:=vals1 r;show P.str_of_int hz ⟨.str _,H,I.tok _,⟨_,O⟩,q⟩
end
def RelO.some_of(r:RelO (!v) o):∃u,o=!u/\RelV v u:=by
 cases o with
 | none=>show(show False from r).elim
 | some u=>show⟨u,O,r⟩
structure Room(k:Nat)(A:Around):Prop where
 hd:A.handled=none
 dp:A.depth+3*k+5<recursionLimit
 un:A.units+16*k+200<cLine
def Room.mono{j k:Nat}(r:Room k A)(h:j<=k):Room j A:=⟨r.hd,by have:=r.dp;omega,by have:=r.un;omega⟩
def Room.deeper{k:Nat}(r:Room (k+1) A)(env:Env):Room k (A.deeper env) :=
 ⟨r.hd,by have:=r.dp;show A.depth+1+3*k+5<_;omega,by have:=r.un;show A.units+3+16*k+200<_;omega⟩
def Room.in1{k:Nat}(r:Room (k+1) A):Room k A.in1 :=
 ⟨r.hd,by have:=r.dp;show A.depth+3*k+5<_;omega,by have:=r.un;show A.units+1+16*k+200<_;omega⟩
def Room.depth{k:Nat}(r:Room k A):A.depth<recursionLimit:=by have:=r.dp;omega
def Room.units{k:Nat}(r:Room k A):A.units+64<cLine:=by have:=r.un;omega
def je:TA:=λ_ H Q=>Q [] H
def eC(ta:TE)(tr:TA):TA:=λσ H Q=>ta σ H λx H1=>tr σ H1 λxs H2=>Q (x::xs) H2
section
variable{X:Cx}{e:Expr}{es:TW}{te:TE}{t:TA}{pos:Pos}
def bX:PA X [] je:=λ_ _ _ _ H Q I h=>Calls.spliced_nil ⟨[],H,I,.nil,h⟩
def aO(ha:PE X e te)(hr:PA X es t)(hs:starEach (e::es) X.env=(false,eval e X.env)::starEach es X.env:=by rfl):PA X (e::es) (eC te t):=by
 intro pos aa s σ H Q I h;rw[hs];show wpAny _ _ (spliced ((false,eval e X.env)::backTo pos (starEach es X.env))) _ _ s;show Calls.spliced_cons (aR (ha aa s σ H _ I h) λu s1 ⟨x,H1,I1,r1,q1⟩=>?_);show aR (hr pos aa s1 σ H1 _ I1 q1) λus s2 ⟨xs,H2,I2,r2,q2⟩=>⟨x::xs,H2,I2,.cons r1 r2,q2⟩
def DQ(t:TA):TE:=λσ H Q=>t σ H λxs H1=>xs⁻¹<=sizeLine/\∀p,H1 p=none->Q (.ref p) (af H1 p (.tup xs))
def pW(t:TA):TE:=λσ H Q=>t σ H λxs H1=>xs⁻¹<=sizeLine/\∀p,H1 p=none->Q (.ref p) (af H1 p (.lst xs))
def bR{x1}(h:PA X es t):PE X (.Tuple es x1 pos) (DQ t):=by
 intro aa s σ H Q I hq;show wpAny_Tuple_spliced (aR (h pos aa s σ H _ I hq) λus s1 ⟨xs,H1,I1,r,z,q⟩=>⟨by rw[<-r⁻¹];show z,?_⟩);let hf:H1 (~~~s1)=none:=I1.hok.fresh (qG _);show⟨.ref (~~~s1),af H1 (~~~s1) (.tup xs),I1.laid (t':=s1.toks) (λb u e=>qF _ e) (qG _) ?_,O,q _ hf⟩;show⟨z,us,r,⟨_,qQ _ O,O,_,O⟩⟩
def bf(h:PA X es t):PE X (.List es pos) (pW t):=by
 intro aa s σ H Q I hq;show wpAny_List_spliced (aR (h pos aa s σ H _ I hq) λus s1 ⟨xs,H1,I1,r,z,q⟩=>⟨by rw[<-r⁻¹];show z,?_⟩);let hf:H1 (~~~s1)=none:=I1.hok.fresh (qG _);show⟨.ref (~~~s1),af H1 (~~~s1) (.lst xs),I1.laid (t':=s1.toks) (λb u e=>qF _ e) (qG _) ?_,O,q _ hf⟩;show⟨z,us,0,r,qQ _ O⟩
end
abbrev Sp:=List V->Hp->VK->XK->Prop
abbrev dt:=List Env->Hp->Shared->XK->Value->Shared->Prop
structure Env0(P:Program)(w:World)(K:W.Frag)(mg:TJ)(base:Heap)(A:Around)(outer:List Env)(s:Shared)(H:Hp):Prop where
 frames:A.frames=!outer
 mod:Mod K mg base
 bs:∀b o,base.get? b=!o->s.heap.get? b=!o/\H b=none
 bsz:base.objs.size<= ~~~s
 funs:s.heap.FunFrames base outer
 frf:∀b∈c8 outer,H b=none
 hok:HOk P w H s.heap
 bare:AllBare s.gens
def CE(outer:List Env)(P:Program)(w:World)(H:Hp)(s:Shared)(Q:VK)(u:Value)(s':Shared):Prop :=
 ∃v H',s'.os=s.os/\AllBare s'.gens/\Un (c8 outer) [] H H' s.heap s'.heap/\HOk P w H' s'.heap/\RelV v u/\Q v H'
def CR(CX:dt)(outer:List Env)(P:Program)(w:World)(H:Hp)(s:Shared)(Q:VK)(E:XK)(r:Result)(s':Shared):Prop :=
 match r with
 | .ok (.ret u)=>CE outer P w H s Q u s'
 | .ok _=>False
 | .error e=>CX outer H s E e s'
structure aN(P:Program)(w:World)(K:W.Frag)(mg:TJ)(base:Heap)(CX:dt)(k:Nat)(f:Addr)(fd:FuncData)(ps:TV)(sp:Sp):Prop where
 len:∀vs H Q E,sp vs H Q E->vs⁻¹=ps⁻¹
 run:∀(A:Around) (outer:List Env) (s:Shared) (H:Hp) (args:Args) (us:TU) (vs:List V) (Q:VK) (E:XK),Room k A->Env0 P w K mg base A outer s H->BindsTo s fd args (ps.zip us)->Vals vs us->sp vs H Q E ->
  codeAny (model P w) A (.call (.ref f) args) (CR CX outer P w H s Q E) s
def Env0.in1{P:Program}{w:World}{K:W.Frag}{mg:TJ}{base:Heap}{A:Around}{outer:List Env}{s:Shared}{H:Hp}(e:Env0 P w K mg base A outer s H) :
  Env0 P w K mg base A.in1 outer s H:=⟨e.frames,e.mod,e.bs,e.bsz,e.funs,e.frf,e.hok,e.bare⟩
section
variable{X:Cx}{aa:TF}{σ:St}{H:Hp}{s s':Shared}
def Inv.env0(I:Inv X aa σ H s):Env0 X.prog X.w X.K X.mg X.base X.A X.stack s H :=
 ⟨I.ok.frames,I.ok.mod,I.bs,rK I.ok.bsz I.sz,I.stack,I.stkFree,I.hok,I.bare⟩
def Inv.after(I:Inv X aa σ H s)(h:CE X.stack X.prog X.w H s Q u s'):EP X aa σ Q u s':=by
 let⟨v,H',os,bare,un,hok,r,q⟩:=h;let⟨hh,g,d,t,kI⟩:=s';obtain rfl:kI=s.os:=os;show⟨v,H',I.call (h':=hh) (g':=g) (d':=d) (t':=t) (ch:=[]) un hok bare (λb z=>qT z ∅),r,q⟩
end
def AS(sp:Sp)(jf:List V)(E:XK)(t:TA):TE:=λσ H Q=>t σ H λvs H1=>sp (vs++jf) H1 Q E
def Binds(K:W.Frag)(fd:FuncData)(ps:TV)(ds:TU):Prop :=
 ∀(s:Shared) (us:TU),K.In s.heap->(us++ds)⁻¹=ps⁻¹->BindsTo s fd ⟨us,[]⟩ (ps.zip (us++ds))
def Binds.all{K:W.Frag}{fd:FuncData}{ps:TV}(h:∀us:TU,us⁻¹=ps⁻¹->bindArgs fd ⟨us,[]⟩=pure (ps.zip us)):Binds K fd ps []:=λs us _ hl=>by
 rw[rZ]at hl⊢;show .of_eq (h us hl)
def ua(CX:dt)(X:Cx)(E:XK):=∀(aa:TF) (σ:St) (H:Hp) (s:Shared) (e:Value) (s':Shared),Inv X aa σ H s->CX X.stack H s E e s'->X.xe e s'
section
variable{X:Cx}{CX:dt}{k:Nat}{f C:Addr}{fd:FuncData}{ps:TV}{sp:Sp}{jf:List V}{ds:TU}{E:XK}{x m:Str}{p pos nZ:Pos}{e o:Expr}{es:TW}{ta:TE}{t:TA}
def Vs{aa:TF}(F:aN X.prog X.w X.K X.mg X.base CX k f fd ps sp)(hr:Room k X.A)(hb:Binds X.K fd ps ds)(hd:Vals jf ds)(hx:ua CX X E)(I:Inv X aa σ H s)(r:Vals vs us)(h:sp (vs++jf) H Q E):wpAny (model X.prog X.w) X.A (call (.ref f) us) (EP X aa σ Q) X.xe s:=by
 let r2:Vals (vs++jf) (us++ds):=r.append hd;let hl:(us++ds)⁻¹=ps⁻¹:=by rw[<-r2⁻¹];show F.len _ _ _ _ h
 show wpAny_call (uQ (F.run X.A X.stack s H ⟨us,[]⟩ (us++ds) (vs++jf) Q E hr I.env0 (hb s us I.kIn hl) r2 h) λr s' hq=>?_);cases r with
 | error e=>show hx aa σ H s e s' I hq
 | ok fl =>
   cases fl with
   | ret u=>show I.after hq
   | next=>show False.elim hq
   | brk=>show False.elim hq
   | cont=>show False.elim hq
def KH(F:aN X.prog X.w X.K X.mg X.base CX k f fd ps sp)(hr:Room k X.A)(hg:Gl X x)(hm:X.mg x=!.ref f)(hk:W.keepIn X.K (.ref f)=true)(hb:Binds X.K fd ps ds)(hd:Vals jf ds)(hx:ua CX X E)(ha:PA X (e::es) t)(g8:(x == ("__debug__" : Str))=false:=by decide)(he:starEach (e::es) X.env=(false,eval e X.env)::starEach es X.env:=by rfl)(dS:(backTo pos (starEach es X.env)).any (·.1)=false:=by rfl) :
  PE X (.Call (.Name x p) (e::es) [] pos) (AS sp jf E t):=by
 intro aa s σ H Q I h;show uL (J4 I hg hm ?_ g8);show W.callWith_K (h₀:=X.base) I.ok.mod.kin hk (aR (ha pos aa s σ H _ I h) λus s1 ⟨vs,H1,I1,r,q⟩=>⟨I1.kIn,?_⟩) he dS;show Vs F hr hb hd hx I1 r q
end
structure n8(N P:TV)(sc:Scope):Prop where
 kind:sc.kind=.function
 co:sc.isCoroutine=false
 gen:sc.isGenerator=false
 nd:N.Nodup
 pre:N.take P.length=P
 par:∀x∈P,sc.names.lookup x=!.local\/sc.names.lookup x=!.cell
 nofree:∀y∈sc.names,y.2≠.free
theorem KI{kindOf:Str->Option NameKind}:∀{binds:List (Str×Value)} {m:TJ},(∀v,(x,v)∉binds)->bindL kindOf binds m x=m x
 | [],_,_=>rfl
 | (n, v) :: r, m, h => by
   unfold bindL
   rw[KI λw hw=>h w (qS _ hw)]
   split
   · have:x≠n:=by ext rfl;show h v rE
     simp[this]
   · rfl
theorem KJ{kindOf:Str->Option NameKind}:∀{binds:List (Str×Value)} {m:TJ},(∀v,(x,v)∉binds)->bindC kindOf binds m x=m x
 | [],_,_=>rfl
 | (n, v) :: r, m, h => by
   unfold bindC
   rw[KJ λw hw=>h w (qS _ hw)]
   split
   · rfl
   · have:x≠n:=by ext rfl;show h v rE
     simp[this]
theorem KM{kindOf:Str->Option NameKind}:∀{P:TV} {vs:TU} {i:Nat} {m:TJ},P.Nodup->P[i]?=!x->vs[i]?=!v->kindOf x=!.local ->
  bindL kindOf (P.zip vs) m x=!v
 | [],_,_,_,_,h,_,_=>by simp at h
 | _::_,[],_,_,_,_,h,_=>by simp at h
 | p :: P, w :: vs, 0, m, nd, h1, h2, hk => by
   simp at h1 h2;subst h1;subst h2
   show bindL kindOf ((p,w)::P.zip vs) m p=_
   unfold bindL
   rw[KI λv hv=>(y9.mp nd).1 (v6 hv).1,qX hk]
   simp
 | p :: P, w :: vs, i + 1, m, nd, h1, h2, hk => by
   show bindL kindOf ((p,w)::P.zip vs) m x=_
   unfold bindL
   show KM (i:=i) (y9.mp nd).2 ‹h1› ‹h2› hk
theorem KN{kindOf:Str->Option NameKind}:∀{P:TV} {vs:TU} {i:Nat} {m:TJ},P.Nodup->P[i]?=!x->vs[i]?=!v->kindOf x≠!.local ->
  bindC kindOf (P.zip vs) m x=!v
 | [],_,_,_,_,h,_,_=>by simp at h
 | _::_,[],_,_,_,_,h,_=>by simp at h
 | p :: P, w :: vs, 0, m, nd, h1, h2, hk => by
   simp at h1 h2;subst h1;subst h2
   show bindC kindOf ((p,w)::P.zip vs) m p=_
   unfold bindC
   rw[KJ λv hv=>(y9.mp nd).1 (v6 hv).1,qY hk]
   simp
 | p :: P, w :: vs, i + 1, m, nd, h1, h2, hk => by
   show bindC kindOf ((p,w)::P.zip vs) m x=_
   unfold bindC
   show KN (i:=i) (y9.mp nd).2 ‹h1› ‹h2› hk
def start(N:TV)(vs:List V):St:=vs.map some++List.replicate (N.length-vs⁻¹) none
def fT(CX:dt)(P:Program)(w:World)(K:W.Frag)(mg:TJ)(base:Heap)(N:TV)(qual:Str)(scope:Scope)(f:Addr)(cd:Value)(A:Around)(outer:List Env)(s:Shared)(H:Hp)(E:XK):Cx where
 prog:=P
 w:=w
 K:=K
 mg:=mg
 base:=base
 A:=A.deeper (envOfC qual scope (~~~s) f cd)
 N:=N
 s₀:=s
 H₀:=H
 env:=envOfC qual scope (~~~s) f cd
 outer:=outer
 stack:=envOfC qual scope (~~~s) f cd::outer
 ex:=[]
 calm:=true
 fn:=λ_=>true
 pn:=[]
 xe:=λe s'=>wpAny (model P w) (A.deeper (envOfC qual scope (~~~s) f cd)) (leaving (envOfC qual scope (~~~s) f cd) e) (λ_ DR=>CX outer H s E e DR) (λe' DR=>CX outer H s E e' DR) s'
def KO{sc:Scope}{n:Nat}{x:Str}(h:sc.names.lookup x=!.cell):∃c,(cellsFrom n sc.names []).lookup x=!c:=by
 let q:=W.cellsFrom_some sc.names n [] (.inl h);show Option.isSome_iff_exists.mp q
def Vt{CX:dt}{P:Program}{w:World}{K:W.Frag}{mg:TJ}{base:Heap}{N ps:TV}{qual:Str}{scope:Scope}{f:Addr}{cd:Value}{A:Around}{outer:List Env}{s s1:Shared}{H:Hp}{E:XK}{us:TU}{vs:List V}(S:n8 N ps scope)(hd:A.handled=none)(e0:Env0 P w K mg base A outer s H)(hl:vs⁻¹=ps⁻¹)(r:Vals vs us)(x:InCallC s (~~~s) (bindL (envOfC qual scope (~~~s) f cd).kindOf (ps.zip us) λ_=>none) (cellsFrom (~~~s+1) scope.names []) (bindC (envOfC qual scope (~~~s) f cd).kindOf (ps.zip us) λ_=>none) s1) :
  Inv (fT CX P w K mg base N qual scope f cd A outer s H E) [] (start N vs) H s1:=by
 let dS:ps⁻¹<=N.length:=by have:=xH List.length S.pre;rw[yC]at this;omega
 let⟨h1,tk,rfl,hk⟩:=x.done;let ud:∀b:Addr,b∉(fT CX P w K mg base N qual scope f cd A outer s H E).ex:=λb z=>qT (show b∈([]:TQ)from z) ∅
 show⟨⟨e0.mod,S.kind,O,O,qG _,λy z c h1 h2=>?_,λy hy=>?_,λy c _ h=>?_,λ_=>hd,Around.frames_deeper e0.frames,.inr ⟨O,O⟩,λb z=>qT z (ud b),e0.bs,e0.bsz,λb _ _=>ud b,λb z=>qT z (ud b),e0.funs,e0.frf⟩,
  rfl,e0.bare,Un.kept hk,⟨_,x.toInCall.ns,λi y v h1 h2 h3=>?_⟩,λy c h=>⟨_,x.cell y c h⟩,e0.hok.fresh (qG _),λy c h=>?_,λp hp=>qT (show p∈([]:TF)from hp) ∅,e0.hok.kept hk,?_⟩
 .show name_of_addr x.apart (uS h1) (uS h2)
 .let hy:scope.names.lookup y=!.cell\/scope.names.lookup y=!.free:=hy;rcases hy with hy | hy
  .show KO hy
  .show qT O (S.nofree _ (uS hy))
 .show xD (x.above y c (uS h))
 .have hi:i<vs⁻¹:=by
   unfold start at h2
   by_cases hi:i<vs⁻¹
   .show hi
   .rw[rL ‹hi›]at h2;rw[List.getElem?_replicate]at h2
    split at h2<;>cases h2
  let ha:vs[i]?=!v:=by
   unfold start at h2;rw[xE ‹hi›,qH]at h2;cases e:vs[i]? with
   | none=>rw[e]at h2;cases h2
   | some a=>rw[e]at h2;cases h2;rfl
  let⟨u,hu,rv⟩:=r.get ha;let hp:ps[i]?=!y:=by
   rw[<-S.pre,List.getElem?_take_of_lt ()];show h1
  let KQ:ps.Nodup:=by rw[<-S.pre];show S.nd.sublist (List.take_sublist _ _)
  show⟨u,rv,?_⟩;rcases S.par y (qN hp)with k | k
  .show .inl ⟨k,KM KQ hp hu k⟩
  .let⟨c,e⟩:=KO (n:= ~~~s+1) k;show .inr ⟨.inl k,c,e,?_⟩;let q:=x.cell y c e;rw[KN KQ hp hu (by show scope.names.lookup y≠_;rw[k];decide)]at q;show q
 .show e0.hok.fresh (xD (x.above y c (uS h)))
 .unfold start;show _=N.length;rw[qJ,qA,yH];omega
def DS{CX:dt}{P:Program}{w:World}{K:W.Frag}{mg:TJ}{base:Heap}{k:Nat}{f:Addr}{name qual:Str}{params:Arguments}{body:List Stmt}{scope:Scope}{dV kV bq pm aE ct oc:Value}{an od:Option Addr}{fB:Array (Option Value)}{N ps:TV}{sp:Sp}(lk:K.lookup f=!⟨oc,od,.func (W.fnOf name qual params body scope dV kV bq pm an aE ct),fB⟩)(fS:W.codeIn K aE qual=true)(S:n8 N ps scope)(len:∀vs H Q E,sp vs H Q E->vs⁻¹=ps⁻¹)(kJ:∀(A:Around) (outer:List Env) (s:Shared) (H:Hp) (vs:List V) (Q:VK) (E:XK),Room k (A.deeper (envOfC qual scope (~~~s) f aE))->sp vs H Q E ->
   ∃t,PSs (fT CX P w K mg base N qual scope f aE A outer s H E) body t/\t {nx:=λ_ H'=>Q .non H',rt:=Q} (start N vs) H) :
  aN P w K mg base CX (k+1) f (W.fnOf name qual params body scope dV kV bq pm an aE ct) ps sp:=by
 show⟨len,λA outer s H args us vs Q E hr e0 hb r fU=>?_⟩;let hl:=len _ _ _ _ fU;let KX:K.In s.heap:=e0.mod.kin.keeps λb o e=>(e0.bs b o e).1
 let Vu:s.heap.NoLimit:=e0.mod.nolimit.keeps λb o e=>(e0.bs b o e).1
 let Vv:∀y∈ps.zip us,scope.names.lookup y.1=!.local\/(scope.names.lookup y.1=!.cell/\((cellsFrom (~~~s+1) scope.names []).lookup y.1).isSome=true):=λ⟨n,v⟩ hy=>by
  rcases S.par n (v6 hy).1 with q | q
  .show .inl q
  .show .inr ⟨q,W.cellsFrom_some _ _ _ (.inl q)⟩
 show codeAny_call_function hr.depth (KX _ _ lk) O S.co S.gen O (W.codeRec_of KX fS) (hb _ _ _ _ ?_);show wpAny_newFunctionEnv_cells S.kind Vv λenv he s1 x=>?_
 subst he;show⟨Vu.keeps x.toInCall.keep,codeAny_func ?_⟩;let⟨t,ht,hq⟩:=kJ A outer s H vs Q E (hr.deeper _) fU;let I:Inv (fT CX P w K mg base N qual scope f aE A outer s H E) [] (start N vs) H s1:=Vt S hr.hd e0 hl r x;show xJ (ht [] s1 (start N vs) H _ I hq) (λfl s' hs=>?_) λe s' hs=>hs
 let fin:∀{ae:St} {H':Hp} {v:V} {u:Value},Inv (fT CX P w K mg base N qual scope f aE A outer s H E) [] ae H' s'->RelV v u->Q v H'->CE outer P w H s Q u s' :=
  λ{ae H' v u} J rv q=>⟨v,H',J.os,J.bare,J.base,J.hok,rv,q⟩
 cases fl with
 | ret u =>
   let⟨v,ae,H',J,rv,q⟩:=hs
   show fin J rv q
 | next =>
   let⟨ae,H',J,q⟩:=hs
   show fin (v:=V.non) (u:=Value.none) J O q
 | brk =>
   let⟨_,_,_,q⟩:=hs
   show False.elim q
 | cont =>
   let⟨_,_,_,q⟩:=hs
   show False.elim q
section
variable{X:Cx}{x:Str}{p pos:Pos}{e:Expr}{es:TW}{t:TA}{id T:String}{r:List V->Hp->VK->Prop}
def AT(r:List V->Hp->VK->Prop)(t:TA):TE:=λσ H Q=>t σ H λvs H1=>r vs H1 Q
def Vw(hc:eB X (.builtin id) r)(hg:Gl X x)(hm:X.mg x=none)(hv:bootBuiltins x=!.builtin id)(ha:PA X (e::es) t)(hn:x ≠ "__name__":=by decide)(g8:(x == ("__debug__" : Str))=false:=by decide)(he:starEach (e::es) X.env=(false,eval e X.env)::starEach es X.env:=by rfl)(dS:(backTo pos (starEach es X.env)).any (·.1)=false:=by rfl):PE X (.Call (.Name x p) (e::es) [] pos) (AT r t):=by
 intro aa s σ H Q I h;show uL (jG I hg hm hv ?_ hn g8);show PyProof.Rows.callWith_builtin1 (aR (ha pos aa s σ H _ I h) λus s1 ⟨vs,H1,I1,r1,q1⟩=>hc aa s1 σ H1 vs us Q I1 r1 q1) he dS
def iL(hc:eB X (.type T) r)(hg:Gl X x)(hm:X.mg x=none)(hv:bootBuiltins x=!.type T)(ha:PA X (e::es) t)(hn:x ≠ "__name__":=by decide)(g8:(x == ("__debug__" : Str))=false:=by decide)(he:starEach (e::es) X.env=(false,eval e X.env)::starEach es X.env:=by rfl)(dS:(backTo pos (starEach es X.env)).any (·.1)=false:=by rfl):PE X (.Call (.Name x p) (e::es) [] pos) (AT r t):=by
 intro aa s σ H Q I h;show uL (jG I hg hm hv ?_ hn g8);show xV (aR (ha pos aa s σ H _ I h) λus s1 ⟨vs,H1,I1,r1,q1⟩=>hc aa s1 σ H1 vs us Q I1 r1 q1) he dS
end
end L2
namespace HT
open PyProof.Rows
section
variable{prog:Program}{w:World}{A:Around}{E:TH}{s:Shared}
def sIx(n d:Nat):Option Int->Nat
 | none=>d
 | some v=>if v<0 then(v+(n:Int)).toNat else min v.toNat n
def sIx_none(n d:Nat):sIx n d none=d:=rfl
def sIx_nat(n d k:Nat):sIx n d (!(k:Int))=min k n:=by
 show(if(k:Int)<0 then((k:Int)+(n:Int)).toNat else min (k:Int).toNat n)=min k n;rw[qY (),uD]
end
end HT
namespace L2
open PyProof.Rows
abbrev TO:=St->Hp->(Option Int->Hp->Prop)->Prop
def PO(X:Cx)(e:Option Expr)(t:TO):Prop :=
 ∀(aa:TF) (s:Shared) (σ:St) (H:Hp) (Q:Option Int->Hp->Prop),Inv X aa σ H s->t σ H Q ->
  wpAny (model X.prog X.w) X.A (evalPart e X.env) (λu s'=>∃o H',Inv X aa σ H' s'/\IsPart u o/\Q o H') X.xe s
def Vx:TO:=λ_ H Q=>Q none H
inductive KR(Q:Option Int->Hp->Prop):V->Hp->Prop
|m {x H1} i:x=.int i->Q (!i) H1->KR Q x H1
def Vy(t:TE):TO:=λσ H Q=>t σ H (KR Q)
section
variable{X:Cx}{e:Expr}{te:TE}{lo hi:Option Expr}{tl th:TO}{pos p2:Pos}
def oa:PO X none Vx:=by
 intro aa s σ H Q I h;rw[evalPart_none];show qL ⟨none,H,I,.none,h⟩
def hG(h:PE X e te):PO X (!e) (Vy te):=by
 intro aa s σ H Q I hw;rw[evalPart_some];show aR (h aa s σ H _ I hw) λu s1 ⟨x,H1,I1,r1,q1⟩=>?_
 let⟨i,rfl,q⟩:=q1;let⟨t,rfl⟩:=r1;show⟨!i,H1,I1,.int i t,q⟩
def DT(X:Cx)(r:V->Option Int->Option Int->Hp->VK->Prop):Prop :=
 ∀(aa:TF) (s:Shared) (σ:St) (H:Hp) (x:V) (v vl vu:Value) (lo hi:Option Int) (sl:Addr) (Q:VK),Inv X aa σ H s->RelV x v->s.heap.IsSliceOf sl vl vu .none->IsPart vl lo->IsPart vu hi->r x lo hi H Q ->
  ∃T id,typeLookup (.type T) "__getitem__" = pure (!.builtin id)/\s.TypeIs v T/\wpAny (model X.prog X.w) X.A (getItem v (.ref sl)) (EP X aa σ Q) X.xe s
def Vz(r:V->Option Int->Option Int->Hp->VK->Prop)(te:TE)(tl th:TO):TE:=λσ H Q=>te σ H λx H1=>tl σ H1 λl H2=>th σ H2 λu H3=>r x l u H3 Q
def jL{r:V->Option Int->Option Int->Hp->VK->Prop}(hr:DT X r)(he:PE X e te)(hl:PO X lo tl)(hu:PO X hi th):PE X (.Subscript e (.Slice lo hi none p2) pos) (Vz r te tl th):=by
 intro aa s σ H Q I h;show Subscript_ (aR (he aa s σ H _ I h) λv s1 ⟨x,H1,I1,r1,q1⟩=>?_);show wpAny_Slice (aR (hl aa s1 σ H1 _ I1 q1) λvl s2 ⟨l,H2,I2,pl,q2⟩=>aR (hu aa s2 σ H2 _ I2 q2) λvu s3 ⟨u,H3,I3,pu,q3⟩=>?_);rw[evalPart_none];show qL ?_;let I4:Inv X aa σ H3 {s3 with heap:=s3.heap.push {cls:=.type "slice",data:=.fields #[vl,vu,.none]}}:=I3.kept (t':=s3.toks) λb ob q=>qF _ q
 let⟨T,id,hT,ht,hg⟩:=hr aa {s3 with heap:=s3.heap.push {cls:=.type "slice",data:=.fields #[vl,vu,.none]}} σ H3 x v vl vu l u (~~~s3) Q I4 r1 (Heap.IsSliceOf.new ..) pl pu q3;show wpAny (model X.prog X.w) X.A (subscriptTail e (.Slice lo hi none p2) v (.ref (~~~s3))) (EP X aa σ Q) X.xe {s3 with heap:=s3.heap.push {cls:=.type "slice",data:=.fields #[vl,vu,.none]}};show tail_any (ops:=[.ref (~~~s3),v]) ht hT hg (by with_unfolding_all rfl)
def fV(xs:List V)(lo hi:Option Int):List V:=(xs.drop (HT.sIx xs⁻¹ 0 lo)).take (HT.sIx xs⁻¹ xs⁻¹ hi-HT.sIx xs⁻¹ 0 lo)
def VA(xs:List V)(lo hi:Option Int):(fV xs lo hi)⁻¹<=xs⁻¹:=by
 unfold fV;rw[yC,vM];omega
end
def fW(n:Nat)(i:Int):Option Nat:=if 0<=i then(if i<n then !i.toNat else none)else if -(n:Int)<=i then !(i+n).toNat else none
def bO{α:Type}(xs:List α)(i:Int):Option α:=(fW xs⁻¹ i).bind λj=>xs[j]?
def KU{n:Nat}{i:Int}{j:Nat}(h:fW n i=!j):seqIndex? i n=!j/\j<n/\-(n:Int)<=i/\i<n:=by
 unfold fW at h
 by_cases h0:0<=i
 .rw[qX h0]at h
  by_cases h1:i<n
  .rw[qX h1]at h;let e:i.toNat=j:=qZ h;show⟨by rw[seqIndex_of h0 h1,e],(),(),h1⟩
  .rw[qY h1]at h;cases h
 .rw[qY h0]at h
  by_cases h1:-(n:Int)<=i
  .rw[qX h1]at h;let e:(i+n).toNat=j:=qZ h;show⟨by rw[seqIndex_neg () h1,e],(),h1,()⟩
  .rw[qY h1]at h;cases h
def DU{α:Type}{xs:List α}{i:Int}{v:α}(h:bO xs i=!v):∃j,seqIndex? i xs⁻¹=!j/\xs[j]?=!v/\j<xs⁻¹/\-(xs⁻¹:Int)<=i/\i<xs⁻¹:=by
 unfold bO at h;cases e:fW xs⁻¹ i with
 | none=>rw[e]at h;cases h
 | some j =>
   rw[e]at h
   let⟨h1,h2,h3,h4⟩:=KU e
   show⟨j,h1,h,h2,h3,h4⟩
def fX{α:Type}{xs:List α}{j:Nat}{v:α}(h:xs[j]?=!v):bO xs (j:Int)=!v:=by
 let hj:j<xs⁻¹:=(qE.mp h).1;let e:fW xs⁻¹ (j:Int)=!j:=by
  unfold fW;rw[qX (),qX ()];simp
 unfold bO;rw[e];show h
def atI_last{α:Type}(xs:List α)(v:α):bO (xs++[v]) (-1)=!v:=by
 let hl:(xs++[v])⁻¹=xs⁻¹+1:=∅
 let e:fW (xs++[v])⁻¹ (-1)=!xs⁻¹:=by
  unfold fW;rw[hl,qY {},qX ()]
  congr 1
  omega
 unfold bO;rw[e];show(xs++[v])[xs⁻¹]?=!v;simp
def KW(b:Expr):=∀o i,subscripted b false o i=operate [o,i] (getItem o i)
def ue(X:Cx)(r:R2):Prop :=
 ∀(value kK:Expr) (aa:TF) (s:Shared) (σ:St) (H:Hp) (x y:V) (v u:Value) (Q:VK),Inv X aa σ H s->RelV x v->RelV y u->r x y H Q ->
  subscripted kK false v u=operate [v,u] (getItem v u)->wpAny (model X.prog X.w) X.A (subscriptTail value kK v u) (EP X aa σ Q) X.xe s
def uf(X:Cx)(id:String)(r:V->List V->Hp->VK->Prop):Prop :=
 ∀(aa:TF) (s:Shared) (σ:St) (H:Hp) (x:V) (xs:List V) (v:Value) (us:TU) (Q:VK),Inv X aa σ H s->RelV x v->Vals xs us->r x xs H Q ->
  wpAny (model X.prog X.w) X.A (call (.builtin id) (v::us)) (EP X aa σ Q) X.xe s
section
variable{X:Cx}{a b:Expr}{ta tb:TE}{pos:Pos}
def VB(hr:ue X r)(ha:PE X a ta)(hb:PE X b tb)(hs:KW b):PE X (.Subscript a b pos) (eQ r ta tb):=by
 intro aa s σ H Q I h;show Subscript_ (DM ha hb I h λv u s2 x y H2 I2 rx ry q=>hr a b aa s2 σ H2 x y v u Q I2 rx ry q (hs _ _))
inductive du(K:W.Frag):V->V->Hp->VK->Prop
|m p xs i v:x=.ref p->y=.int i->SqL K H p xs->bO xs i=!v->Q v H->du K x y H Q
inductive bZ(K:W.Frag):V->V->Hp->VK->Prop
|m p xs i v:x=.ref p->y=.int i->SqT K H p xs->bO xs i=!v->Q v H->bZ K x y H Q
inductive KY:V->V->Hp->VK->Prop
|m z i c:x=.str z->y=.int i->z⁻¹<=sizeLine->bO z.cps.toList i=!c->Q (.str ⟨#[c]⟩) H->KY x y H Q
def aK:ue X (du X.K):=by
 intro value kK aa s σ H x y v u Q I rx ry h hs;let⟨p,xs,i,z,rfl,rfl,hq,he,q⟩:=h;cases rx;let⟨t,rfl⟩:=ry;let⟨ah,r,pl,hz⟩:=I.list hq;let⟨j,h1,h2,h3,h4,h5⟩:=DU he;let⟨w,ew,jg⟩:=r.get h2;let hl:=r⁻¹;let hn:=pV;let fin:EP X aa σ Q w s:=⟨z,H,I,jg,q⟩
 by_cases h0:0<=i
 .let hj:i.toNat=j:=by
   rw[seqIndex_of h0 h5]at h1;show qZ h1
  show item_listR pl.isList h0 () (by rw[hj];simpa using ew) fin hs
 .let hj:(i+(ah.toArray.size:Int)).toNat=j:=by
   rw[seqIndex_neg () h4]at h1;rw[rC,<-hl];show qZ h1
  show subscriptTail_builtinR (x:=w) pl.isList.typeIs slot_list_getitem.lookup
   (wpAny_getItem_list_neg (Q:=λr s'=>r=w/\EP X aa σ Q r s') pl.isList () (by rw[rC]<;>omega) () (by rw[hj];simpa using ew) ⟨O,fin⟩) hs
def aF:ue X (bZ X.K):=by
 intro value kK aa s σ H x y v u Q I rx ry h hs;let⟨p,xs,i,z,rfl,rfl,hq,he,q⟩:=h;cases rx;let⟨t,rfl⟩:=ry;let⟨ah,r,pl,hz⟩:=I.tuple hq;let⟨j,h1,h2,h3,h4,h5⟩:=DU he;let⟨w,ew,jg⟩:=r.get h2;let hl:=r⁻¹;let hn:=pV;let fin:EP X aa σ Q w s:=⟨z,H,I,jg,q⟩;show subscriptTail_builtinR (x:=w) pl.typeIs slot_tuple_getitem.lookup
  (getItem_tuple (j:=j) (Q:=λr s'=>r=w/\EP X aa σ Q r s') pl () () (by rw[rC,<-hl];show h1) ‹ew› ⟨O,fin⟩) hs
def DV:ue X KY:=by
 intro value kK aa s σ H x y v u Q I rx ry h hs;let⟨z,i,c,rfl,rfl,hz,he,q⟩:=h;let⟨t,rfl⟩:=rx;let⟨t',rfl⟩:=ry;let⟨j,h1,h2,h3,h4,h5⟩:=DU he;let hl:z.cps.toList⁻¹=z⁻¹:=by simp[Str.length]
 rw[hl]at h1 h4 h5;let hn:=pV;show tail_any (typeIs_str s z t) slot_str_getitem.lookup (getItem_str (c:=c) (by
  let e1:decide (i < -(2 ^ 63:Int))=false:=qV ();let e2:decide (i≥2 ^ 63)=false:=qV ();rw[e1,e2,Bool.or_false]) (by rw[h1];simpa using h2) ⟨.str ⟨#[c]⟩,H,I.tok _,⟨_,O⟩,q⟩) hs
def VC(ah:TU)(n j:Nat)(u:Value):Obj.mapSeq (·.setIfInBounds j u) {cls:=.type "list",data:=.seq ah.toArray n}={cls:=.type "list",data:=.seq (ah.set j u).toArray n}:=by
 simp[Obj.mapSeq]
def Inv.lst{aa:TF}(I:Inv X aa σ H s)(h:H p=!.lst xs) :
  ∃(ah:TU) (n:Nat),Vals xs ah/\s.heap.get? p=!{cls:=.type "list",data:=.seq ah.toArray n}/\xs⁻¹<=sizeLine:=by
 let⟨z,ah,n,r,e⟩:=I.hok p _ h;show⟨ah,n,r,e,z⟩
def Inv.lstUpd{aa:TF}{σ:St}{H:Hp}{s:Shared}{p:Addr}{xs ys:List V}{ah its':TU}{n n':Nat}{f:Obj->Obj}(I:Inv X aa σ H s)(h:H p=!.lst xs)(ho:s.heap.get? p=!{cls:=.type "list",data:=.seq ah.toArray n})(hf:f {cls:=.type "list",data:=.seq ah.toArray n}={cls:=.type "list",data:=.seq its'.toArray n'})(r:Vals ys its')(hz:ys⁻¹<=sizeLine)(t:Nat) :
  Inv X aa σ (af H p (.lst ys)) {s with heap:=s.heap.update p f,toks:=t}:=by
 let e:(s.heap.update p f).get? p=!{cls:=.type "list",data:=.seq its'.toArray n'}:=by
  rw[yF f ho (by rw[hf]<;>rfl),hf]
 show I.write (x:=p) (e:=p) (by rw[h];trivial) (.inl O) (λb u hb q=>(yA _ _ (rV hb)).trans q) ⟨_,e⟩ ?_;show⟨hz,its',n',r,e⟩
inductive DW:V->V->V->Hp->(Hp->Prop)->Prop
|m p xs k j:o=.ref p->i=.int k->H p=!.lst xs->fW xs⁻¹ k=!j->Q (af H p (.lst (xs.set j v)))->DW o i v H Q
def pX:DA X DW:=by
 intro aa s σ H o i v ov iv u Q I ro ri rv h;let⟨p,xs,k,j,rfl,rfl,hp,hj,q⟩:=h;cases ro;let⟨t,rfl⟩:=ri;let⟨ah,n,r,ho,hz⟩:=I.lst hp;let⟨h1,h2,h3,h4⟩:=KU hj;let hl:=r⁻¹;let hn:=pV;let I':Inv X aa σ (af H p (.lst (xs.set j v))) {s with heap:=s.heap.update p (Obj.mapSeq (·.setIfInBounds j u))} :=
  I.lstUpd hp ho (VC ah n j u) (r.set rv j) (by rw[u7];show hz) s.toks
 by_cases h0:0<=k
 .let hk:k.toNat=j:=by
   rw[seqIndex_of h0 h4]at h1;show qZ h1
  show W.ki_setAt ho h0 () (by rw[rC,<-hl];show h4) (by rw[hk];show⟨_,I',q⟩)
 .let hk:(k+(ah.toArray.size:Int)).toNat=j:=by
   rw[seqIndex_neg () h3]at h1;rw[rC,<-hl];show qZ h1
  show W.ki_setBack ho () (by rw[rC,<-hl];show h3) () (by rw[hk];show⟨_,I',q⟩)
def VD(lo hi:Option Int)(n:Nat):(sliceBounds lo hi none n).1=((HT.sIx n 0 lo:Nat):Int)/\(sliceBounds lo hi none n).2.1=((HT.sIx n n hi:Nat):Int)/\(sliceBounds lo hi none n).2.2=1:=by
 show⟨?_,?_,O⟩
 .cases lo with
  | none=>simp[sliceBounds,HT.sIx]
  | some i =>
    simp only[sliceBounds,HT.sIx,Option.getD_none,show(1:Int)>0 by decide,if_true]
    by_cases h:i<0
    · simp only[h,if_true]<;>omega
    · simp only[h,if_false]<;>omega
 .cases hi with
  | none=>simp[sliceBounds,HT.sIx]
  | some i =>
    simp only[sliceBounds,HT.sIx,Option.getD_none,show(1:Int)>0 by decide,if_true]
    by_cases h:i<0
    · simp only[h,if_true]<;>omega
    · simp only[h,if_false]<;>omega
def VE(ah:TU)(lo hi:Option Int):slicePick ah.toArray lo hi none=((ah.drop (HT.sIx ah⁻¹ 0 lo)).take (HT.sIx ah⁻¹ ah⁻¹ hi-HT.sIx ah⁻¹ 0 lo)).toArray:=by
 let⟨h1,h2,h3⟩:=VD lo hi ah.toArray.size;unfold slicePick;rw[h1,h2,h3];simp only[sliceRange_one,pick_run,List.size_toArray]<;>rfl
inductive pY(K:W.Frag):V->Option Int->Option Int->Hp->VK->Prop
|m {x lo hi H Q} a xs:x=.ref a->SqL K H a xs->(∀p,H p=none->Q (.ref p) (af H p (.lst (fV xs lo hi))))->pY K x lo hi H Q
def mw:DT X (pY X.K):=by
 intro aa s σ H x v vl vu lo hi sl Q I rx hs pl pu h;let⟨a,xs,rfl,hx,q⟩:=h;cases rx;let⟨ah,r,ht,hz⟩:=I.list hx;let bT:=r⁻¹;show⟨"list",_,slot_list_getitem.lookup,ht.isList.typeIs,?_⟩;show wpAny_getItem_list_slice ht.isList hs pl pu .none ∅ ?_ (by rw[List.size_toArray]<;>omega);rw[VE,<-bT];show⟨.ref (~~~s),_,I.laid (t':=s.toks) (o:=.lst (fV xs lo hi)) (λb ob q=>qF _ q) (qG _) ?_,O,q _ (I.hok.fresh (qG _))⟩;show⟨rK (VA xs lo hi) hz,_,0,(r.drop (HT.sIx xs⁻¹ 0 lo)).take (HT.sIx xs⁻¹ xs⁻¹ hi-HT.sIx xs⁻¹ 0 lo),qQ _ O⟩
def kL:V->Bool
 | .non=>true
 | .bl _=>true
 | .int _=>true
 | .str _=>true
 | _=>false
def kM:V->V->Bool
 | .non,.non=>true
 | .bl a,.bl b=>a == b
 | .bl a,.int b=>(if a then 1 else 0) == b
 | .int a,.bl b=>a == (if b then 1 else 0)
 | .int a,.int b=>a == b
 | .str a,.str b=>a == b
 | _,_=>false
def VF(ry:RelV y u)(rx:RelV x v)(fy:kL y=true)(fx:kL x=true):SeqAt.EqAt A s u v (kM y x):=by
 cases y with
 | non =>
   cases ry
   cases x with
   | non=>cases rx;show SeqAt.EqAt.same _
   | bl b=>cases rx;show SeqAt.EqAt.none_bool b
   | int b=>let⟨t,rfl⟩:=rx;show SeqAt.EqAt.none_int b t
   | str b=>let⟨t,rfl⟩:=rx;show SeqAt.EqAt.none_str b t
   | _=>show qT (show false=true from fx) rA
 | bl a =>
   cases ry
   cases x with
   | non=>cases rx;show SeqAt.EqAt.bool_none a
   | bl b=>cases rx;show SeqAt.EqAt.bool_bool a b
   | int b=>let⟨t,rfl⟩:=rx;show SeqAt.EqAt.bool_int a b t
   | str b=>let⟨t,rfl⟩:=rx;show SeqAt.EqAt.bool_str a b t
   | _=>show qT (show false=true from fx) rA
 | int a =>
   let⟨t',rfl⟩:=ry
   cases x with
   | non=>cases rx;show SeqAt.EqAt.int_none a t'
   | bl b=>cases rx;show SeqAt.EqAt.int_bool a t' b
   | int b=>let⟨t,rfl⟩:=rx;show SeqAt.EqAt.int_int a t' b t
   | str b=>let⟨t,rfl⟩:=rx;show SeqAt.EqAt.int_str a t' b t
   | _=>show qT (show false=true from fx) rA
 | str a =>
   let⟨t',rfl⟩:=ry
   cases x with
   | non=>cases rx;show SeqAt.EqAt.str_none a t'
   | bl b=>cases rx;show SeqAt.EqAt.str_bool a t' b
   | int b=>let⟨t,rfl⟩:=rx;show SeqAt.EqAt.str_int a t' b t
   | str b=>let⟨t,rfl⟩:=rx;show SeqAt.EqAt.str_str a t' b t
   | _=>show qT (show false=true from fx) rA
 | _=>show qT (show false=true from fy) rA
def fY(x:V)(u:Value):Bool:=match u with
 | .none=>kM .non x
 | .bool b=>kM (.bl b) x
 | .int i _=>kM (.int i) x
 | .str z _=>kM (.str z) x
 | _=>false
def KZ(r:RelV y u)(f:kL y=true):fY x u=kM y x:=by
 cases y with
 | non=>cases r;rfl
 | bl b=>cases r;rfl
 | int i=>let⟨t,rfl⟩:=r;rfl
 | str z=>let⟨t,rfl⟩:=r;rfl
 | _=>show qT (show false=true from f) rA
theorem ug:∀{xs:List V} {us:TU},Vals xs us->xs.all kL=true->us.any (fY x)=xs.any λy=>kM y x
 | _,_,.nil,_=>rfl
 | y :: xs, u :: us, .cons r t, f => by
   rw[List.all_cons,uA]at f
   rw[vC,vC,KZ r f.1,ug t f.2]
theorem ui(rx:RelV x v)(fx:kL x=true):∀{xs:List V} {us:TU},Vals xs us->xs.all kL=true->∀u∈us,SeqAt.EqAt A s u v (fY x u)
 | _,_,.nil,_=>λu hu=>by cases hu
 | y :: xs, u :: us, .cons r t, f => λu' hu => by
   rw[List.all_cons,uA]at f
   rcases qM.mp hu with rfl | hu
   · rw[KZ r f.1];show VF r rx f.1 fx
   · show ui rx fx t f.2 u' hu
def mz(x:V)(xs:List V):Bool:=xs.any λy=>kM y x
inductive AU(K:W.Frag)(neg:Bool):V->V->Hp->VK->Prop
|m p xs:y=.ref p->(SqL K H p xs\/SqT K H p xs)->kL x=true->xs.all kL=true->Q (.bl (if neg then (Bool.not (mz x xs)) else mz x xs)) H->AU K neg x y H Q
def DX:cw X (compareOp .In) (AU X.K false):=by
 intro aa s σ H x y v u Q I rx ry h;let⟨p,xs,rfl,hq,fx,fs,q⟩:=h;cases ry;rcases hq with hq | hq
 .let⟨ah,r,pl,hz⟩:=I.list hq;show SeqAt.in_listAt (fY x) pl.isList (λw hw=>ui rx fx r fs w ‹hw›) ⟨.bl _,H,I,O,?_⟩;rw[show ah.toArray.any (fY x)=ah.any (fY x) by simp,ug r fs];show q
 .let⟨ah,r,pl,hz⟩:=I.tuple hq;show SeqAt.in_tupleAt (fY x) pl (λw hw=>ui rx fx r fs w ‹hw›) ⟨.bl _,H,I,O,?_⟩;rw[show ah.toArray.any (fY x)=ah.any (fY x) by simp,ug r fs];show q
def AV:cw X (compareOp .NotIn) (AU X.K true):=by
 intro aa s σ H x y v u Q I rx ry h;let⟨p,xs,rfl,hq,fx,fs,q⟩:=h;cases ry;rcases hq with hq | hq
 .let⟨ah,r,pl,hz⟩:=I.list hq;show SeqAt.notIn_listAt (fY x) pl.isList (λw hw=>ui rx fx r fs w ‹hw›) ⟨.bl _,H,I,O,?_⟩;rw[show ah.toArray.any (fY x)=ah.any (fY x) by simp,ug r fs];show q
 .let⟨ah,r,pl,hz⟩:=I.tuple hq;show SeqAt.notIn_tupleAt (fY x) pl (λw hw=>ui rx fx r fs w ‹hw›) ⟨.bl _,H,I,O,?_⟩;rw[show ah.toArray.any (fY x)=ah.any (fY x) by simp,ug r fs];show q
inductive DY(K:W.Frag):List V->Hp->VK->Prop
 | mk p ys:xs=[.ref p]->(SqL K H p ys\/SqT K H p ys)->Q (.int ys⁻¹) H->DY K xs H Q
def VG:eB X (.builtin "len") (DY X.K):=by
 intro aa s σ H xs us Q I r h;let⟨p,ys,rfl,hq,q⟩:=h;let⟨u,rfl,rx⟩:=vals1 r;cases rx;let hn:=pV;rcases hq with hq | hq
 .let⟨ah,r',pl,hz⟩:=I.list hq;let bT:=r'⁻¹;show Calls.call_len_list pl.isList (by simp only[List.size_toArray]<;>omega) ⟨.int ys⁻¹,H,I.tok _,⟨s.toks+1,by rw[rC,bT]⟩,q⟩
 .let⟨ah,r',pl,hz⟩:=I.tuple hq;let bT:=r'⁻¹;show len_tuple pl (by simp only[List.size_toArray]<;>omega) ⟨.int ys⁻¹,H,I.tok _,⟨s.toks+1,by rw[rC,bT]⟩,q⟩
def DZ:eB X (.type "list") (λxs H Q=>∃p ys,xs=[.ref p]/\(SqL X.K H p ys\/SqT X.K H p ys)/\∀l,H l=none->Q (.ref l) (af H l (.lst ys))):=by
 intro aa s σ H xs us Q I r h;let⟨p,ys,rfl,hq,q⟩:=h;let⟨u,rfl,rx⟩:=vals1 r;cases rx;let fin:∀(ah:TU),Vals ys ah->ys⁻¹<=sizeLine->∀(h':Heap) (c':Nat),(∀b o',s.heap.get? b=!o'->h'.get? b=!o') ->
   h'.get? (~~~s)=!{cls:=.type "list",dict:=none,data:=.seq ah.toArray c',slots:=#[]}->EP X aa σ Q (.ref (~~~s)) {s with heap:=h'}:=λah r' hz h' c' kp e =>
  ⟨.ref (~~~s),_,I.laid (t':=s.toks) kp (qG _) (show ObjOk X.prog X.w _ h' _ (.lst ys)from⟨hz,ah,c',r',e⟩),O,q _ (I.hok.fresh (qG _))⟩
 rcases hq with hq | hq
 .let⟨ah,r',pl,hz⟩:=I.list hq;let bT:=r'⁻¹;let⟨o,ho,hc,n,hd⟩:=pl.isList;show call_list_seq p (.inl O) ho hc hd (λh' c' kp e=>fin ah r' hz h' c' kp e) (by simp only[List.size_toArray]<;>omega)
 .let⟨ah,r',pl,hz⟩:=I.tuple hq;let bT:=r'⁻¹;let⟨o,ho,hc,n,hd⟩:=pl;show call_list_seq p (.inr O) ho hc hd (λh' c' kp e=>fin ah r' hz h' c' kp e) (by simp only[List.size_toArray]<;>omega)
def K'(K:W.Frag)(T:String)(x:V)(H:Hp):Prop:=match x with
 | .str _=>T = "str"
 | .int _=>T = "int"
 | .ref p=>(T = "list" /\ ∃xs,SqL K H p xs)\/(T = "tuple" /\ ∃o,K.lookup p=!o/\o.cls=.type "tuple" /\ o.dict=none) \/
   (T = "dict" /\ ((∃aj,H p=!.dK aj)\/∃aj,H p=!.dT aj))\/(T = "set" /\ ∃S n,H p=!.set S n)
 | _=>False
def VH{aa:TF}{T:String}(I:Inv X aa σ H s)(r:RelV x v)(ty:K' X.K T x H) :
  s.TypeIs v T/\∀a,v=.ref a->∃ob,s.heap.get? a=!ob/\ob.dict=none:=by
 cases x with
 | str z =>
   let⟨t,rfl⟩:=r
   cases(show T = "str" from ty)
   show⟨typeIs_str s z t,λ_ e=>nomatch e⟩
 | int i =>
   let⟨t,rfl⟩:=r
   cases(show T = "int" from ty)
   show⟨typeIs_int s i t,λ_ e=>nomatch e⟩
 | ref p =>
   cases r
   rcases ty with⟨rfl,xs,hq⟩ | ⟨rfl,o,hk,hc,hd⟩ | ⟨rfl,hk⟩ | ⟨rfl,S,n,hk⟩
   · let⟨ah,_,pl,_⟩:=I.list hq
     show⟨pl.isList.typeIs,λa e=>?_⟩
     cases e
     let⟨o,n,e,c,hd,_⟩:=pl
     show⟨o,e,hd⟩
   · show⟨⟨o,I.kIn p o hk,hc⟩,λa e=>?_⟩
     cases e
     show⟨o,I.kIn _ o hk,hd⟩
   · have z:∃o,s.heap.get? p=!o/\o.ExactDict:=by
       rcases hk with⟨aj,hk⟩ | ⟨aj,hk⟩
       · let⟨_,_,_,_,o,_,_,e,ex,_⟩:=I.hok p _ hk
         show⟨o,e,ex⟩
       · let⟨_,_,_,_,o,_,_,e,ex,_⟩:=I.hok p _ hk
         show⟨o,e,ex⟩
     let⟨o,e,ex⟩:=z
     show⟨⟨o,e,ex.1⟩,λa e2=>?_⟩
     cases e2
     show⟨o,e,ex.2.1⟩
   · let⟨o,_,_,_,e,ex,_⟩:=I.hok p _ hk
     show⟨⟨o,e,ex.1⟩,λa e2=>?_⟩
     cases e2
     show⟨o,e,ex.2.1⟩
 | _=>show False.elim ty
def D1(K:W.Frag)(T:String)(r:V->List V->Hp->VK->Prop)(to:TE)(t:TA):TE:=λσ H Q=>to σ H λx H1=>K' K T x H1/\t σ H1 λxs H2=>r x xs H2 Q
variable{o e:Expr}{es:TW}{to:TE}{t:TA}{name:Str}{nZ eZ:Pos}{T id:String}{r:V->List V->Hp->VK->Prop}
def jM(pa:PlainAttrs T)(slot:Slot T name id)(D3:typeOf (.builtin id)=pure (.type "method_descriptor"))(hm:uf X id r)(ho:PE X o to)(ha:PA X (e::es) t)(uk:attributeBase o name X.env (eval o X.env)=eval o X.env:=by rfl)(um:((backTo eZ (starEach (e::es) X.env)).all (λx=>(Bool.not (x.1))) && (backToKw eZ (keywordEach [] X.env)).all (λx=>x.1.isSome)
   && decide ((e::es)⁻¹+([]:List Keyword)⁻¹+(if([]:List Keyword).isEmpty then 0 else 1)<30))=true:=by rfl)(uq:(nZ.endLine == eZ.line)=true:=by rfl)(hs:starEach (e::es) X.env=(false,eval e X.env)::starEach es X.env:=by rfl)(ur:(backTo eZ (starEach es X.env)).any (·.1)=false:=by rfl) :
  PE X (.Call (.Attribute o name nZ) (e::es) [] eZ) (D1 X.K T r to t):=by
 intro aa s σ H Q I h;show wpAny_Call_method_late uk um uq O (aR (ho aa s σ H _ I h) λv s1 ⟨x,H1,I1,r1,ty,q1⟩=>?_);let⟨h1,h2⟩:=VH I1 r1 ty;show⟨T,id,pa,slot,D3,h1,h2,?_⟩;let hA:=ha eZ aa s1 σ H1 _ I1 q1;rw[hs]at hA⊢;show Calls.callWith_builtin (by show(false || (backTo eZ (starEach es X.env)).any (·.1))=false;rw[ur]<;>rfl) (Calls.evalArgs_plain ?_);show aR hA λus s2 ⟨vs,H2,I2,r2,q2⟩=>hm aa s2 σ H2 x vs v us Q I2 r1 r2 q2
end
def D4(X:Cx)(id:String)(r:V->List V->Hp->VK->Prop):Prop :=
 ∀(aa:TF) (s:Shared) (σ:St) (H:Hp) (x:V) (xs:List V) (v:Value) (us:TU) (Q:VK),Inv X aa σ H s->RelV x v->Vals xs us->r x xs H Q ->
  wpAny (model X.prog X.w) X.A (call (.builtin id) (v::us)) (EP X aa σ Q) X.xe s
def Vals.one:∀{x:V} {us:TU},Vals [x] us->∃u,us=[u]/\RelV x u
 | _,_,.cons r .nil=>-⟨r⟩
section
variable{X:Cx}{aa:TF}{σ:St}{H:Hp}{s:Shared}{l b:Addr}{xs ys zs:List V}
def Inv.lset{ah its':TU}{n:Nat}{f:Array Value->Array Value}{t':Nat}(I:Inv X aa σ H s)(hH:H l=!.lst xs)(e:s.heap.get? l=!{cls:=.type "list",data:=.seq ah.toArray n})(hf:f ah.toArray=its'.toArray)(hv:Vals ys its')(hz:ys⁻¹<=sizeLine) :
  Inv X aa σ (af H l (.lst ys)) {s with heap:=s.heap.update l (Obj.mapSeq f),toks:=t'}:=by
 let q:=IsL.update e f;rw[hf]at q;show I.write (x:=l) (e:=l) (by rw[hH];show trivial) (.inl O) (λb' u hb hu=>(yA s.heap (Obj.mapSeq f) (rV hb)).trans hu) ⟨_,q⟩ ?_;show⟨hz,its',_,hv,q⟩
def Inv.lnew{t':Nat}(I:Inv X aa σ H s)(hv:Vals ys ah)(hz:ys⁻¹<=sizeLine) :
  Inv X aa σ (af H (~~~s) (.lst ys)) {s with heap:=s.heap.push {cls:=.type "list",data:=.seq ah.toArray},toks:=t'} :=
 I.laid (λ_ _ q=>qF _ q) (qG _) ⟨hz,ah,0,hv,qQ _ O⟩
def Inv.fresh(I:Inv X aa σ H s):H (~~~s)=none:=I.hok.fresh (qG _)
def Inv.lstM(I:Inv X aa σ H s)(hH:H l=!.lst xs):xs⁻¹<=sizeLine/\∃(ah:TU) (n:Nat),Vals xs ah/\xs⁻¹=ah⁻¹/\s.heap.get? l=!{cls:=.type "list",data:=.seq ah.toArray n}:=by
 let⟨z,ah,n,r,e⟩:=I.hok l _ hH;show⟨z,ah,n,r,r⁻¹,e⟩
def VI{n:Nat}(h:n<=sizeLine):Builtin.List.listTooLong n=false:=by
 unfold Builtin.List.listTooLong;show qV ()
end
section
variable{X:Cx}
inductive AW:V->List V->Hp->VK->Prop
|m l xs y:x=.ref l->vs=[y]->H l=!.lst xs->xs⁻¹<sizeLine->Q .non (af H l (.lst (xs++[y])))->AW x vs H Q
def La:D4 X "list.append" AW:=by
 intro aa s σ H x vs v us Q I rx rv h;let⟨l,xs,y,rfl,rfl,hH,hz,q⟩:=h;cases rx;let⟨u,rfl,ru⟩:=rv.one;let⟨z,ah,n,r,hl,e⟩:=I.lstM hH;show v4 F.slot_list_append ⟨_,e,O⟩ F.entry_list_append (F.args_list_append_2 _ _) (list_append l ah.toArray n u (by rw[rC];omega)) ⟨e,?_⟩;show⟨.non,_,I.lset (its':=ah++[u]) hH e ∅ (r.append (.cons ru .nil)) ?_,O,q⟩;rw[qJ,uM];omega
inductive Lb:V->List V->Hp->VK->Prop
|m l b xs zs:x=.ref l->vs=[.ref b]->H l=!.lst xs->H b=!.lst zs->xs⁻¹+zs⁻¹<=sizeLine->Q .non (af H l (.lst (xs++zs)))->Lb x vs H Q
def Lc:D4 X "list.extend" Lb:=by
 intro aa s σ H x vs v us Q I rx rv h;let⟨l,b,xs,zs,rfl,rfl,hH,hB,hz,q⟩:=h;cases rx;let⟨u,rfl,ru⟩:=rv.one;cases ru;let⟨z,ah,n,r,hl,e⟩:=I.lstM hH;let⟨z2,gu,n2,r2,fD,e2⟩:=I.lstM hB;let hsz:ah.toArray.size+gu.toArray.size<=sizeLine:=by rw[rC,rC];omega
 let VJ:¬((Bool.not (ah.toArray.isEmpty)) && Builtin.List.listTooLong (ah.toArray.size+gu.toArray.size))=true:=by
  rw[VI hsz,Bool.and_false];show rA
 show v4 F.slot_list_extend ⟨_,e,O⟩ F.entry_list_extend (F.args_list_extend_2 _ _)
  (AutoSeq1.list_extend_list_list_0 l ah.toArray n b gu.toArray n2 VJ (by rw[rC];omega) ()) ⟨e,e2,?_⟩
 show⟨.non,_,I.lset (its':=ah++gu) hH e ∅ (r.append r2) ?_,O,q⟩;rw[qJ];omega
inductive Ld:V->V->Hp->VK->Prop
|m l b xs zs:x=.ref l->y=.ref b->H l=!.lst xs->H b=!.lst zs->xs⁻¹+zs⁻¹<=sizeLine->(∀p,H p=none->Q (.ref p) (af H p (.lst (xs++zs))))->Ld x y H Q
def uu:cw X (binaryOp .Add) Ld:=by
 intro aa s σ H x y v u Q I rx ry h;let⟨l,b,xs,zs,rfl,rfl,hH,hB,hz,q⟩:=h;cases rx;cases ry;let⟨z,ah,n,r,hl,e⟩:=I.lstM hH;let⟨z2,gu,n2,r2,fD,e2⟩:=I.lstM hB;show P.add_list e e2 ?_ (by rw[rC,rC];omega);let ea:ah.toArray++gu.toArray=(ah++gu).toArray:=∅
 rw[ea];show⟨.ref _,_,I.lnew (t':=s.toks) (r.append r2) (by rw[qJ];omega),O,q _ I.fresh⟩
end
end L2
namespace Att
open PySem.W PySem.Calls PyProof.Rows
def VL:∀(ns:TN) (vs:TU),WellAll P h vs (ns.map WData.int)->IntsAre vs ns:=by
 intro ns
 induction ns with
 | nil =>
   intro vs w
   rw[wC]at w
   cases w
   show .nil
 | cons n ns ih =>
   intro vs w
   rw[xP]at w
   cases w with
   | cons a b =>
     cases a
     show .cons _ _ (ih _ b)
def VM{l:OpenLaw}{n:Nat}(hn:l.most=!n){P:Params}{h:Heap}{args:List WData}{D6:TU}(kN:l.row.toRowW.claim.pre args=true)(D7:WellAll P h D6 args) :
  ∃a vs ns,D6=[Value.ref a]/\args=[WData.list (ns.map WData.int)]/\h.get? a=!{cls:=.type "list",data:=.seq vs.toArray}/\IntsAre vs ns/\ns⁻¹<=n:=by
 let VN:WShape.hasAll [] args [.list .int]=true:=(pre_splitW kN).1;let hc:l.pre.holds [] {args:=args}=true:=(pre_splitW kN).2;let⟨d,r,rfl,h1,h2⟩:=hasAllW_cons VN;obtain rfl:=hasAllW_nil h2;let⟨xs,rfl,h3⟩:=hasW_list h1;let⟨ns,rfl⟩:=items_int h3;let bT:ns⁻¹<=n:=by
  unfold OpenLaw.pre at hc;let h4:(WTm.not (.lt (.lit (.int (n:Int))) (.len (.arg 0)))).holds [] {args:=[.list (ns.map .int)]}=true:=by
   let h4:=(holds_andW hc).1;rw[hn]at h4;show h4
  let h5:=condW_of h4 (w_not (w_lt w_lit (w_len_list (w_arg O))));rw[qA]at h5;show xQ λq=>?_
  let q':(n:Int)<((ns⁻¹:Nat):Int):=()
  first
   | (rw[qR q']at h5;show qT h5 {})
   | (simp at h5;omega)
 cases D7 with
 | cons w1 w2 =>
   cases w2
   cases w1 with
   | list ho D8=>show⟨_,_,ns,O,O,ho,VL ns _ D8,bT⟩
def VO(l:OpenLaw)(args:List WData):l.row.toRowW.claim.post args (.bool true) args=true :=
 postW_of (r:=l.row.toRowW) (X:=(true == true))
  (show WShape.has [] (.bool true) .bool=true by first | rfl | decide | simp[WShape.has,WShape.arms,WShape.armsAll])
  (show(WTm.eq .res (.lit (.bool true))).value [] {args:=args,res:=!.bool true,after:=args}=!.bool (true == true)from w_eq_bool (w_res O) w_lit) O
theorem attach_call{l:OpenLaw}{n:Nat}{q:Program}{pZ:List Str}{XP:(Str->Option Value)->Heap->Prop}{YP:World->Heap->Prop}{d:DefRec}(hn:l.most=some n)(uv:d.params.defaults=[])(call:∀(w:World) (s₀ a7:Shared) (mg mb:Str->Option Value) (fa:Addr) (o:Obj) (pm cd bq:Value) (a:Addr) (vs:List Value) (ns:List Int),
   Ground q pZ [] XP w s₀ mg mb a7.heap->YP w a7.heap ->
   a7.heap.get? fa=some o->o.data=.func (docDef d.name d.params d.body d.scope pm cd bq)->a7.heap.CodeRec cd d.name->mg d.name=some (.ref fa) ->
   a7.heap.get? a=some {cls:=.type "list",data:=.seq vs.toArray}->IntsAre vs ns->ns.length<=n->a7.gens=#[] ->
   codeAny (model l.prog w) callerA (.call (.ref fa) ⟨[.ref a],[]⟩) (λr s'=>r=.ok (.ret (.bool true))/\OldK a7.heap s'.heap/\s'.os=a7.os/\AllBare s'.gens) a7) :
  WalkO q pZ XP YP l.row.toRowW d [] (λf vs=>PySem.call f vs):=by
 intro w s₀ a7 mg mb G Y fa o pm cd bq dV kV ho hd fS hD uy hg args D6 as kN hlay hrd D7 og;obtain rfl:dV=.none:=Dflts.none hD uv;obtain rfl:kV=.none:=Dflts.noKw hD;obtain⟨a,vs,ns,rfl,rfl,D9,Ea,bT⟩:=VM hn kN D7;refine enter_call (uQ (call w s₀ a7 mg mb fa o pm cd bq a vs ns G Y ho (fd_plain hd) fS uy D9 Ea bT hg) λr s' hq=>?_);obtain⟨rfl,h2,h3,h4⟩:=hq;exact⟨.inl ⟨.bool true,.bool true,[],rfl,λ_=>rfl,.bool true,VO l _,λ_=>⟨List.Pairwise.nil,λ_ hm=>(nomatch hm)⟩⟩,h2,h3,h4⟩
end Att
namespace L2
open PyProof.Rows
theorem Le:∀{vs:TU} {ns:TN},IntsAre vs ns->Vals ⇑ns vs
 | _,_,.nil=>.nil
 | _,_,.cons n t h=>.cons ⟨t,O⟩ (Le h)
def dw(s:Stmt):Arguments:=match s with
 | .FunctionDef _ a _ _ _ _ _ _ _ _=>a
 | _=>{posonlyargs:=[],args:=[],vararg:=none,kwonlyargs:=[],kw_defaults:=[],kwarg:=none,defaults:=[]}
def cy(s:Stmt):List Stmt:=match s with
 | .FunctionDef _ _ b _ _ _ _ _ _ _=>b
 | _=>[]
def bw(s:Stmt):Scope:=match s with
 | .FunctionDef _ _ _ _ _ _ sc _ _ _=>sc
 | _=>{kind:=.function,names:=[],isGenerator:=false,isCoroutine:=false}
abbrev am:dt:=λ_ _ _ _ _ _=>False
abbrev E0:XK:=λ_ _ _=>False
def Eb:ua am X E0:=λ_ _ _ _ _ _ _ h=>h.elim
structure Fun(K:W.Frag)(x qual:Str)(st:Stmt)(f:Addr)(fd:FuncData):Prop where
 ex:∃(oc:Value) (od:Option Addr) (kV bq pm:Value) (an:Option Addr) (aE ct:Value) (fB:Array (Option Value)),
  fd=W.fnOf x qual (dw st) (cy st) (bw st) .none kV bq pm an aE ct/\K.lookup f=!⟨oc,od,.func fd,fB⟩/\W.codeIn K aE qual=true
 kp:W.keepIn K (.ref f)=true
section
variable{P:Program}{w:World}{K:W.Frag}{mg:TJ}{base:Heap}
def Fun.ok{x qual:Str}{st:Stmt}{f:Addr}{fd:FuncData}{N ps:TV}{k:Nat}{sp:Sp}(F:Fun K x qual st f fd)(S:n8 N ps (bw st))(len:∀vs H Q E,sp vs H Q E->vs⁻¹=ps⁻¹)(kJ:∀(aE:Value) (A:Around) (outer:List Env) (s:Shared) (H:Hp) (vs:List V) (Q:VK) (E:XK),Room k (A.deeper (envOfC qual (bw st) (~~~s) f aE))->sp vs H Q E ->
   ∃t,PSs (fT am P w K mg base N qual (bw st) f aE A outer s H E).nox (cy st) t/\t {nx:=λ_ H'=>Q .non H',rt:=Q} (start N vs) H):aN P w K mg base am (k+1) f fd ps sp:=by
 let⟨oc,od,kV,bq,pm,an,aE,ct,fB,rfl,lk,fS⟩:=F.ex;show DS lk fS S len λA outer s H vs Q E hr fU=>?_
 let⟨t,h,q⟩:=kJ aE A outer s H vs Q E hr fU;show⟨t,h.nox,q⟩
def Fun.binds{x qual:Str}{st:Stmt}{f:Addr}{fd:FuncData}{ps:TV}(F:Fun K x qual st f fd)(h:∀(kV bq pm:Value) (an:Option Addr) (aE ct:Value) (us:TU),us⁻¹=ps⁻¹->bindArgs (W.fnOf x qual (dw st) (cy st) (bw st) .none kV bq pm an aE ct) ⟨us,[]⟩=pure (ps.zip us)):Binds K fd ps []:=by
 let⟨oc,od,kV,bq,pm,an,aE,ct,fB,rfl,lk,fS⟩:=F.ex;show .all (h kV bq pm an aE ct)
def Lg{x qual:Str}{st:Stmt}{f:Addr}{oc:Value}{od an:Option Addr}{fB:Array (Option Value)}{kV bq pm aE ct:Value}(l:K.lookup f=!⟨oc,od,.func (W.fnOf x qual (dw st) (cy st) (bw st) .none kV bq pm an aE ct),fB⟩)(c:W.codeIn K aE qual=true)(k:W.keepIn K (.ref f)=true):Fun K x qual st f (W.fnOf x qual (dw st) (cy st) (bw st) .none kV bq pm an aE ct):=⟨⟨oc,od,kV,bq,pm,an,aE,ct,fB,O,l,c⟩,k⟩
end
def mB{k:Nat}(hr:Room k A):A.units+1<cLine:=yB (Nat.add_le_add_left (by decide:1<=64) _) hr.units
def aW{n:Nat}(h:n<=1000):n<sizeLine:=yB h {}
section
variable{X:Cx}
def pv(i:Nat)(hN:X.N[i]?=!x:=by rfl)(hv:pO X.env.scope x:=by first | show Or.inl rfl | show Or.inr (Or.inl rfl) | show Or.inr (Or.inr rfl))(hd:(x == ("__debug__" : Str))=false:=by decide)(fS:(x == ("__classdict__" : Str))=false:=by decide):PE X (.Name x pos) (jE i):=UJ hN hv hd fS
end
def bj{A B:Prop}(h:B):if false=true then A else B:=by
 rw[qY rA];show h
def bK{A B:Prop}(h:A):if true=true then A else B:=by
 rw[qX O];show h
def hV{p q A B:Prop}{i:Decidable p}{j:Decidable q}(e:decide p=decide q)(hq:q)(h:A):if decide p=true then A else B:=by
 rw[e,qX (qR hq)];show h
def h8{p q A B:Prop}{i:Decidable p}{j:Decidable q}(e:decide p=decide q)(hq:¬q)(h:B):if decide p=true then A else B:=by
 rw[e,qV hq,qY rA];show h
def eS{p A B:Prop}{i:Decidable p}(hq:p)(h:A):if decide p=true then A else B:=hV O hq h
def dM{p A B:Prop}{i:Decidable p}(hq:¬p)(h:B):if decide p=true then A else B:=h8 O hq h
def cz{c A B:Prop}[Decidable c](h1:c->A)(h2:¬c->B):if c then A else B:=by
 by_cases h:c
 .rw[qX h];show h1 h
 .rw[qY h];show h2 h
def Same(H H':Hp):=∀b o,H b=!o->H' b=!o
def Same.refl(H:Hp):Same H H:=λ_ _ h=>h
def Same.trans(a:Same H H1)(b:Same H1 H2):Same H H2:=λc o h=>b c o (a c o h)
def Same.free(e:Same H H')(h:H' l=Option.none):H l=Option.none:=by
 cases q:H l with
 | none=>rfl
 | some o =>
   rw[e l o q]at h
   cases h
end L2
namespace L2
def mC(h:∀C,C=u D->t {D with nx:=C} σ H):nV t u D σ H:=h _ O
def bG{C:St->Hp->Prop}(hC:C=nV t u D)(h:∀C,C=u D->t {D with nx:=C} σ H):C σ H:=by
 rw[hC];show h _ O
def mD{C C':St->Hp->Prop}(hC:C=C')(h:C' σ H):C σ H:=by
 rw[hC];show h
end L2
namespace L2
open PyProof.Rows
theorem AX{β:Type}{c:β}:∀{l:List (Str×β)},l.lookup x=!c->(x,c)∈l
 | [],q=>by cases q
 | (k, v) :: r, q => by
   rw[uJ]at q
   cases e:x == k with
   | true =>
     rw[e]at q
     have:x=k:=‹e›
     cases q
     rw[this]
     show rE
   | false =>
     rw[e]at q
     show qS _ (AX q)
theorem Lh{β:Type}{c:β}:∀{l:List (Str×β)},(x,c)∈l->∃c',l.lookup x=!c'
 | [],q=>nomatch q
 | (k, v) :: r, q => by
   rw[uJ]
   cases e:x == k with
   | true=>show⟨v,O⟩
   | false =>
     rcases qM.mp q with z | z
     · have:x=k:=xH Prod.fst z
       rw[this]at e
       simp at e
     · show Lh z
theorem Ec{env:Env}{f:Str×NameKind->List (Str×Addr)->Sem (ForInStep (List (Str×Addr)))}:∀(l:List (Str×NameKind)) (acc:List (Str×Addr)),
  (∀x∈l,x.2=.free->∃c,env.cells.lookup x.1=!c/\∀r,f x r=pure (.yield ((x.1,c)::r)))->(∀x∈l,x.2≠.free->∀r,f x r=pure (.yield r)) ->
  ∃cl,forIn l acc f=pure cl/\(∀p∈acc,p∈cl)/\(∀p∈cl,p∈acc\/env.cells.lookup p.1=!p.2)/\∀x,(x,NameKind.free)∈l->∃c,(x,c)∈cl
 | [],acc,_,_=>⟨acc,O,λ_ q=>q,λ_ q=>.inl q,λ_ q=>nomatch q⟩
 | x :: l, acc, h1, h2 => by
   by_cases hx:x.2=.free
   · obtain⟨c,e,hf⟩:=h1 x rE hx
     let⟨cl,q1,q2,q3,q4⟩:=Ec l ((x.1,c)::acc) (λy hy=>h1 y (qS _ hy)) λy hy=>h2 y (qS _ hy)
     show⟨cl,?_,λp hp=>q2 p (qS _ hp),λp hp=>?_,λy hy=>?_⟩
     · rw[List.forIn_cons,hf,pure_bind]
       show q1
     · rcases q3 p hp with z | z
       · rcases qM.mp z with z | z
         · subst z;show .inr e
         · show .inl z
       · show .inr z
     · rcases qM.mp hy with z | z
       · show⟨c,by have:=q2 _ (rE (a:=(x.1,c)) (l:=acc));rw[<-z]at this;show this⟩
       · show q4 y z
   · obtain⟨cl,q1,q2,q3,q4⟩:=Ec l acc (λy hy=>h1 y (qS _ hy)) λy hy=>h2 y (qS _ hy)
     show⟨cl,?_,q2,q3,λy hy=>?_⟩
     · rw[List.forIn_cons,h2 x rE hx,pure_bind]
       show q1
     · rcases qM.mp hy with z | z
       · show qT (by rw[<-z]) hx
       · show q4 y z
def Li{scope:Scope}{env:Env}(h:∀ x∈scope.names,x.2=.free->∃ c,env.cells.lookup x.1=!c) :
  ∃ cl,closureFor scope env=pure cl/\(∀ x c,cl.lookup x=!c->env.cells.lookup x=!c)/\∀ x,(x,NameKind.free)∈scope.names->∃ c,cl.lookup x=!c:=by
 let key:∀ f:Str × NameKind->List (Str × Addr)->Sem (ForInStep (List (Str × Addr))),(∀ x∈scope.names,x.2=.free->∃ c,env.cells.lookup x.1=!c/\∀ r,f x r=pure (.yield ((x.1,c) :: r)))->(∀ x∈scope.names,x.2≠.free->∀ r,f x r=pure (.yield r)) ->
   closureFor scope env=forIn scope.names [] f ->
   ∃ cl,closureFor scope env=pure cl/\(∀ x c,cl.lookup x=!c->env.cells.lookup x=!c)/\∀ x,(x,NameKind.free)∈scope.names->∃ c,cl.lookup x=!c:=by
  intro f h1 h2 e
  let⟨cl,q1,_,q3,q4⟩:=Ec (env:=env) (f:=f) scope.names [] h1 h2
  show ⟨cl,e.trans q1,λx c z=>?_,λx hx=>?_⟩
  .rcases q3 (x,c) (AX z) with k | k
   .show nomatch k
   .show k
  .let⟨c,z⟩:=q4 x hx
   show Lh z
 show key (λx r=>if x.2 == .free then (do let c <- cellOf env x.1; pure (.yield ((x.1,c) :: r))) else pure (.yield r)) (λx hx hf=>?_) (λx hx hf r=>?_) ?_
 .let⟨c,e⟩:=h x hx hf
  show ⟨c,e,λr=>?_⟩
  let hk:(x.2 == NameKind.free)=true:=by rw [hf]; rfl
  simp only [hk,if_true,cellOf,e,pure_bind]
 .let hk:(x.2 == NameKind.free)=false:=by
   cases q:x.2 == NameKind.free with
   | false=>rfl
   | true=>show qT ‹q› hf
  simp only [hk,Bool.false_eq_true,if_false]
 .simp only [closureFor]
  rw [bind_pure]
def b9(X:Cx)(N':TV)(scope:Scope)(cl:List (Str×Addr))(C:Addr)(iI:Shared)(VP:Hp)(fp:TQ):Cx :=
 {X with N:=N',s₀:=iI,H₀:=VP,env:=compEnvC scope cl C X.env,outer:=X.stack,ex:=fp,fn:=λ_=>false,pn:=[],xe:=λ_ _=>False}
def iM(own:Nat)(ix:TM)(σ:St):St:=List.replicate own none++ix.map λj=>(σ[j]?).join
def p7(own:Nat)(ix:TM)(g:TG)(tt:TT)(te:TE)(J:It)(σ:St)(H:Hp)(Q:VK):Prop :=
 ∃W:Nat->Nat->List V->St->Hp->Prop,(∃m,W 0 m [] (iM own ix σ) H) /\
  ∀i m ys ae H',W i m ys ae H'->ys⁻¹<=i->ys⁻¹<sizeLine /\
   ((J.stop i H'/\∀ D,H' D=none->Q (.ref D) (af H' D (.lst ys))) \/
    (J.go i H'/\∃N:List V->St->Hp->Prop,(∀zs a0 H2,N zs a0 H2->∃m',m'<m/\W (i+1) m' zs a0 H2)/\∀x H2,J.yld i H' x H2->g x ae H2 λa0 H3=>tt a0 H3 λb H4 =>
       if b=true then te a0 H4 λv H5=>N (ys++[v]) a0 H5 else N ys a0 H4))
def AY(own:Nat)(ix:TM)(wi:TI)(g:TG)(tt:TT)(te:TE):TE:=λσ H Q=>wi σ H λJ H1=>p7 own ix g tt te J σ H1 Q
def Lj(dF:TW)(env:Env):Sem Bool :=
 forIn dF true λc r=>if r=true then do let ok <- isTrue c env (eval c env); pure (ForInStep.yield ok) else pure (ForInStep.yield r)
def oh(X:Cx)(dF:TW)(t:TT):Prop :=
 ∀(aa:TF) (s:Shared) (σ:St) (H:Hp) (Q:Bool->Hp->Prop),Inv X aa σ H s->t σ H Q->wpAny (model X.prog X.w) X.A (Lj dF X.env) (TP X aa σ Q) X.xe s
def VQ:TT:=λ_ H Q=>Q true H
def br:oh X [] VQ:=λ_ _ _ H _ I h=>wpAny_tests_nil ⟨H,I,h⟩
def h9(h:PT X c t):oh X [c] t:=λaa s σ H Q I q=>wpAny_tests_one (h aa s σ H Q I q)
def VR{R:Result->Shared->Prop}(J:Nat->Shared->Prop)(turn:∀ n s,J n s->wpAny (model prog w) A (pyNext it) (λr s1=>match r with
   | none=>R (.ok .next) s1
   | some v=>wpAny (model prog w) A (letOwnedTupleGo tg it v) (λ_ s2=>wpAny (model prog w) A (assign tg env v) (λ_ s3=>wpAny (model prog w) A (Lj dF env) (λok s4 =>
     if ok=true then wpAny (model prog w) A (eval dN env) (λx s5=>wpAny (model prog w) A (call (.builtin "list.append") [acc,x]) (λ_ s6=>∃ m,m < n/\J m s6) (λ_ _=>False) s5) (λ_ _=>False) s4
     else ∃ m,m < n/\J m s4) (λ_ _=>False) s3) (λ_ _=>False) s2) (λ_ _=>False) s1) (λ_ _=>False) s)(n:Nat)(h:J n s):codeAny (model prog w) A (.compLoop (.ListComp dN [⟨tg,iter,dF,0⟩] scope pos) 0 it acc env) R s:=by
 show codeAny_loop O J (λn s hI=>?_) n h
 show wpAny (model prog w) A ((compTurn (.ListComp dN [⟨tg,iter,dF,0⟩] scope pos) 0 it acc env).onRaise (λz=>do noteFrame z env; theTreesLotGoes z)) _ _ s
 show wpAny_noted ?_
 rw [compTurn_list]
 show qC (vZ (qC (xJ (turn n s hI) (λr s1 q1=>?_) λ_ _ z=>z.elim)))
 cases r with
 | none=>show qL q1
 | some v =>
   show qC (xJ q1 (λ_ s2 q2=>?_) λ_ _ z=>z.elim)
   show qC (xJ q2 (λ_ s3 q3=>?_) λ_ _ z=>z.elim)
   show qC (xJ q3 (λok s4 q4=>?_) λ_ _ z=>z.elim)
   cases ok with
   | false=>show qL ⟨O,q4⟩
   | true =>
     show qC (qC (xJ q4 (λx s5 q5=>?_) λ_ _ z=>z.elim))
     show qC (xJ q5 (λ_ s6 q6=>qL (qL ⟨O,q6⟩)) λ_ _ z=>z.elim)
section
variable{fs ex:TQ}{H H1:Hp}{h h1:Heap}{D:Addr}{o:HO}
def Un.track(u:Un fs ex H H1 h h1)(hD:h.objs.size<=D)(n0:H D=none):Un fs ex H (af H1 D o) h h1 where
 keep:=u.keep
 slot:=u.slot
 free:=λb ob q n hx=>by rw[aM (rD (rB (qK q) hD))];show u.free b ob q n hx
 there:=u.there
 tups:=λb xs q=>by rw[aM (cH q n0)];show u.tups b xs q
 frzs:=λb ob xs q=>by rw[aM (cH q n0)];show u.frzs b ob xs q
 tbls:=λb ps q=>by rw[aM (cH q n0)];show u.tbls b ps q
def HOk.track(x:HOk P w H h)(n0:H D=none)(new:ObjOk P w (af H D o) h D o):HOk P w (af H D o) h:=λa u e=>by
 by_cases z:a=D
 .subst z;rw[ar]at e;cases e;show new
 .rw[aM z]at e;show(x a u e).stay (λ_ _ _ q=>q) (λb q=>by rw[aM (cH q n0)];show q) λb xs q=>by rw[aM (cH q n0)];show q
end
abbrev lobj(ah:TU)(n:Nat):Obj:={cls:=.type "list",data:=.seq ah.toArray n}
def Inv.letgo{aa:TF}(I:Inv X aa σ H s)(f:iJ X aa H C)(hs:Heap.SameBut C s.heap h'):Inv X aa σ H {s with heap:=h'} :=
 I.turned (t':=s.toks) (it:=C) (λb o hb e=>(hs.2 b hb).trans e) f.1 f.2.1 f.2.2.2.1 f.2.2.2.2.1 f.2.2.2.2.2
def Ll(h:(relabel scope env).names.lookup x=!k):∃k0,(x,k0)∈scope.names/\(k0=k\/(k0=.free/\k=.cell)):=by
 let m:=AX h;let⟨⟨n,k0⟩,h1,h2⟩:=qP.mp (show(x,k)∈scope.names.map _ from m);dsimp only at h2
 by_cases c:(k0 == NameKind.free && env.scope.kind == .function && env.kindOf n == !.cell)=true
 .rw[qX c]at h2;let⟨rfl,rfl⟩:=Prod.mk.inj h2;show⟨k0,h1,.inr ⟨?_,O⟩⟩;rw[uA,uA]at c;simpa using c.1.1
 .rw[qY c]at h2;let⟨rfl,rfl⟩:=Prod.mk.inj h2;show⟨k0,h1,.inl O⟩
def VS(h:scope.names.lookup x=!.free):(relabel scope env).names.lookup x=!.free\/(relabel scope env).names.lookup x=!.cell:=by
 have all:∀(l:List (Str×NameKind)),l.lookup x=!.free ->
   (l.map λ(n,k)=>if(k == NameKind.free && env.scope.kind == .function && env.kindOf n == !.cell)then(n,NameKind.cell)else(n,k)).lookup x=!.free \/
   (l.map λ(n,k)=>if(k == NameKind.free && env.scope.kind == .function && env.kindOf n == !.cell)then(n,NameKind.cell)else(n,k)).lookup x=!.cell:=by
  intro l
  induction l with
  | nil=>intro q;cases q
  | cons y r ih =>
    let⟨n,k⟩:=y
    intro q
    rw[uJ]at q
    rw[xP]
    cases hx:x == n with
    | true =>
      rw[hx]at q
      cases q
      dsimp only
      split
      · right;rw[uJ,hx]
      · left;rw[uJ,hx]
    | false =>
      rw[hx]at q
      dsimp only
      split
      · rw[uJ,hx];show ih q
      · rw[uJ,hx];show ih q
 show all scope.names h
section
variable{X:Cx}{dN tg iter:Expr}{dF:TW}{scope:Scope}{pos:Pos}{g:TG}{tt:TT}{te:TE}{N' own frees:TV}{ix:TM}{aa:TF}{σ:St}{H2:Hp}{s2:Shared}{it:Addr}{fp:TQ}{tn:Nat->Heap->Prop}{J:It}{cl:List (Str×Addr)}{E:TH}
structure CompScope(X:Cx)(scope:Scope)(own frees:TV)(ix:TM):Prop where
 kind:scope.kind=.function
 nocell:∀y∈scope.names,y.2≠.cell
 loc:∀y∈scope.names,y.2=.local->scope.names.lookup y.1=!.local
 fr:∀y∈scope.names,y.2=.free->X.env.scope.names.lookup y.1=!.cell\/X.env.scope.names.lookup y.1=!.free
 ixs:ix.map (λj=>X.N[j]?)=frees.map some
 isf:∀x∈frees,scope.names.lookup x=!.free
def VT(S:CompScope X scope own frees ix)(I:Inv X aa σ H2 s2)(gw:∀x c,cl.lookup x=!c->X.env.cells.lookup x=!c)(mE:∀x,(x,NameKind.free)∈scope.names->∃c,cl.lookup x=!c)(T:jK X.prog X.w X.K tg J fp it tn)(st:tn 0 s2.heap)(f2:∀b∈fp,iJ X aa H2 b)(hC: ~~~s2<=C):(b9 X N' scope cl C s2 H2 fp).Ok:=by
 let lt:∀b∈fp,b< ~~~s2:=λb hb=>by
  let⟨o,e,_⟩:=T.obj 0 _ st b hb;show qK e
 show⟨I.ok.mod,S.kind,I.ok.glob,I.ok.blt,hC,λx y c h1 h2=>I.ok.inj x y c (gw x c h1) (gw y c h2),λx hx=>?_,(λx c q=>nomatch q),I.ok.hd,I.ok.frames,.inl O,λb hb=>?_,I.bs,rK I.ok.bsz I.sz,λb o e hb=>?_,λb hb z=>?_,I.stack,I.stkFree⟩
 .have AZ:(relabel scope X.env).names.lookup x=!.cell\/(relabel scope X.env).names.lookup x=!.free:=hx;let fin:(x,NameKind.free)∈scope.names:=by
   rcases AZ with q | q
   .obtain⟨k0,m,z | ⟨z,_⟩⟩:=Ll q
    .show qT z (S.nocell _ m)
    .rw[<-z];show m
   .obtain⟨k0,m,z | ⟨_,z⟩⟩:=Ll q
    .rw[<-z];show m
    .cases z
  show mE x fin
 .show⟨rD (rB (lt b hb) hC),λx c e=>(f2 b hb).2.2.2.2.1 x c (gw x c e)⟩
 .let q:=(f2 b hb).2.2.2.1;rcases q with q | q
  .show I.ok.noex b o e q
  .show qT (rB (rB (qK e) I.ok.bsz) q) (rQ _)
 .rcases qM.mp (I.stkSub b z)with q | q
  .show(f2 b hb).2.1 q
  .show(f2 b hb).2.2.1 q
def Lm(hc:X.calm=true)(S:CompScope X scope own frees ix)(I:Inv X aa σ H2 s2)(gw:∀x c,cl.lookup x=!c->X.env.cells.lookup x=!c)(mE:∀x,(x,NameKind.free)∈scope.names->∃c,cl.lookup x=!c)(T:jK X.prog X.w X.K tg J fp it tn)(st:tn 0 s2.heap)(f2:∀b∈fp,iJ X aa H2 b)(hg:∀C,PG (b9 X (own++frees) scope cl C s2 H2 fp) tg g)(ht:∀C,oh (b9 X (own++frees) scope cl C s2 H2 fp) dF tt)(he:∀C,PE (b9 X (own++frees) scope cl C s2 H2 fp) dN te){Q:VK}{W:Nat->Nat->List V->St->Hp->Prop}(w0:∃m,W 0 m [] (iM own⁻¹ ix σ) H2)(turn:∀i m ys ae H',W i m ys ae H'->ys⁻¹<=i->ys⁻¹<sizeLine /\
   ((J.stop i H'/\∀ D,H' D=none->Q (.ref D) (af H' D (.lst ys))) \/
    (J.go i H'/\∃N:List V->St->Hp->Prop,(∀zs a0 H2,N zs a0 H2->∃m',m'<m/\W (i+1) m' zs a0 H2)/\∀x H2,J.yld i H' x H2->g x ae H2 λa0 H3=>tt a0 H3 λb H4 =>
       if b=true then te a0 H4 λv H5=>N (ys++[v]) a0 H5 else N ys a0 H4))){RR:Value->Addr->Result->Shared->Prop}(uz:∀D C H' s' m,Inv X aa σ H' s'->iJ X aa H' C->s'.heap.Ns C m->Q (.ref D) H'->RR (.ref D) C (.ok .next) s') :
  wpAny (model X.prog X.w) X.A (newList []) (λacc s3=>wpAny (model X.prog X.w) X.A (newFunctionEnv scope X.env.globals cl [] X.env.qual none .none (!X.env)) (λLn s4 =>
   codeAny (model X.prog X.w) X.A (.compStart (.ListComp dN [⟨tg,iter,dF,0⟩] scope pos) 0 (.ref it) acc {Ln with scope:=relabel scope X.env}) (RR acc Ln.locals) s4) E s3) E s2:=by
 let⟨m0,w0⟩:=w0;show yY (wpAny_newFunctionEnv S.nocell (by intro y hy;simp at hy) (λh1 Ed A0=>?_) S.kind);dsimp only at Ed A0⊢;generalize eH:s2.heap.push {cls:=.type "list",dict:=none,data:=.seq ([]:TU).toArray}=G at Ed A0⊢;let Lo:G.objs.size= ~~~s2+1:=by rw[<-eH,rM]
 let hC: ~~~s2<=G.objs.size:=by rw[Lo];show yR _
 let Ee: ~~~s2≠G.objs.size:=by rw[Lo];show rD (xB _)
 let below:∀b,b< ~~~s2->b≠G.objs.size/\b≠~~~s2:=λb hb=>⟨rD (rB hb hC),rD hb⟩
 let old:∀b o,s2.heap.get? b=!o->h1.get? b=!o:=λb o e=>A0.extBut b o (below b (qK e)).1 (qF _ (eH ▸ qF _ e))
 let VU:h1.get? (~~~s2)=!lobj [] 0:=A0.extBut _ _ Ee (qF _ (eH ▸ qQ _ O));let Ef:∀b∈fp,b< ~~~s2:=λb hb=>by
  let⟨o,e,_⟩:=T.obj 0 _ st b hb;show qK e
 let Lp:(b9 X (own++frees) scope cl G.objs.size s2 H2 fp).Ok:=VT S I gw mE T st f2 hC;let VW:∀x c,cl.lookup x=!c->c< ~~~s2:=λx c e=>by
  let⟨v,q⟩:=I.cell x c (gw x c e);show q.lt
 let VX:∀b,~~~s2<=b->b∉c8 X.stack:=λb hb z=>by
  rcases qM.mp (I.stkSub b z)with q | q
  .show qT (rB I.lt (by rw[<-q];show hb)) (rQ _)
  .show I.nofs hb q
 let VY:ix⁻¹=frees⁻¹:=by have:=xH List.length S.ixs;simpa using this
 have I0:Inv (b9 X (own++frees) scope cl G.objs.size s2 H2 fp) [(~~~s2,lobj [] 0)] (iM own⁻¹ ix σ) H2 {s2 with heap:=h1,toks:=s2.toks+([]:List (Str×Value))⁻¹}:=by
  let⟨m2,n2,l2⟩:=id I.loc;show⟨Lp,O,I.bare,Un.kept old,⟨_,Ed,λi x v e1 e2 e3=>?_⟩,λx c e=>?_,I.hok.fresh hC,λx c e=>I.freeC x c (gw x c e),λp hp=>?_,I.hok.kept old,?_⟩
  .have e1:(own++frees)[i]?=!x:=e1
   by_cases hi:i<own⁻¹
   .unfold iM at e2;rw[xE ‹hi›,List.getElem?_replicate]at e2
    split at e2<;>cases e2
   .have cC:own⁻¹<=i:=xQ hi;unfold iM at e2;rw[rL ‹cC›,yH,qH]at e2;rw[rL cC]at e1;cases ej:ix[i-own⁻¹]? with
    | none=>rw[ej]at e2;cases e2
    | some j =>
      rw[ej]at e2
      let p8:(σ[j]?).join=!v:=qZ e2
      let ev:σ[j]?=!!v:=by
        cases q:σ[j]? with
        | none=>rw[q]at p8;cases p8
        | some y=>rw[q]at p8;show xH some p8
      let eN:X.N[j]?=!x:=by
        let q:=xH (λl=>l[i-own⁻¹]?) S.ixs
        simp only[List.getElem?_map,ej,e1,Option.map_some]at q
        show qZ q
      let xf:x∈frees:=qN e1
      let xm:(x,NameKind.free)∈scope.names:=AX (S.isf x xf)
      let tQ:pO X.env.scope x:=by
        rcases S.fr _ xm O with q | q
        · show .inr (.inl q)
        · show .inr (.inr q)
      let⟨u,r,lk⟩:=l2 j x v eN ev tQ
      show⟨u,r,?_⟩
      rcases lk with⟨k,_⟩ | ⟨_,c,ec,z⟩
      · let k':X.env.scope.names.lookup x=!.local:=k
        rcases S.fr _ xm O with q | q
        · rw[k']at q;cases q
        · rw[k']at q;cases q
      · let⟨c',gx⟩:=mE x xm
        have:c=c':=qZ (ec.symm.trans (gw x c' gx))
        subst this
        show .inr ⟨?_,c,gx,z.keeps old⟩
        rcases VS (env:=X.env) (S.isf x xf)with q | q
        · show .inr q
        · show .inl q
  .let⟨v,z⟩:=I.cell x c (gw x c e);show⟨v,z.keeps old⟩
  .let iN:p=(~~~s2,lobj [] 0):=by simpa[b9]using hp
   subst iN;show⟨VU,I.hok.fresh (qG _),Ee,VX _ (qG _),λv q=>nomatch q⟩
  .show(iM own⁻¹ ix σ)⁻¹=(own++frees)⁻¹;unfold iM;rw[qJ,yH,qA,qJ,VY]
 let cU:tn 0 h1:=T.keep 0 _ _ st λb hb o e=>old b o e
 let nY:∀{H':Hp} {pl:TF},(∀b∈fp,H' b=none)->(∀p∈pl,~~~s2<=p.1)->∀b∈fp,iJ (b9 X (own++frees) scope cl G.objs.size s2 H2 fp) pl H' b:=λ{H' pl} hn hp b hb =>
  ⟨hn b hb,(below b (Ef b hb)).1,λz=>Lp.exfs b hb z,.inl hb,λx c e=>(f2 b hb).2.2.2.2.1 x c (gw x c e),λp q z=>by
   let q':p∈pl:=by simpa[b9]using q
   have:=hp p q';rw[z]at this;show qT (rB (Ef b hb) this) (rQ _)⟩
 have loop:∀s3:Shared,s3={s2 with heap:=h1,toks:=s2.toks+([]:List (Str×Value))⁻¹} ->
   codeAny (model X.prog X.w) X.A (.compLoop (.ListComp dN [⟨tg,iter,dF,0⟩] scope pos) 0 (.ref it) (.ref (~~~s2)) (compEnvC scope cl G.objs.size X.env)) (RR (.ref (~~~s2)) G.objs.size) s3:=by
  ext s3 rfl;show VR (λn s'=>∃i ys ae H' ah k,Inv (b9 X (own++frees) scope cl G.objs.size s2 H2 fp) [(~~~s2,lobj ah k)] ae H' s'/\tn i s'.heap/\(∀b∈fp,H' b=none)/\Vals ys ah/\ys⁻¹<=i/\W i n ys ae H') ?_ m0
   ⟨0,[],_,H2,[],0,I0,cU,λb hb=>(f2 b hb).1,.nil,qG _,w0⟩
  ext n s4 ⟨i,ys,A8,H4,ah,k,I4,Lq,Lr,rv,ly,w4⟩;let⟨hz,Eg⟩:=turn i n ys A8 H4 w4 ly;let big:∀p∈[(~~~s2,lobj ah k)],~~~s2<=p.1:=λp hp=>by
   have:p=(~~~s2,lobj ah k):=‹hp›
   rw[this];show qG _
  rcases Eg with⟨stop,fin⟩ | ⟨go,NN,fE,step⟩
  .show xJ (T.done (b9 X (own++frees) scope cl G.objs.size s2 H2 fp) O O O hc i _ s4 A8 H4 (λ_ _=>False) I4 (nY Lr big) Lq stop) (λr s5 q5=>?_) λ_ _ z=>z
   let⟨hr,I5⟩:=q5;subst hr;let pD:=I5.pin (~~~s2,lobj ah k) (rN _ rE);let⟨m5,n5,_⟩:=id I5.loc;let VZ:HOk X.prog X.w (af H4 (~~~s2) (.lst ys)) s5.heap:=HOk.track I5.hok pD.2.1 ⟨xD hz,ah,k,rv,pD.1⟩;let un:Un (c8 X.stack) fp H2 (af H4 (~~~s2) (.lst ys)) s2.heap s5.heap:=Un.track I5.base (qG _) (I.hok.fresh (qG _));let I6:Inv X aa σ (af H4 (~~~s2) (.lst ys)) s5:=I.call' (ch:=fp) I5.os un VZ I5.bare λb hb=>⟨(f2 b hb).2.2.2.1,(f2 b hb).2.1,(f2 b hb).2.2.2.2.1,(f2 b hb).2.2.2.2.2⟩
   show uz _ _ _ _ m5 I6 ?_ n5 (fin _ pD.2.1);show⟨?_,?_,?_,.inr (rK I.sz hC),λx c e z=>?_,λp hp z=>?_⟩
   .rw[aM (rV Ee)];show I5.free
   .show yJ (rB I.lt hC)
   .show I.nofs hC
   .let⟨v,q⟩:=I.cell x c e;show qT (rB q.lt (by rw[z];show hC)) (rQ _)
   .show qT (rB (qK (I.pin p hp).1) (by rw[z];show hC)) (rQ _)
  .refine xJ (T.item (b9 X (own++frees) scope cl G.objs.size s2 H2 fp) O O O hc i _ s4 A8 H4 (λ_ _=>False) I4 (nY Lr big) Lq go) (λr s5 q5=>?_) λ_ _ z=>z
   let⟨u,hr,q5⟩:=q5;subst hr;show xJ q5 (λ_ s6 q6=>?_) λ_ _ z=>z
   let⟨x,H6,I6,r6,y6,va,V0⟩:=q6;let V1:=I6.pinned (nY V0 big) (T.obj _ _ va);show xJ (hg _ _ s6 A8 H6 x u _ V1 r6 (step x H6 y6)) (λ_ s7 q7=>?_) λ_ _ z=>z
   let⟨eh,H7,I7,q7⟩:=q7;show xJ (ht _ _ s7 eh H7 _ I7 q7) (λok s8 q8=>?_) λ_ _ z=>z
   let⟨H8,I8,q8⟩:=q8;cases ok with
   | false =>
     rw[qY rA]at q8⊢
     let⟨m',hm,w8⟩:=fE _ _ _ q8
     show⟨m',hm,i+1,ys,eh,H8,ah,k,I8.unpinned,T.keep _ _ _ va λb hb o e=>(I8.pin (b,o) (rN _ (rN _ (pU hb e)))).1,λb hb=>?_,rv,yS ly,w8⟩
     let⟨o,e,d⟩:=T.obj _ _ va b hb
     show(I8.pin (b,o) (rN _ (rN _ (pU hb e)))).2.1
   | true =>
     rw[qX O]at q8⊢
     show xJ (he _ _ s8 eh H8 _ I8 q8) (λv s9 q9=>?_) λ_ _ z=>z
     let⟨y,H9,I9,ry,q9⟩:=q9
     let⟨m',hm,w9⟩:=fE _ _ _ q9
     let pD:=I9.pin (~~~s2,lobj ah k) (rN _ (uP _ rE))
     let vc:=rv⁻¹
     show wpAny_list_append_plain (items:=ah.toArray) ⟨k,pD.1⟩ (λh' hp hs=>?_) (by rw[rC];omega)
     let⟨k',e'⟩:=hp
     let ne:∀b∈fp,b≠~~~s2:=λb hb=>(below b (Ef b hb)).2
     let I10:Inv (b9 X (own++frees) scope cl G.objs.size s2 H2 fp) (nX fp s6.heap) eh H9 s9:=I9.pins_of λp hp=>I9.pin p (rN _ (rN _ hp))
     have I11:Inv (b9 X (own++frees) scope cl G.objs.size s2 H2 fp) (nX fp s6.heap) eh H9 {s9 with heap:=h',toks:=s9.toks} :=
       I10.turned (it:= ~~~s2) (λb o hb e=>(hs.2 b hb).trans e) pD.2.1 pD.2.2.1 (.inr (qG _)) (λx c e z=>qT (VW x c e) (by rw[z];show rQ _)) λp hp z=>by
         let iN:p∈nX fp s6.heap:=by simpa[b9]using hp
         show ne p.1 (Kt iN).1 z
     let V2:h'.get? (~~~s2)=!lobj (ah++[v]) k':=by rw[e'];simp
     let V3:Inv (b9 X (own++frees) scope cl G.objs.size s2 H2 fp) [(~~~s2,lobj (ah++[v]) k')] eh H9 {s9 with heap:=h',toks:=s9.toks}:=I11.pins_of λp hp=>by
       have:p=(~~~s2,lobj (ah++[v]) k'):=‹hp›
       subst this
       show⟨V2,pD.2.1,pD.2.2.1,pD.2.2.2.1,λv q=>nomatch q⟩
     show⟨m',hm,i+1,ys++[y],eh,H9,ah++[v],k',V3,T.keep _ _ _ va λb hb o e=>(hs.2 b (ne b hb)).trans (I9.pin (b,o) (rN _ (rN _ (pU hb e)))).1,λb hb=>?_,rv.append (.cons ry .nil),by rw[qJ];show yO ly,w9⟩
     let⟨o,e,d⟩:=T.obj _ _ va b hb
     show(I9.pin (b,o) (rN _ (rN _ (pU hb e)))).2.1
 show codeAny_compStart_list (loop _ O) (T.self _ 0 _ _ _ cU (loop _ O))
variable{wi:TI}
def V4(hc:X.calm=true)(S:CompScope X scope own frees ix)(hi:PI X tg iter wi)(hg:∀cl C s2 H2 fp,PG (b9 X (own++frees) scope cl C s2 H2 fp) tg g)(ht:∀cl C s2 H2 fp,oh (b9 X (own++frees) scope cl C s2 H2 fp) dF tt)(he:∀cl C s2 H2 fp,PE (b9 X (own++frees) scope cl C s2 H2 fp) dN te)(hs:∀x,foldedSetIterable iter X.env x=pure x:=by intro _;rfl) :
  PE X (.ListComp dN [⟨tg,iter,dF,0⟩] scope pos) (AY own⁻¹ ix wi g tt te):=by
 intro aa s σ H Q I h;let⟨cl,eV,gw,mE⟩:=Li (scope:=scope) (env:=X.env) λx hx hf=>I.ok.has x.1 (S.fr x hx hf)
 rw[eval_ListComp];show wpAny_comprehension_free (use:=none) O hs eV S.kind S.loc ?_;show aR (hi aa s σ H _ I h) λv s1 h1=>aR h1 λAL s2 h2=>?_
 let⟨it,fp,tn,J,H2,e,I2,T,gq,f2,W,w0,turn⟩:=h2;subst e;show Lm (Q:=Q) (RR:=λacc C=>compPost (model X.prog X.w) X.A X.xe none (EP X aa σ Q) acc C) hc S I2 gw mE T gq f2 (λC=>hg cl C s2 H2 fp) (λC=>ht cl C s2 H2 fp) (λC=>he cl C s2 H2 fp) w0 turn ?_;intro D C H' s' m I' fC nC q;show⟨m,nC,λh' bu=>⟨.ref D,H',I'.letgo fC bu,O,q⟩⟩
def V5{i:Nat}(hc:X.calm=true)(hN:X.N.Nodup)(Eh:X.N[i]?=!y)(hy:Loc X.env.scope y)(S:CompScope X scope own frees ix)(hi:PI X tg iter wi)(hg:∀ cl C s2 H2 fp,PG (b9 X (own++frees) scope cl C s2 H2 fp) tg g)(ht:∀ cl C s2 H2 fp,oh (b9 X (own++frees) scope cl C s2 H2 fp) dF tt)(he:∀ cl C s2 H2 fp,PE (b9 X (own++frees) scope cl C s2 H2 fp) dN te)(hf:X.fn y=true\/X.env.scope.names.lookup y=!.local:=by first | show .inl rfl | show .inr rfl | assumption)(Ei:swapsWith (.ListComp dN [⟨tg,iter,dF,0⟩] scope pos) (!.Name y py) Ej.line X.env=pure true:=by with_unfolding_all rfl)(hs:∀ x,foldedSetIterable iter X.env x=pure x:=by intro _; rfl) :
  PS X (.Assign [.Name y py] (.ListComp dN [⟨tg,iter,dF,0⟩] scope pos) Ej) (mf (AY own⁻¹ ix wi g tt te) (aY i)):=by
 intro aa s σ H D I h
 let⟨cl,eV,gw,mE⟩:=Li (scope:=scope) (env:=X.env) λx hx hf=>I.ok.has x.1 (S.fr x hx hf)
 rw [exec_Assign_Name_used _ _ _ _ Ei]
 show qC (vZ (qC ?_))
 show wpAny (model X.prog X.w) X.A (do let _ <- comprehension (.ListComp dN [⟨tg,iter,dF,0⟩] scope pos) scope X.env _ (newList []) false (eval iter X.env) (!assign (.Name y py) X.env)) _ _ s
 show qC (xJ (wpAny_comprehension_free (use:=!assign (.Name y py) X.env) (Q:=λ_ s'=>SP X aa D .next s') O hs eV S.kind S.loc ?_) (λ_ s' q=>qL (qL q)) λ_ _ z=>z)
 show aR (hi aa s σ H _ I h) λv s1 h1=>aR h1 λAL s2 h2=>?_
 let⟨it,fp,tn,J,H2,e,I2,T,gq,f2,W,w0,turn⟩:=h2
 subst e
 show Lm (Q:=λv H'=>aY i v σ H' D.nx) (RR:=λacc C=>compPost (model X.prog X.w) X.A X.xe (!assign (.Name y py) X.env) (λ_ s'=>SP X aa D .next s') acc C) hc S I2 gw mE T gq f2 (λC=>hg cl C s2 H2 fp) (λC=>ht cl C s2 H2 fp) (λC=>he cl C s2 H2 fp) w0 turn ?_
 intro L C H' s' m I' fC nC q
 show wpAny (model X.prog X.w) X.A (assign (.Name y py) X.env (.ref L)) _ _ _
 show wpAny_assign_Name (JZ (v:=.ref L) I' hN Eh hy O (λs3 I3 eL=>?_) hf)
 let⟨a,sb,ha⟩:=eL
 let V6:C≠a:=by
  rcases ha with z | z
  .rw [z]; show fC.2.1
  .show λq=>fC.2.2.2.2.1 y a z q.symm
 show ⟨m,nC.sameBut sb V6,λh' bu=>?_⟩
 show ⟨_,H',I3.letgo fC bu,q⟩
end
def bB{K:W.Frag}{a:Addr}{xs:List V}{own:Nat}{ix:TM}{g:TG}{tt:TT}{te:TE}{σ:St}{H:Hp}{Q:VK}(Pv:Nat->List V->St->Hp->Prop)(hz:xs⁻¹<sizeLine)(h0:Pv 0 [] (iM own ix σ) H)(hl:∀i ys ae H',i<=xs⁻¹->Pv i ys ae H'->SqL K H' a xs)(hs:∀i x ys ae H',xs[i]?=!x->Pv i ys ae H'->g x ae H' λa0 H3=>tt a0 H3 λb H4=>if b=true then te a0 H4 λv H5=>Pv (i+1) (ys++[v]) a0 H5 else Pv (i+1) ys a0 H4)(hd:∀ys ae H',Pv xs⁻¹ ys ae H'->∀D,H' D=none->Q (.ref D) (af H' D (.lst ys))) :
  p7 own ix g tt te (pT K a) σ H Q:=by
 show⟨λi m ys σ H=>m=xs⁻¹-i/\i<=xs⁻¹/\Pv i ys σ H,⟨xs⁻¹,∅,rO _,h0⟩,?_⟩;ext i m ys σ H ⟨rfl,hi,p⟩ hy;let q:=hl i ys σ H hi p;show⟨(),?_⟩
 by_cases aZ:i<xs⁻¹
 .show .inr ⟨⟨xs,xs[i],q,by simp[aZ]⟩,Pv (i+1),λzs ae H' p'=>⟨xs⁻¹-(i+1),(),O,aZ,p'⟩,λx H' y=>?_⟩;let⟨e,y⟩:=y;subst e;show hs i x ys σ _ (y xs q) p
 .let e:i=xs⁻¹:=()
  subst e;show .inl ⟨⟨xs,q,qG _⟩,hd ys σ H p⟩
def ObjOk.at(x:ObjOk P w H h a o):∃u,h.get? a=!u:=by
 cases o with
 | lst xs=>let⟨_,_,_,_,e⟩:=x;show⟨_,e⟩
 | tup xs=>let⟨_,_,_,o,e,_⟩:=x;show⟨_,e⟩
 | dK aj=>let⟨_,_,_,_,o,_,_,e,_⟩:=x;show⟨_,e⟩
 | dT aj=>let⟨_,_,_,_,o,_,_,e,_⟩:=x;show⟨_,e⟩
 | set S n=>let⟨o,_,_,_,e,_⟩:=x;show⟨_,e⟩
 | ins C dx fs=>let⟨_,_,_,e,_⟩:=x;show⟨_,e⟩
 | own y=>show x
 | xd fs=>let⟨_,⟨_,_,_,e,_⟩,_⟩:=x;show⟨_,e⟩
 | rng lo hi=>let⟨_,_,_,e⟩:=x;show⟨_,e⟩
 | frz ob u=>let⟨e,_⟩:=x;show⟨_,e⟩
 | tbl ps=>show⟨_,x⟩
 | met f y=>show⟨_,x⟩
 | ext φ=>show x.2.1
section
variable{X:Cx}{aa:TF}{σ:St}{H:Hp}{s:Shared}{D:Addr}{o:HO}
def Inv.track(I:Inv X aa σ H s)(h0:X.s₀.heap.get? D=none)(hn:H D=none)(hL:D≠X.env.locals)(hc:∀x c,X.env.cells.lookup x=!c->c≠D)(hp:∀p∈X.pn++aa,p.1≠D)(new:ObjOk X.prog X.w (af H D o) s.heap D o):Inv X aa σ (af H D o) s:=by
 show⟨I.ok,I.os,I.bare,⟨I.base.keep,I.base.slot,λb ob q n hx=>?_,I.base.there,λb xs q=>?_,λb ob xs q=>?_,λb ps q=>?_⟩,I.loc,I.cell,?_,λx c e=>?_,λp z=>?_,HOk.track I.hok hn new,I.len⟩
 .rw[aM (λz=>by rw[z,h0]at q;cases q)];show I.base.free b ob q n hx
 .let r:=I.base.tups b xs q;rw[aM (λz=>by rw[z,hn]at r;cases r)];show r
 .let r:=I.base.frzs b ob xs q;rw[aM (λz=>by rw[z,hn]at r;cases r)];show r
 .let⟨more,r⟩:=I.base.tbls b ps q;show⟨more,by rw[aM (λz=>by rw[z,hn]at r;cases r)];show r⟩
 .rw[aM (rV hL)];show I.free
 .rw[aM (hc x c e)];show I.freeC x c e
 .let⟨q1,q2,q3,q4,q5⟩:=I.pin p z;show⟨q1,by rw[aM (hp p z)];show q2,q3,q4,q5⟩
end
mutual
inductive jh(H:Hp):V->W.Dat->Prop
 | non:jh H .non .none
 | int (i):jh H (.int i) (.int i)
 | str (x):jh H (.str x) (.str x)
 | tup {a xs ds}:H a=!.tup xs->oi H xs ds->jh H (.ref a) (.tuple ds)
 | lst {a xs ds}:H a=!.lst xs->oi H xs ds->jh H (.ref a) (.list ds)
inductive oi(H:Hp):List V->List W.Dat->Prop
 | nil:oi H [] []
 | cons {x d xs ds}:jh H x d->oi H xs ds->oi H (x::xs) (d::ds)
end
section
variable{P:Program}{w:World}{H:Hp}{h:Heap}
mutual
theorem Ek(ok:HOk P w H h):∀{v:V} {d:W.Dat} {u:Value} (n:Nat),jh H v d->RelV v u->W.kqdOk n d=true->∃as,Reads h u (W.kqdP d) as
 | _,_,_,_,.non,r,_=>by cases r;show⟨_,Reads.none⟩
 | _,_,_,_,.int i,r,_=>by let⟨t,rfl⟩:=r;show⟨_,Reads.int i t⟩
 | _,_,_,_,.str x,r,_=>by let⟨t,rfl⟩:=r;show⟨_,Reads.str x t⟩
 | _,_,_,0,.tup _ _,_,hk=>by simp[W.kqdOk]at hk
 | _,_,_,0,.lst _ _,_,hk=>by simp[W.kqdOk]at hk
 | _, _, _, n + 1, .tup (a := a) e q, r, hk => by
   cases r
   let⟨_,ah,rv,o,e1,e2,k,e3⟩:=ok a _ e
   let⟨as,z⟩:=El ok n q rv (by simpa[W.kqdOk]using hk)
   rw[W.kqdP]
   show⟨as,reads_tuple_at e1 e2 e3 ‹z›⟩
 | _, _, _, n + 1, .lst (a := a) e q, r, hk => by
   cases r
   let⟨_,ah,k,rv,e1⟩:=ok a _ e
   let⟨as,z⟩:=El ok n q rv (by simpa[W.kqdOk]using hk)
   rw[W.kqdP]
   show⟨_,reads_list_at e1 O O ‹z›⟩
theorem El(ok:HOk P w H h):∀{vs:List V} {ds:List W.Dat} {us:TU} (n:Nat),oi H vs ds->Vals vs us->(∀d∈ds,W.kqdOk n d=true)->∃as,ReadsAll h us (W.kqdPs ds) as
 | _,_,_,_,.nil,r,_=>by cases r;show⟨_,ReadsAll.nil⟩
 | _, _, _, n, .cons q qs, r, hk => by
   cases r with
   | cons r1 r2 =>
     let⟨as,z⟩:=Ek ok n q r1 (hk _ (.head _))
     let⟨bs,y⟩:=El ok n qs r2 λd hd=>hk d (.tail _ hd)
     rw[W.kqdPs]
     show⟨_,ReadsAll.cons z y⟩
end
end
def V7{n k:Nat}(h1:W.kqdOk n d=true)(h2:W.kqdOk k e=true)[Decidable (d=e)]:PyData.eqv (W.kqdP d) (W.kqdP e)=decide (d=e):=by
 let q:=W.kqd_eqv n d e k h1 h2
 by_cases z:d=e
 .rw[qR z];show q.mpr z
 .rw[qV z];show Bool.eq_false_iff.mpr λx=>z (q.mp x)
def Ls(h:W.kqdOk 9 d=true):SeqAt.shaped (W.kqdP d)=true:=by
 let q:=W.kqd_lay 9 d h;unfold SeqAt.shaped;rw[q.1,Bool.true_and];show qR (rK q.2 {})
section
variable{X:Cx}
open Classical in
inductive Lu(neg:Bool):V->V->Hp->VK->Prop
|m d e:jh H x d->jh H y e->W.kqdOk 9 d=true->W.kqdOk 9 e=true->Q (.bl (if neg=true then (Bool.not (decide (d=e)))else decide (d=e))) H->Lu neg x y H Q
open Classical in
def V8(hu:X.A.units+64<cLine):cw X (compareOp .NotEq) (Lu true):=by
 intro aa s σ H x y v u Q I rx ry h;let⟨d,e,h1,h2,k1,k2,q⟩:=h;let⟨as,r1⟩:=Ek I.hok 9 h1 rx k1;let⟨bs,r2⟩:=Ek I.hok 9 h2 ry k2;show ne_dataH r1 r2 (Ls k1) (Ls k2) hu (cq I q (by rw[V7 k1 k2];simp))
def V9(i j:Int):=0<j/\j<18446744073709551616
def vd:cw X (binaryOp .FloorDiv) (rI V9 λi j=>.int (i / j)):=tV λi j _ _ _ _ _ hc q=>by
 let h1:(0:Int)<j:=hc.1;let h2:j<18446744073709551616:=hc.2;show floordiv_int () ?_ (.inl (PyProof.noPylong_of_log2 ?_))
 .rw[Int.fdiv_eq_ediv_of_nonneg i ()];show q
 .let h3:j.natAbs<2 ^ 64:=()
  show rB ((Nat.log2_lt ()).mpr h3) {}
end
end L2
namespace Bk
inductive Kd
 | body | case | shelf | grid | text | head | picture | aside | note | leaf | no
 deriving DecidableEq
def Kd.s:Kd->Str
 | .body=>s!"body"
 | .case=>s!"case"
 | .shelf=>s!"shelf"
 | .grid=>s!"grid"
 | .text=>s!"text"
 | .head=>s!"head"
 | .picture=>s!"picture"
 | .aside=>s!"aside"
 | .note=>s!"note"
 | .leaf=>s!"leaf"
 | .no=>s!""
abbrev Em:List Kd:=[.body,.case,.shelf,.grid,.text,.head,.picture,.aside,.note,.leaf,.no]
def Kd.inj(a b:Kd):(a.s=b.s)=(a=b):=by
 let m:∀a,a∈Em:=by intro a;cases a<;>ac_rfl
 show propext ⟨λh=>(show∀a∈Em,∀b∈Em,a.s=b.s->a=b by ac_rfl) a (m a) b (m b) h,λh=>by rw[h]⟩
inductive So
 | word | page | note | sign
 deriving DecidableEq
def So.s:So->Str
 | .word=>s!"word"
 | .page=>s!"page"
 | .note=>s!"note"
 | .sign=>s!"sign"
def So.inj(a b:So):(a.s=b.s)=(a=b):=by
 cases a<;>cases b<;>first | show propext ⟨λ_=>rfl,λ_=>rfl⟩ | show propext ⟨λh=>qT h (by ac_rfl),λh=>by cases h⟩
inductive Th
 | int (n:Int) | tri (s:So) (x:Sum Str Int) (t:Int)
structure Nd where
 e:Int
 k:Kd
 nm:Str
 mks:TV
 st:List Th
def ve:TM:=[97,98,99,100,101,102,103,104,105,106,107,108,109,110,111,112,113,114,115,116,117,118,119,120,121,122,
 65,66,67,68,69,70,71,72,73,74,75,76,77,78,79,80,81,82,83,84,85,86,87,88,89,90,48,49,50,51,52,53,54,55,56,57,46,44,45,59,58,39,40,41,33,63]
def En(c:Nat):=97<=c/\c<=122
def Eo(w:Str):=1<=w⁻¹/\w⁻¹<=20/\∀c∈w.cps.toList,c∈ve
def Name(n:Str):=1<=n⁻¹/\n⁻¹<=8/\∀c∈n.cps.toList,En c
def ig:Th->Bool
 | .tri .note _ _=>true
 | _=>false
def ii:Th->Prop
 | .tri .word (.inl w) t=>Eo w/\0<=t/\t<=3
 | .tri .page (.inl n) t=>Name n/\0<=t/\t<=3
 | .tri .note (.inr k) t=>0<=k/\k<=60/\t=0
 | _=>False
def Ep:Th->Option Int
 | .tri .note (.inr k) _=>!k
 | _=>none
def fZ(l:List Th):TN:=l.filterMap Ep
def nums(n:Nat):TN:=(List.range n).map λ(i:Nat)=>(i:Int)
def Er(n:Nat):nums (n+1)=nums n++[(n:Int)]:=by unfold nums;rw[yV,qD];rfl
structure vf(n:Nat)(l:List Th):Prop where
 ok:∀x∈l,ii x
 ne:∃x r,l=x::r/\ig x=false
 nn:fZ l=nums n
 le:l⁻¹<=60
def fF:Kd->Kd->Bool
 | .body,.case | .body,.shelf | .body,.grid | .body,.text | .body,.head | .body,.picture | .body,.aside=>true
 | .case,.case | .case,.shelf | .case,.grid | .case,.text | .case,.head | .case,.picture | .case,.aside=>true
 | .shelf,.case | .shelf,.shelf | .shelf,.grid | .shelf,.text | .shelf,.picture=>true
 | .grid,.case | .grid,.shelf | .grid,.grid | .grid,.text | .grid,.picture=>true
 | .text,.note | .head,.note=>true
 | .aside,.case | .aside,.shelf | .aside,.grid | .aside,.text | .aside,.head | .aside,.picture=>true
 | _,_=>false
def V':Kd->Bool
 | .body | .shelf | .grid | .aside=>true
 | _=>false
def Wa:Kd->Bool
 | .text | .head | .note=>true
 | _=>false
def Nexts:List Kd->Prop
 | []=>True
 | .aside :: .text::r=>Nexts r
 | .aside::_=>False
 | _::r=>Nexts r
def Holds(k:Kd)(ks:List Kd)(st:List Th):=(∀c∈ks,fF k c=true)/\(V' k=true->ks≠[])/\Nexts ks/\(Wa k=true->fZ st=nums ks⁻¹)
def kO(l:TV):Prop:=l⁻¹<=4/\(∀m∈l,Name m)/\l.Pairwise λa b=>a.cps.toList<b.cps.toList
def Wb:Kd->List Th->Prop
 | .picture,l=>∃a b:Int,l=[.int a,.int b]/\1<=a/\a<=2000/\1<=b/\b<=2000
 | .text,l | .head,l | .note,l=>(∀x∈l,ii x)/\(∃x r,l=x::r/\ig x=false)/\l⁻¹<=60
 | _,l=>l=[]
def cL:Str:=s!""
structure vg(d:Nd):Prop where
 nm:d.nm=cL\/Name d.nm
 mks:kO d.mks
 st:Wb d.k d.st
inductive Forest:Nat->Nat->Nat->List Nd->List Kd->Prop
 | nil {e i lv:Nat}:Forest e i lv [] []
 | cons {e i lv:Nat} {d:Nd} {sub rest:List Nd} {ks ca:List Kd}:d.e=(e:Int)->lv<=6->d.k≠.body->Forest i (i+1) (lv+1) sub ks->Holds d.k ks d.st->Forest e (i+1+sub⁻¹) lv rest ca->Forest e i lv (d::(sub++rest)) (d.k::ca)
def Forest.append{e lv:Nat}{i:Nat}(x:Forest e i lv a ks):Forest e (i+a⁻¹) lv b ca->Forest e i lv (a++b) (ks++ca):=by
 induction x with
 | nil=>intro y;show y
 | @cons e i lv d sub rest ks ks1 h1 h2 h3 f1 h4 f2 mF iO =>
   intro y
   let y':Forest e (i+1+sub⁻¹+rest⁻¹) lv b ca:=by
     have:i+(d::(sub++rest))⁻¹=i+1+sub⁻¹+rest⁻¹:=by simp;omega
     rw[<-this];show y
   have:=iO y'
   rw[v0,xM,v0]
   show .cons h1 h2 h3 f1 h4 this
def Forest.one{e i lv:Nat}(h1:d.e=(e:Int))(h2:lv<=6)(h3:d.k≠.body)(f:Forest i (i+1) (lv+1) sub ks)(h4:Holds d.k ks d.st):Forest e i lv (d::sub) [d.k]:=by
 have:=Forest.cons (rest:=[]) h1 h2 h3 f h4 .nil
 rwa [rZ]at this
def ItemKs(ke:Kd)(ks:List Kd):=(∃k,ks=[k]/\k≠.aside/\fF ke k=true)\/(ks=[.aside,.text]/\fF ke .aside=true/\fF ke .text=true)
theorem Nexts.append:∀{a b:List Kd},Nexts a->Nexts b->Nexts (a++b)
 | [],b,_,h=>h
 | [.aside],b,h,_=>by cases h
 | .aside :: k :: r, b, h, h' => by
   cases k<;>first | (show Nexts.append (a:=r) h h') | cases h
 | .body::r,b,h,h'=>Nexts.append (a:=r) h h'
 | .case::r,b,h,h'=>Nexts.append (a:=r) h h'
 | .shelf::r,b,h,h'=>Nexts.append (a:=r) h h'
 | .grid::r,b,h,h'=>Nexts.append (a:=r) h h'
 | .text::r,b,h,h'=>Nexts.append (a:=r) h h'
 | .head::r,b,h,h'=>Nexts.append (a:=r) h h'
 | .picture::r,b,h,h'=>Nexts.append (a:=r) h h'
 | .note::r,b,h,h'=>Nexts.append (a:=r) h h'
 | .leaf::r,b,h,h'=>Nexts.append (a:=r) h h'
 | .no::r,b,h,h'=>Nexts.append (a:=r) h h'
def ItemKs.nexts(h:ItemKs ke ks):Nexts ks:=by
 rcases h with⟨k,rfl,n,_⟩ | ⟨rfl,_⟩
 .cases k<;>first | trivial | show qT rfl n
 .trivial
def ItemKs.may(h:ItemKs ke ks):∀k∈ks,fF ke k=true:=by
 rcases h with⟨k,rfl,_,m⟩ | ⟨rfl,m1,m2⟩
 .intro k' hk;have:k'=k:=‹hk›
  rw[this];show m
 .intro k' hk;rcases qM.mp hk with rfl | hk
  .show m1
  .have:k'=.text:=‹hk›
   rw[this];show m2
def ItemKs.ne(h:ItemKs ke ks):ks≠[]:=by
 rcases h with⟨k,rfl,_⟩ | ⟨rfl,_⟩<;>simp
def Names(l:List Nd):=(l.filter λd=>d.nm≠cL).map (·.nm) |>.Nodup
structure Book(l:List Nd):Prop where
 tree:∃d sub ks,l=d::sub/\d.e=-1/\d.k=.body/\Forest 0 1 1 sub ks/\Holds .body ks d.st
 form:∀d∈l,vg d
 names:Names l
def iP(R lv:Nat):Nat:=R+(if 4<=lv then 2 else if lv=3 then 12 else if lv=2 then 21 else 30)
end Bk
namespace L2
def ay(h:H p=none)(o:HO):Same H (af H p o):=λb u q=>by rw[aM (cH q h)];show q
def KeepN(N:Addr->Prop)(H H':Hp):=∀b o,N b->H b=!o->H' b=!o
def KeepN.trans{N:Addr->Prop}(a:KeepN N H H1)(b:KeepN N H1 H2):KeepN N H H2:=λc o n h=>b c o n (a c o n h)
def KeepN.mono{N N':Addr->Prop}(a:KeepN N H H1)(h:∀b,N' b->N b):KeepN N' H H1:=λc o n e=>a c o (h c n) e
def Same.keep{N:Addr->Prop}(s:Same H H'):KeepN N H H':=λb o _ e=>s b o e
def KeepN.refl{N:Addr->Prop}:KeepN N H H:=λ_ _ _ e=>e
end L2
namespace Bk
open L2
def Wc:Sum Str Int->V
 | .inl x=>.str x
 | .inr k=>.int k
def ItAt(N:Addr->Prop)(H:Hp)(v:V):Th->Prop
 | .int n=>v=.int n
 | .tri s x t=>∃a,v=.ref a/\N a/\H a=!.tup [.str s.s,Wc x,.int t]
def ItAt.keep{N N':Addr->Prop}(h:ItAt N H v x)(k:KeepN N H H')(sub:∀b,N b->(H b).isSome=true->N' b):ItAt N' H' v x:=by
 cases x with
 | int n=>show h
 | tri s x t =>
   let⟨a,e,n,g⟩:=h
   show⟨a,e,sub a n (by rw[g];rfl),k _ _ n g⟩
def StAt(N:Addr->Prop)(H:Hp)(s:Addr)(l:List Th):=N s/\∃vs,H s=!.lst vs/\Paired (ItAt N H) vs l
structure NdAt(N:Addr->Prop)(H:Hp)(a:Addr)(d:Nd):Prop where
 na:N a
 ex:∃m s,H a=!.tup [.int d.e,.str d.k.s,.str d.nm,.ref m,.ref s]/\N m/\H m=!.lst (d.mks.map V.str)/\StAt N H s d.st
def StAt.keep{N N':Addr->Prop}(h:StAt N H s l)(k:KeepN N H H')(sub:∀b,N b->(H b).isSome=true->N' b):StAt N' H' s l:=by
 let⟨n,vs,g,p⟩:=h;show⟨sub s n (by rw[g];rfl),vs,k _ _ n g,p.mono λv x q=>q.keep k sub⟩
def NdAt.keep{N N':Addr->Prop}(h:NdAt N H a d)(k:KeepN N H H')(sub:∀b,N b->(H b).isSome=true->N' b):NdAt N' H' a d:=by
 let⟨na,m,s,g,nm,gm,st⟩:=h;show⟨sub a na (by rw[g];rfl),m,s,k _ _ na g,sub m nm (by rw[gm];rfl),k _ _ nm gm,st.keep k sub⟩
abbrev NdsAt(N:Addr->Prop)(H:Hp)(as:TQ)(ds:List Nd):Prop:=Paired (NdAt N H) as ds
def NdsAt.keep{N N':Addr->Prop}(h:NdsAt N H as ds)(k:KeepN N H H')(sub:∀b,N b->(H b).isSome=true->N' b):NdsAt N' H' as ds:=h.mono λa d q=>q.keep k sub
def NdsAt.get{N:Addr->Prop}(h:NdsAt N H as ds){i:Nat}(e:ds[i]?=!d):∃a,as[i]?=!a/\NdAt N H a d:=by
 induction h generalizing i with
 | nil=>cases e
 | @cons a b l1 l2 q t ih =>
   cases i with
   | zero=>cases e;show⟨a,O,q⟩
   | succ i=>show ih ‹e›
def NdsAt.at{N:Addr->Prop}(h:NdsAt N H as ds){i:Nat}(e:as[i]?=!a):∃d,ds[i]?=!d/\NdAt N H a d:=by
 induction h generalizing i with
 | nil=>cases e
 | @cons a b l1 l2 q t ih =>
   cases i with
   | zero=>cases e;show⟨b,O,q⟩
   | succ i=>show ih ‹e›
def NdsAt.append{N:Addr->Prop}(p:NdsAt N H as ds)(h:NdsAt N H bs es):NdsAt N H (as++bs) (ds++es):=by
 induction p with
 | nil=>show h
 | cons q t ih=>show .cons q ih
def cM(N:Addr->Prop)(H:Hp)(p:Addr)(ds:List Nd):=∃as,H p=!.lst ↑as/\NdsAt N H as ds
def aX{as:TQ}{i:Nat}{a:Addr}(e:as[i]?=!a):bO ↑as ((i:Nat):Int)=!.ref a:=fX (by rw[qH,e];rfl)
end Bk
namespace L2
open PyProof.Rows
def We:bootBuiltins "enumerate" = !.type "enumerate":=by ac_rfl
section
variable{X:Cx}{aa:TF}{σ:St}{H:Hp}{s:Shared}{h':Heap}{fp:TQ}
def Inv.moved{t':Nat}(I:Inv X aa σ H s)(hf:∀b∈fp,iJ X aa H b)(k:∀b o,b∉fp->s.heap.get? b=!o->h'.get? b=!o):Inv X aa σ H {s with heap:=h',toks:=t'}:=by
 show I.step (g':=s.gens) (d':=s.drawn) (ch:=fp) (λb hb=>?_) (λb o _ _ hc e _=>k b o hc e) (λb o _ _ hc e _=>⟨o.slots,k b o hc e⟩) (λ_ _ _ _ n=>n) (λb o hc e=>⟨o,k b o hc e⟩) (λ_ _ q=>q) (λ_ _ _ q=>q) (λb ps q=>⟨#[],by rw[q];simp⟩) (λm hn=>?_) (λa u q=>?_) I.bare
 .let⟨_,f1,_,f3,f4,f5⟩:=hf b hb;show⟨f3,f1,f4,f5⟩
 .let⟨o,es,ep,e,r⟩:=hn;show⟨o,es,ep,k _ _ (λz=>(hf _ z).2.1 O) e,r⟩
 .show(I.hok a u q).stay (λb v hb e=>k b v (λz=>?_) e) (λ_ z=>z) λ_ _ z=>z
  have:=(hf b z).1;rcases hb with rfl | hb
  .rw[q]at this;cases this
  .rw[hb]at this;cases this
end
def p9(K:W.Frag)(a:Addr):It :=
 ⟨λi H=>∃xs x,SqL K H a xs/\xs[i]?=!x,λi H x H'=>∃T y,H T=none/\x=.ref T/\H'=af H T (.tup [.int (i:Nat),y])/\∀xs,SqL K H a xs->xs[i]?=!y,λi H=>∃xs,SqL K H a xs/\xs⁻¹<=i⟩
def Wf{P:Program}{w:World}{K:W.Frag}{ji:TW}{k1:Nat}{tp:Pos}(a e it:Addr)(Lw:e≠it):jK P w K (.Tuple ji k1 tp) (p9 K a) [e,it] e (λi h=>(∃old,IsEnum h e it ((i:Nat):Int) old)/\h.IsListIter it a i) where
 mem:=∅
 obj:=λi h st b hb=>by
  let⟨⟨old,x⟩,o,e1,c,d⟩:=st;rcases qM.mp hb with rfl | hb
  .show⟨_,x,λv z=>by cases z⟩
  .have:b=it:=‹hb›
   subst this;show⟨o,e1,λv z=>by rw[d]at z;cases z⟩
 keep:=λi h h' st k=>by
  let⟨⟨old,x⟩,y⟩:=st;show⟨⟨old,k e ∅ _ x⟩,y.at λo z=>k it ∅ o z⟩
 item:=by
  intro X hP hw hK hc i aa s σ H E I hf st hg;subst hP hw hK;let⟨xs,x,hq,hx⟩:=hg;let⟨⟨old,cU⟩,gq⟩:=st;let⟨ah,rv,p,hz⟩:=I.list hq;let⟨u,hu,ru⟩:=rv.get hx;show wpAny_pyNext_enum_item cU gq p.isList (x:=u) ‹hu› Lw λh' ho Wg hT hsz hk=>?_
  show-⟨wpAny_letOwnedTupleGo_enum ho λh2 Wh sb=>?_⟩;let k2:∀b o,b∉[e,it]->s.heap.get? b=!o->h2.get? b=!o:=λb o hb z=>(sb.2 b (λq=>hb (by simp[q]))).trans (hk b o (λq=>hb (by simp[q])) (λq=>hb (by simp[q])) z)
  let dN:e< ~~~s:=qK cU;let Es:it< ~~~s:=by let⟨o,z,_⟩:=gq;show qK z
  let gT:h2.get? (~~~s)=!{cls:=.type "tuple",data:=.seq #[.int i s.toks,u]}:=(sb.2 _ (yJ dN)).trans hT;let I1:Inv X aa σ H {s with heap:=h2,toks:=s.toks+1}:=I.moved hf k2;let hn:H (~~~s)=none:=I.hok.fresh (qG _);show⟨.ref (~~~s),af H (~~~s) (.tup [.int (i:Nat),x]),I1.track ?_ hn (yJ I.lt) (λy c ec z=>?_) (λq hq z=>?_) ?_,O,⟨~~~s,x,hn,O,O,λys hy=>by rw[I.list_inj hy hq];show hx⟩,⟨⟨u,?_⟩,Wg.at λo z=>(sb.2 it (rV Lw)).trans z⟩,λb hb=>?_⟩
  .cases z:X.s₀.heap.get? (~~~s) with
   | none=>rfl
   | some u=>show qT (rB (qK z) I.sz) (rQ _)
  .let⟨v,q⟩:=I.cell y c ec;show qT q.lt (by rw[z];show rQ _)
  .show qT (qK (I.pin q hq).1) (by rw[z];show rQ _)
  .show⟨by show 2<=sizeLine;decide,[.int i s.toks,u],.cons ⟨_,O⟩ (.cons ru .nil),_,gT,O,_,O⟩
  .simpa using Wh
  .rw[aM (λz=>by
    have:=hb;rw[z]at this;rcases qM.mp this with q | q
    .show qT dN (by rw[<-q];show rQ _)
    .let q': ~~~s=it:=‹q›
     show qT Es (by rw[<-q'];show rQ _))]
   show(hf b hb).1
 done:=by
  intro X hP hw hK hc i aa s σ H E I hf st hg;subst hP hw hK;let⟨xs,hq,hx⟩:=hg;let⟨⟨old,cU⟩,gq⟩:=st;let⟨ah,rv,p,hz⟩:=I.list hq;let hl:=rv⁻¹;show wpAny_pyNext_enum_end (I.ok.hd hc) cU gq p.isList (by simp;omega) λh' eb=>⟨O,I.moved (t':=s.toks) hf λb o hb z=>eb b o (λq=>hb (by simp[q])) z⟩
 self:=λ_ _ _ _ _ st h=>by
  let⟨⟨old,x⟩,_⟩:=st;show wpAny_pyIter_enum x h
def Et(x:Str):It:=⟨λi _=>i<x.cps.size,λi H v H'=>H'=H/\∃c,x.cps[i]?=!c/\v=.str ⟨#[c]⟩,λi _=>x.cps.size<=i⟩
section
variable{X:Cx}{tg:Expr}
inductive Ly(K:W.Frag)(R:It->Hp->Prop):List V->Hp->Prop
|m {vs H1} a:vs=[.ref a]->(∃xs,SqL K H1 a xs)->R (p9 K a) H1->Ly K R vs H1
def Wi(K:W.Frag)(ta:TA):TI:=λσ H R=>ta σ H (Ly K R)
def qa{ji:TW}{k1:Nat}(hg:Gl X "enumerate")(hm:X.mg "enumerate" = none)(ha:PA X [a] ta)(hs:starEach [a] X.env=[(false,eval a X.env)]:=by rfl):PI X (.Tuple ji k1 tp) (.Call (.Name "enumerate" p) [a] [] pos) (Wi X.K ta):=by
 intro aa s σ H R I h;show Call_ (jG I hg hm We (xV (aR (ha pos aa s σ H _ I h) λus s1 ⟨vs,H1,I1,r1,q1⟩=>?_) hs O));let⟨l,e,⟨xs,hq⟩,q⟩:=q1;subst e;cases r1 with
 | cons r rr =>
   cases rr
   cases r
   let⟨ah,rv,pl,hz⟩:=I1.list hq
   show call_enumerate_list pl.isList λh' he vh hsz kp=>?_
   show wpAny_pyIter_enum he ?_
   let I2:Inv X aa σ H1 {s1 with heap:=h'}:=I1.kept (t':=s1.toks) kp
   show⟨~~~s1+1,[~~~s1+1,~~~s1],_,_,H1,O,I2,Wf l _ _ (yJ (xB _)),⟨⟨_,‹he›⟩,vh⟩,λb hb=>?_,q⟩
   rcases qM.mp hb with rfl | hb
   · show I1.fpOk (yR _) (I1.hok.fresh (yR _))
   · have:b= ~~~s1:=‹hb›
     subst this
     show I1.fpOk (qG _) (I1.hok.fresh (qG _))
end
end L2
namespace L2
section
variable{κ:Type}[DecidableEq κ]
def cN(l:List κ)(v:κ):List κ:=if v∈l then l else l++[v]
def met(val:Nat->κ)(i:Nat):List κ:=((List.range i).map val).foldl cN []
def Eu(val:Nat->κ)(i:Nat):met val (i+1)=cN (met val i) (val i):=by
 unfold met;rw[yV,qD,List.foldl_append];rfl
theorem Lz(val:Nat->κ):∀i,(met val i)⁻¹<=i
 | 0=>qG _
 | i + 1 => by
   rw[Eu]
   unfold cN
   have:=Lz val i
   split
   · omega
   · rw[qJ,uM];omega
def LA(l:List κ)(v k:κ):decide (k∈cN l v)=(decide (k∈l) || decide (k=v)):=by
 unfold cN
 by_cases z:v∈l
 .rw[qX z]
  by_cases e:k=v
  .subst e;simp[z]
  .simp[e]
 .rw[qY z];simp
def Ev(l:List κ)(v:κ):(cN l v)⁻¹=if decide (v∈l)=true then l⁻¹ else l⁻¹+1:=by
 unfold cN
 by_cases z:v∈l
 .simp[z]
 .simp[z]
def LB{prog:Program}{w:World}{knd:KeyKind prog w κ}{h:Heap}{a:Addr}{S S':κ->Bool}{n n':Nat}(x:h.SetOf knd a S n)(e:∀k,S k=S' k)(en:n=n'):h.SetOf knd a S' n':=by
 obtain rfl:S=S':=funext e;show en ▸ x
end
section
variable{prog:Program}{w:World}{A:Around}{E:TH}{s:Shared}{κ:Type}[DecidableEq κ]{knd:KeyKind prog w κ}
abbrev jN(led:Bool):Obj:={cls:=.type "set",dict:=none,data:=.set #[] 0 (.fresh 0 0 led)}
def NotPlain(w:World)(h:Heap)(a:Addr):=∃o es ep t,h.get? a=!o/\o.data=.set es ep t/\(t.plain=false\/es.size=0)/\t.led=(Bool.not ((w.params.followText "set-order")))
def Wj(t:SetTable)(n:Nat):(t.orStandIn n).led=t.led:=by
 unfold SetTable.orStandIn
 split<;>rfl
def Wk(t:SetTable)(es:Array (Int×Value))(h:Int)(x:Value):(layNew t es h x).2.1.led=t.led:=by
 unfold layNew
 split
 .show Wj _ _
 .rfl
def Wl(t:SetTable)(es:Array (Int×Value))(n:Nat):(relayAll t es n).2.1.led=t.led:=by
 unfold relayAll;cases e:t.relaid (es.map (·.1)) n with
 | none=>rfl
 | some r =>
   let⟨t',order⟩:=r
   dsimp only
   split
   · unfold SetTable.relaid SetTable.laid at e
     cases e1:SetTable.layClean (SetTable.sizeAbove n-1) (es.map (·.1))with
     | none=>rw[e1]at e;cases e
     | some ow =>
       rw[e1]at e
       cases e
       rfl
   · rfl
def Wm(t:SetTable)(es:Array (Int×Value))(n:Nat)(h:t.plain=false):(relayAll t es n).2.1.plain=false:=by
 unfold relayAll;cases e:t.relaid (es.map (·.1)) n with
 | none=>rfl
 | some r =>
   let⟨t',order⟩:=r
   dsimp only
   split
   · unfold SetTable.relaid SetTable.laid at e
     cases e1:SetTable.layClean (SetTable.sizeAbove n-1) (es.map (·.1))with
     | none=>rw[e1]at e;cases e
     | some ow =>
       rw[e1]at e
       cases e
       show h
   · rfl
def LC{g:Bool->Sem Unit}(hg:∀ (b:Bool) (s1:Shared) (Q1:Unit->Shared->Prop),Q1 Unit.unit s1->wpAny (model prog w) A (g b) Q1 E s1){es:Array (Int × Value)}{ep:Nat}(ho:s.heap.get? a=!o)(hex:o.ExactSet)(hd:o.data=.set es ep t){bU:Array (Int × Value)}{S':κ->Bool}(kP:ElemsOf knd bU.toList)(oj:∀ k',S' k'=true↔∃ e∈bU.toList,knd.is k' e.2=true)(hb:bU.size < scanBound)(hf:t2.fits bU.size=true)(fG:t2.plain=false)(fD:t2.led=(Bool.not ((w.params.followText "set-order")))){dm:Bool}{R:Option Bool->Shared->Prop}(fin:∀ h',Heap.SameBut a s.heap h'->h'.SetOf knd a S' bU.size->NotPlain w h' a->R (!true) { s with heap:=h' }) :
  wpAny (model prog w) A (do
   storeSet a bU t2
   if ((Bool.not (dm)) && t2.tooFull)=true then do
       g (relayAll t2 bU (SetTable.grown bU.size)).2.2
       storeSet a (relayAll t2 bU (SetTable.grown bU.size)).1 (relayAll t2 bU (SetTable.grown bU.size)).2.1
       pure (!true)
    else pure (!true)) R E s:=by
 let⟨g1,x1⟩:=SetOf_store (knd:=knd) ho hex hd kP oj hb hf
 let b1:=Heap.SameBut.update s.heap a (Obj.putSet bU t2)
 show qC (wpAny_storeSet_of ho hd ?_ (fits_of_scanBound hb))
 by_cases LD:((Bool.not (dm)) && t2.tooFull)=true
 .rw [qX LD]
  let pm:=relayAll_perm t2 bU (SetTable.grown bU.size)
  let ft:=relayAll_fits t2 bU (SetTable.grown bU.size)
  let pl:=Wm t2 bU (SetTable.grown bU.size) fG
  let ld:=Wl t2 bU (SetTable.grown bU.size)
  generalize relayAll t2 bU (SetTable.grown bU.size)=Z at pm ft pl ld ⊢
  let⟨qb,t3,gv⟩:=Z
  dsimp only at pm ft pl ld ⊢
  let sz:qb.size=bU.size:=‹pm.length_eq›
  let Ba:qb.size < scanBound:=()
  show qC (hg gv _ _ ?_)
  show qC (wpAny_storeSet_of g1 O ?_ (fits_of_scanBound Ba))
  let⟨g2,x2⟩:=SetOf_store (knd:=knd) (S':=S') g1 hex O (kP.perm pm) (λk'=>(oj k').trans ⟨λz=>⟨z.choose,pm.mem_iff.mpr z.choose_spec.1,z.choose_spec.2⟩,λz=>⟨z.choose,pm.mem_iff.mp z.choose_spec.1,z.choose_spec.2⟩⟩) Ba ft
  rw [sz] at x2
  show qL (fin _ (b1.trans (Heap.SameBut.update _ a _)) x2 ⟨_,_,_,_,g2,O,.inl pl,ld.trans fD⟩)
 .rw [qY LD]
  show qL (fin _ b1 x1 ⟨_,_,_,_,g1,O,.inl fG,fD⟩)
def Wn{S:κ->Bool}{n:Nat}{k:κ}{Q:Bool->Shared->Prop}(Ew:knd.is k (.str x tk)=true)(hS:s.heap.SetOf knd a S n)(hP:NotPlain w s.heap a)(room:n+1<scanBound)(fin:∀h',Heap.SameBut a s.heap h'->h'.SetOf knd a (λk'=>S k' || decide (k'=k)) (if S k then n else n+1)->NotPlain w h' a->Q ((Bool.not (S k))) {s with heap:=h'}) :
  wpAny (model prog w) A (setAddHashed a (.str x tk) (knd.hash k)) Q E s:=by
 let⟨o,es,ep,t,ho,hex,hd,kP,oj,hb,hf,hn⟩:=hS;unfold setAddHashed setAddHashedIn;show xY (qC (yK ho hd hf ?_));dsimp only;rw[byScan_of (x:=.str x tk) O hb kP,qX O];unfold setAddByScan;show qC (qC (wpAny_rule (qC (wpAny_setScan_of Ew ho hd hf kP ?_))));cases there:List.findIdx? (λe=>knd.is k e.2) es.toList with
 | some j =>
   dsimp only
   let⟨hj,Wo,_⟩:=List.findIdx?_eq_some_iff_getElem.mp there
   let Ey:S k=true:=(oj k).mpr ⟨_,rJ hj,Wo⟩
   show qL (qL ?_)
   let q:=fin s.heap (Heap.SameBut.refl a s.heap) ⟨o,es,ep,t,ho,hex,hd,kP,λk'=>?_,hb,hf,by rw[qX Ey];show hn⟩ hP
   · rw[Ey]at q
     show q
   · rw[<-oj k',Bool.or_eq_true,decide_eq_true_eq]
     constructor
     · ext(z | rfl)
       · show z
       · show Ey
     · show .inl
 | none =>
   dsimp only
   let no:S k=false:=Bool.eq_false_iff.mpr λz=>by
     let⟨e,he,hp⟩:=(oj k).mp z
     show qT hp (by rw[List.findIdx?_eq_none_iff.mp there e he];show rA)
   let pm:=layNew_perm t es (knd.hash k) (.str x tk)
   let ft:=layNew_fits t es (knd.hash k) (.str x tk)
   let ld:=Wk t es (knd.hash k) (.str x tk)
   let Wp:t.led=(Bool.not ((w.params.followText "set-order"))):=by
     let⟨o',nU,tF,t',e1,e2,_,e3⟩:=hP
     rw[ho]at e1
     cases e1
     rw[hd]at e2
     cases e2
     show e3
   rw[Wp]at ld
   generalize layNew t es (knd.hash k) (.str x tk)=Z at pm ft ld⊢
   let⟨bU,t1,dm,gv⟩:=Z
   dsimp only at pm ft ld⊢
   rw[Array.toList_push]at pm
   let sz:bU.size=n+1:=by
     have:=pm.length_eq
     rw[qJ,xK,xK,hn]at this
     show this
   let quiet:∀(b:Bool) (s1:Shared) (Q1:Unit->Shared->Prop),Q1 Unit.unit s1->wpAny (model prog w) A (match b with | true=>rule "set.scan.the-table-gave-way" | false=>pure Unit.unit) Q1 E s1:=λb s1 Q1 q=>by
     cases b with
     | true=>show wpAny_rule q
     | false=>show qL q
   let vi:∀h',Heap.SameBut a s.heap h'->h'.SetOf knd a (λk'=>S k' || decide (k'=k)) bU.size->NotPlain w h' a->Q true {s with heap:=h'}:=λh' sb x' np=>by
     let q:=fin h' sb
     rw[no,qY rA,<-sz]at q
     show q x' np
   show qC (quiet _ _ _ ?_)
   let LF:ElemsOf knd bU.toList:=(kP.push Ew O).perm pm
   let LG:=λk'=>mem_push_iff Ew oj pm k'
   let Bb:bU.size<scanBound:=()
   cases pl:t1.plain with
   | true =>
     rw[qX O,hashByValue_scannable 8 (x:=.str x tk) O]
     show qC (qL ?_)
     show LC quiet ho hex hd LF LG Bb (t2:={t1 with plain:=false}) (SetTable.fits_plain_off ft) O ld λh' sb x' np=>?_
     show qL (vi h' sb x' np)
   | false =>
     rw[qY rA]
     show qC (qL ?_)
     show LC quiet ho hex hd LF LG Bb (t2:=t1) ft pl ld λh' sb x' np=>?_
     show qL (vi h' sb x' np)
end
def NotPlain.at(x:NotPlain w h a)(k:∀o,h.get? a=!o->h'.get? a=!o):NotPlain w h' a:=by
 let⟨o,es,ep,t,e,r⟩:=x;show⟨o,es,ep,t,k _ e,r⟩
section
variable{prog:Program}{w:World}{A:Around}{E:TH}{s:Shared}
def Wq(a:Value){Q1:TH}(q:Q1 (.ref (~~~s)) {s with heap:=s.heap.push (jN ((Bool.not ((w.params.followText "set-order")))))}) :
  codeAny (model prog w) A (.call (.builtin "set.__new__") ⟨[.type "set",a],[]⟩) (wants Q1 E) s:=by
 show codeAny_of_tree ?_;show wpAny _ A.in1 (checkBuiltinCall "set.__new__" ⟨[.type "set",a],[]⟩>>=λ_=>again (.builtin "set.__new__" ⟨[.type "set",a],[]⟩)) _ _ s;show qC (wpAny_of_eq (F.newCall_set_1 a) (qL ⟨yU F.plain_set_new _,xX F.entry_set_new ?_⟩));rw[xL F.plain_set_new _];unfold Builtin.«set.__new__» Builtin.Frozenset.newClass;let e1:=sub_set_self;let⟨h0,g0,d0,t0,o0⟩:=s;dsimp only
 wp_walk
 show yW (qL ?_);dsimp only;simp only[newObj];show qC (wpAny_alloc (qL (qL q)))
end
section
variable{prog:Program}{w:World}{A:Around}{R:Result->Shared->Prop}{J:Addr}{fp wr:TQ}{G:Array GenState->Array GenState->Prop}{n:Nat}{P:Nat->Value->Prop}{St:Nat->Shared->Prop}{κ:Type}[DecidableEq κ]{knd:KeyKind prog w κ}
def Wr(W:WalksS prog w A.in1 J fp wr G n P St)(S:Addr)(nS:S∉fp)(val:Nat->κ)(hv:∀i v,P i v->∃x t,v=.str x t/\knd.is (val i) (.str x t)=true)(hb:n+1<scanBound) :
  ∀(k i:Nat) (s:Shared),n-i=k->i<=n->St i s->s.heap.SetOf knd S (λq=>decide (q∈met val i)) (met val i)⁻¹->NotPlain w s.heap S ->
   (∀s',Moved (S::wr) G s s'->s'.heap.SetOf knd S (λq=>decide (q∈met val n)) (met val n)⁻¹->NotPlain w s'.heap S->R (.ok (.ret .none)) s') ->
   codeAny (model prog w) A (.builtin "set.update.loop" ⟨[.ref S,.ref J],[]⟩) R s:=by
 let Bc:S∉wr:=λq=>nS (W.sub _ q)
 let sub:∀b∈wr,b∈S::wr:=λb q=>qS _ q
 intro k
 induction k with
 | zero =>
   intro i s hk hi st x np fin
   obtain rfl:i=n:=()
   show xX PyProof.Rows.F.entry_set_update_loop ?_
   rw[xL uG _]
   show wpAny (model prog w) A.in1 (pyNext (.ref J)>>=_) _ _ s
   show qC (W.done s _ _ st λs1 mv=>?_)
   show wpAny (model prog w) A.in1 (ret Value.none) _ _ s1
   show qL (fin s1 (mv.mono sub) ?_ (np.at λo e=>mv.heap S _ Bc e))
   let⟨o,es,ep,tb,ho,r⟩:=x
   show⟨o,es,ep,tb,mv.heap S _ Bc ho,r⟩
 | succ k ih =>
   intro i s hk hi st x np fin
   let lt:i<n:=()
   show xX PyProof.Rows.F.entry_set_update_loop ?_
   rw[xL uG _]
   show wpAny (model prog w) A.in1 (pyNext (.ref J)>>=_) _ _ s
   show qC (W.item i s _ _ lt st λv s1 hP cU mv=>?_)
   let⟨tx,tt,rfl,kv⟩:=hv i v hP
   let Ws:NotPlain w s1.heap S:=np.at λo e=>mv.heap S _ Bc e
   let x1:s1.heap.SetOf knd S (λq=>decide (q∈met val i)) (met val i)⁻¹:=by
     let⟨o,es,ep,tb,ho,r⟩:=x
     show⟨o,es,ep,tb,mv.heap S _ Bc ho,r⟩
   show wpAny (model prog w) A.in1 (holding [Value.str tx tt] (setAdd S (Value.str tx tt))>>=_) _ _ s1
   show qC (xY ?_)
   unfold setAdd
   show xY ?_
   show qC (knd.pyHash kv ?_)
   let room:(met val i)⁻¹+1<scanBound:=by have:=Lz val i;omega
   show Wn (knd:=knd) (s:={s1 with toks:=s1.toks+1}) kv x1 Ws room λh' sb x2 Wt=>?_
   let x3:h'.SetOf knd S (λq=>decide (q∈met val (i+1))) (met val (i+1))⁻¹ :=
     LB x2 (λq=>by rw[Eu,LA]) (by rw[Eu,Ev])
   show qL ⟨yU uG _,ih (i+1) _ () lt (W.frame _ s1 _ _ cU (yR _) λb hb o e=>?_) x3 Wt λs2 Ez x4 Wu=>?_⟩
   · rw[sb.2 b (λz:b=S=>nS (by rw[<-z];show hb))];show e
   · show fin s2 (Moved.trans W.gtrans ((mv.mono sub).then_heap (yR _) λb o hb e=>?_) Ez) x4 Wu
     rw[sb.2 b (λz:b=S=>hb (by rw[z];show rE))];show e
end
section
variable{prog:Program}{w:World}{A:Around}{E:TH}{s:Shared}{κ:Type}[DecidableEq κ]{knd:KeyKind prog w κ}
def Wv{val:Nat->κ}{Q:TH}(hh:A.handled=none)(hl:s.heap.IsList l ah)(hv:∀(i:Nat) (v:Value),ah[i]?=!v->∃x t,v=.str x t/\knd.is (val i) (.str x t)=true)(hb:ah.size+1<scanBound)(fin:∀(h':Heap) (tk:Nat),h'.SetOf knd (~~~s) (λq=>decide (q∈met val ah.size)) (met val ah.size)⁻¹->NotPlain w h' (~~~s)->(∀b o,b< ~~~s->s.heap.get? b=!o->h'.get? b=!o) ->
   Q (.ref (~~~s)) {s with heap:=h',toks:=tk}) :
  wpAny (model prog w) A (call (.type "set") [.ref l]) Q E s:=by
 let⟨c1,c2,m1⟩:=F.called_set.mro;let m2:=F.called_set.made;let m3:=F.called_set.sub;show wpAny_call (codeAny_of_tree ?_);show wpAny (model prog w) _ (callAny (.type "set") _) _ _ _;show qL ⟨Code.quiet_builtin _ (by ac_rfl),xX F.entry_type_call ?_⟩;rw[Around.under_plain (weight_type_call_type "set" [.ref l] []) O];let m4:=F.called_set.notType;let m5:=F.called_set.canCreate;let m6:=F.typeCall_set_1 (.ref l)
 repeat (any_goals (first | assumption | wp_step))
 show uQ (Wq (.ref l) (E:=E) (Q1:=λob s1=>∃led:Bool,ob=.ref (~~~s)/\s1={s with heap:=s.heap.push (jN led)}/\led=(Bool.not ((w.params.followText "set-order")))) ⟨_,O,O,O⟩) λr s1 hr=>?_
 rcases r with e | fl
 .show hr
 rcases fl with _ | _ | _ | ob<;>first | show hr.elim | skip
 let⟨led,rfl,rfl,Ww⟩:=hr;let gS:(s.heap.push (jN led)).get? (~~~s)=!jN led:=qQ _ O;let tS:Shared.TypeIs {s with heap:=s.heap.push (jN led)} (.ref (~~~s)) "set":=⟨_,gS,O⟩;let q1:=F.called_set.init.lookup;let q2:=F.called_set.init.bind (.ref (~~~s))
 repeat (any_goals (first | assumption | wp_step))
 show uQ (codeAny_call_builtin (R:=wants (λr s2=>r=.none/\∃h' tk,s2={s with heap:=h',toks:=tk}/\h'.SetOf knd (~~~s) (λq=>decide (q∈met val ah.size)) (met val ah.size)⁻¹/\NotPlain w h' (~~~s) /\
   (∀b o,b< ~~~s->s.heap.get? b=!o->h'.get? b=!o)) E) F.called_set.init.plain F.entry_set_init (check_set_init_1 tS ?_)) λr2 s2 EA=>?_
 .obtain⟨ol,LH,eV,nl,LJ⟩:=hl;let⟨z1,z2,z3,z4⟩:=ol;simp only at eV LJ;subst eV LJ;let Wx:(s.heap.push (jN led)).get? l=!⟨.type "list",z2,.seq ah nl,z4⟩:=qF _ LH;let e1:=F.sub_list_set;let e2:=F.sub_list_frozenset;let e3:(Value.type "list" == Value.type "dict")=false:={}
  let il:(s.heap.push (jN led)).IsList l ah:=⟨_,Wx,O,nl,O⟩;unfold Builtin.«set.__init__» noKeywords Builtin.Frozenset.updateFrom;generalize EB:pyIter=PI
  wp_walk
  subst EB;show xU il ?_;show qC (wpAny_runValue ?_);let lS:l< ~~~s:=qK LH;let h3:A.in1.in1.in1.handled=none:=by simp[hh]
  let nI:l≠(s.heap.push (jN led)).objs.size:=by rw[rM];show rD (xT lS)
  let nS: ~~~s∉[(s.heap.push (jN led)).objs.size,l]:=by
   rw[rM];intro z;rcases qM.mp z with z | z
   .show qT z (rD (xB _))
   .rcases qM.mp z with z | z
    .show qT z.symm (rD lS)
    .cases z
  show Wr (knd:=knd) ((Walks.list h3 _ l nI ah).toS) (~~~s) nS val hv hb (ah.size-0) 0 _ () (rO _) ⟨⟨_,qQ _ O,O,O⟩,(il.push _)⟩ ?x0 ⟨_,_,_,_,qF _ gS,O,.inr O,Ww⟩ ?xR
  case x0 =>
   show LB ((PyProof.Rows.setObjOf_fresh (knd:=knd) led).setOf (qF _ gS) (by unfold scanBound;omega)) (λq=>by simp[met]) O
  case xR =>
   intro s' mv x np;let⟨h',g',d',kQ,kI⟩:=s';obtain rfl:g'=s.gens:=mv.gens;obtain rfl:d'=s.drawn:=mv.drawn;obtain rfl:kI=s.os:=mv.os;show wpAny (model prog w) _ _ _ _ _;show qL ?_;show wpAny (model prog w) _ (ret Value.none) _ _ _;show qL ⟨O,h',kQ,O,x,np,λb o hb e=>?_⟩;show mv.heap b o (λz=>?_) (qF _ (qF _ e));rcases qM.mp z with z | z
   .show qT z (rD hb)
   .let z':b=(s.heap.push (jN led)).objs.size:=‹z›
    rw[rM]at z';show qT z' (rD (xT hb))
 .rcases r2 with e | fl2
  .show EA
  rcases fl2 with _ | _ | _ | r<;>first | show EA.elim | skip
  let⟨rfl,h',tk,rfl,x,np,kp⟩:=EA
  repeat (any_goals (first | assumption | wp_step))
  show fin _ _ x np kp
end
def vj:Slot "set_iterator" "__next__" "set_iterator.__next__" :=
 .of (owner := "set_iterator") (n := "__next__") (by rw[typeLookup_type,builtinLookup_eq_fast];kernel_rfl) (by ac_rfl) (by ac_rfl) (by ac_rfl) (by first | show .inl (by ac_rfl) | show .inr (by ac_rfl)) (by rw[wA];kernel_rfl)
def LK:Slot "set_iterator" "__iter__" "set_iterator.__iter__" :=
 .of (owner := "set_iterator") (n := "__iter__") (by rw[typeLookup_type,builtinLookup_eq_fast];kernel_rfl) (by ac_rfl) (by ac_rfl) (by ac_rfl) (by first | show .inl (by ac_rfl) | show .inr (by ac_rfl)) (by rw[wA];kernel_rfl)
def Wy:entryFor table "set_iterator.__next__" = some Builtin.«set_iterator.__next__»:=entryFor_of_tree (by kernel_rfl)
def Wz:entryFor table "set_iterator.__iter__" = some Builtin.«dict_keyiterator.__iter__» :=
 entryFor_alias (id' := "dict_keyiterator.__iter__") (by kernel_rfl) (by first | rfl | ac_rfl) (by ac_rfl) (by kernel_rfl)
def WA:entryFor table "set.__iter__" = some Builtin.«frozenset.__iter__» :=
 entryFor_alias (id' := "frozenset.__iter__") (by kernel_rfl) (by first | rfl | ac_rfl) (by ac_rfl) (by kernel_rfl)
def WB(a:Value):argsOk "set_iterator.__next__" ⟨[a],[]⟩:=by unfold argsOk;kernel_rfl
def WC(a:Value):argsOk "set_iterator.__iter__" ⟨[a],[]⟩:=by unfold argsOk;kernel_rfl
def SIt(h:Heap)(it:Addr)(f:Value)(i:Nat)(d:Addr)(n ep:Nat):Prop:=h.get? it=!{cls:=.type "set_iterator",data:=.fields #[f,.int i 0,.ref d,.int n 0,.int ep 0]}
def SAt(h:Heap)(d:Addr)(es:Array (Int×Value))(ep:Nat)(t:SetTable):=∃o,h.get? d=!o/\o.data=.set es ep t/\t.fits es.size=true
theorem EC{α:Type}:∀(l:List α) (i:Nat) (h:i<l⁻¹),List.Perm (l[i]::l.eraseIdx i) l
 | x::l,0,h=>vR _
 | x :: l, i + 1, h => by
   let hi:i<l⁻¹:=‹h›
   show List.Perm (l[i]::x::l.eraseIdx i) (x::l)
   show(List.Perm.swap _ _ _).trans (List.Perm.cons _ (EC l i hi))
theorem LL{α:Type}(next:Nat->Nat):∀(fuel k:Nat) (left:List α) (out:Array α),left⁻¹<=fuel->List.Perm (pickOrder.go next fuel k left out).toList (out.toList++left)
 | 0, k, left, out, h => by
   have:left=[]:=vG.mp ()
   subst this
   simp[pickOrder.go]
 | fuel + 1, k, left, out, h => by
   unfold pickOrder.go
   cases left with
   | nil=>simp
   | cons y ys =>
     let aZ:next k % (y::ys)⁻¹<(y::ys)⁻¹:=Nat.mod_lt _ ∅
     rw[qB aZ]
     dsimp only
     show(LL next fuel (k+1) _ _ (by rw[List.length_eraseIdx_of_lt aZ];omega)).trans ?_
     rw[Array.toList_push,xM]
     show List.Perm.append_left _ ?_
     show EC _ _ aZ
def ED{α:Type}(next:Nat->Nat)(xs:Array α):List.Perm (pickOrder next xs).toList xs.toList:=by
 have:=LL next xs.size 0 xs.toList #[] ∅
 simpa[pickOrder]using this
section
variable{prog:Program}{w:World}{A:Around}{E:TH}{s:Shared}
def WD{n:Nat}{Q:Nat->Shared->Prop}(hn:n≠0)(q:∀k d',k<n->Q k {s with drawn:=d'}):wpAny (model prog w) A (choose jj n) Q E s:=λΓ p hΓ=>by
 show Sem.wp _ _ (Sem.choose _ _ Sem.pure) _ _ _ _;rw[Sem.wp_choose];show⟨hn,q _ _ (Nat.mod_lt _ (Nat.pos_of_ne_zero hn))⟩
theorem LN{α:Type}:∀(n:Nat) (xs:List α) (s:Shared) (Q:List α->Shared->Prop),xs⁻¹<=n->(∀ys d',ys.Perm xs->Q ys {s with drawn:=d'})->wpAny (model prog w) A (drawOrder n xs) Q E s
 | 0, xs, s, Q, h, q => by
   have:xs=[]:=vG.mp ()
   subst this
   show qL (q [] s.drawn (vR _))
 | n+1,[],s,Q,h,q=>qL (q [] s.drawn (vR _))
 | n + 1, x :: xs, s, Q, h, q => by
   unfold drawOrder
   show qC (WD ∅ λk d' aZ=>?_)
   rw[qB aZ]
   dsimp only
   show qC (LN n _ _ _ (by rw[List.length_eraseIdx_of_lt aZ];omega) λys d' pm=>qL ?_)
   show q _ _ ((List.Perm.cons _ pm).trans (EC _ _ aZ))
def qe{i d n ep:Nat}{Q:Option Value->Shared->Prop}(vh:SIt s.heap it f i d n ep)(h:wpAny (model prog w) A.in1 (Builtin.«set_iterator.__next__» ⟨[.ref it],[]⟩) (λfin s'=>∃v,fin=.done (.ret v)/\Q (!v) s') (λe s'=>wpAny (model prog w) A (isInstance e (.type "StopIteration")) (λb s2=>b=true/\Q none s2) E s') s) :
  wpAny (model prog w) A (pyNext (.ref it)) Q E s:=by
 let hT:s.TypeIs (.ref it) "set_iterator":=⟨_,vh,O⟩;unfold pyNext;show qC (wpAny_attempt (wpAny_callSpecial?_slot (name:=s!"__next__") hT vj (uK vj hT Wy ?_ (WB _))));show xJ h (λfin s' q=>?_) λe s' q=>?_
 .let⟨v,rfl,q⟩:=q;show⟨v,O,qL q⟩
 .show qC (xJ q (λb s2 z=>?_) λ_ _ z=>z);let⟨rfl,z⟩:=z;show qL z
def EE{Q:Option Value->Shared->Prop}{R:Fin->Shared->Prop}(hh:A.handled=none)(s':Shared)(hQ:∀h',(∀b o,s'.heap.get? b=!o->h'.get? b=!o)->Q none {s' with heap:=h'}) :
  wpAny (model prog w) A.in1 (newExc (.type "StopIteration") []>>=raiseNew) R (λe s'=>wpAny (model prog w) A (isInstance e (.type "StopIteration")) (λb s2=>b=true/\Q none s2) E s') s':=by
 show qC ?_;simp only[newExc,newTuple];show qC (yY ?_ (by size_fits));show qC (m:=firstArgMember _ _) (wpAny_of_eq (a:=Value.none) (by first | rfl | (simp only[firstArgMember];rfl)) ?_);show yY ?_ (by size_fits);simp only[raiseNew];show qC (wpAny_handled ?_);rw[show A.in1.handled=none from hh];show qC (qL (wpAny_throw ?_));show v3 (T := "StopIteration") (b:=true) ⟨_,qQ _ O,O⟩ isSubtype_stop ?_;show⟨O,hQ _ λb o e=>qF _ (qF _ e)⟩
def qf{i d n ep:Nat}{es:Array (Int × Value)}{R:Fin->Shared->Prop}{Ex:TH}(vh:SIt s.heap it f i d n ep)(hs:SAt s.heap d es ep t)(hn:es.size=n)(h:wpAny (model prog w) A (match f with
   | .int slot _ => do
     match <- setNext d slot.toNat i ep with
     | some (x, next) => do
       setField (.ref it) 0 (rawInt next)
       setField (.ref it) 1 (rawInt ((i:Int)+1))
       ret x
     | none=>do setField (.ref it) 2 .none; (newExc (.type "StopIteration") [] >>= raiseNew)
   | first => do
     let some WE <- seqItems? first | unsupported "internal:set_iterator"
     match WE[i]? with
     | some (.int place _) => do
       let x <- setNextDrawn d place.toNat ep
       setField (.ref it) 1 (rawInt ((i:Int)+1))
       ret x
     | some _=>unsupported "internal:set_iterator"
     | none=>do setField (.ref it) 0 (rawInt 0); setField (.ref it) 2 .none; (newExc (.type "StopIteration") [] >>= raiseNew)) R Ex s) :
  wpAny (model prog w) A (Builtin.«set_iterator.__next__» ⟨[.ref it],[]⟩) R Ex s:=by
 let⟨o,ho,hd,hf⟩:=hs
 unfold Builtin.«set_iterator.__next__»
 show qC (qL ?_)
 show qC (wpAny_fieldsOf vh O ?_)
 dsimp only
 show qC (wpAny_setEntries_of ho hd hf ?_)
 rw [hn,qY ∅]
 cases f with
 | int slot tk=>show h
 | _=>show h
end
def SIt.turn{i d n ep:Nat}(x:SIt h it f i d n ep):SIt (h.update it (Obj.mapFields (·.setIfInBounds 1 (rawInt ((i:Int)+1))))) it f (i+1) d n ep:=by
 unfold SIt;rw[yF _ x O];rfl
def SIt.slot{i d n ep:Nat}(x:SIt h it f i d n ep)(k:Nat):SIt (h.update it (Obj.mapFields (·.setIfInBounds 0 (rawInt k)))) it (.int k 0) i d n ep:=by
 unfold SIt;rw[yF _ x O];rfl
def SIt.at{i d n ep:Nat}(x:SIt h it f i d n ep)(k:∀o,h.get? it=!o->h'.get? it=!o):SIt h' it f i d n ep:=k _ x
def SAt.at{es:Array (Int×Value)}{ep:Nat}(x:SAt h d es ep t)(k:∀o,h.get? d=!o->h'.get? d=!o):SAt h' d es ep t:=by
 let⟨o,e,r⟩:=x;show⟨o,k _ e,r⟩
def eD{h:Heap}{it b:Addr}{f:Obj->Obj}{o:Obj}(hb:b≠it)(e:h.get? b=!o):(h.update it f).get? b=!o:=(yA _ _ (rV hb)).trans e
def LP(h:Heap)(T:Addr)(pl:TM):Prop:=h.get? T=!{cls:=.type "tuple",data:=.seq (pl.map λp:Nat=>rawInt p).toArray}
def vk(a b:Array GenState):Prop:=b=a
section
variable{prog:Program}{w:World}{A:Around}
def EF{i d n ep:Nat}{Q:TH}{E:TH}(x:SIt s.heap it f i d n ep)(q:Q (.ref it) s):wpAny (model prog w) A (pyIter (.ref it)) Q E s:=by
 let hT:s.TypeIs (.ref it) "set_iterator":=⟨_,x,O⟩;show wpAny_pyIter_slot hT LK (uK LK hT Wz ?_ (WC _));show wpAny _ _ (ret (.ref it)) _ _ s;show qL ⟨_,O, "set_iterator",_,hT,vj.lookup,q⟩
def qg(k:∀b o,b≠it->s.heap.get? b=!o->h'.get? b=!o):Moved [it] vk s {s with heap:=h'} :=
 ⟨λb o hb e=>k b o ‹hb› e,O,O,O,qG _⟩
def WF(hh:A.handled=none)(n1:d≠it)(n2:T≠it){es:Array (Int×Value)}{ep:Nat}{pl:TM}{ord:List (Int×Value)}(hl:ord⁻¹=es.size)(hp:∀i,i<es.size->∃p e,pl[i]?=!p/\es[p]?=!e/\ord[i]?=!e)(dS:pl⁻¹=es.size) :
  WalksS prog w A it [it,d,T] [it] vk es.size (λi v=>∃e,ord[i]?=!e/\e.2=v) (λi s=>SIt s.heap it (.ref T) i d es.size ep/\SAt s.heap d es ep t/\LP s.heap T pl) where
 sub:=λb hb=>by simp at hb;simp[hb]
 grefl:=λ_=>rfl
 gtrans:=λ_ _ _ h1 h2=>h2.trans h1
 frame:=λi s h' tk st _ k=>⟨st.1.at λo e=>k it ∅ o e,st.2.1.at λo e=>k d ∅ o e,k T ∅ _ st.2.2⟩
 item:=λi s Q E hi st q=>by
  let⟨x1,x2,x3⟩:=st;let⟨p,e,e1,e2,e3⟩:=hp i hi;show qe x1 (qf x1 x2 O ?_);show qC (yN x3 O ?_);dsimp only;let vm:((pl.map λp:Nat=>rawInt p).toArray)[i]?=!.int p 0:=by simp[e1,rawInt]
  rw[vm];dsimp only;let⟨o,ho,hd,hf⟩:=id x2;show qC ?_;unfold setNextDrawn;show qC (yK ho hd hf ?_);dsimp only;rw[qY ∅,uD,e2];show qL ?_;show qC (uC x1 O ∅ ?_);show qL ⟨_,O,q _ _ ⟨e,e3,O⟩ ⟨x1.turn,x2.at λo z=>eD n1 z,eD n2 x3⟩ (qg λb o hb z=>eD hb z)⟩
 done:=λs Q E st q=>by
  let⟨x1,x2,x3⟩:=st;show qe x1 (qf x1 x2 O ?_);show qC (yN x3 O ?_);dsimp only;let vm:((pl.map λp:Nat=>rawInt p).toArray)[es.size]?=none:=by simp[dS]
  rw[vm];dsimp only;show qC (uC x1 O ∅ ?_);show qC (uC (x1.slot 0) O ∅ ?_);show EE hh _ λh' k=>q _ (qg λb o hb z=>k b o (eD hb (eD hb z)))
 self:=λi s Q E st q=>EF st.1 q
def WG(hh:A.handled=none)(hT:w.params.followText "set-order" = true)(n1:d≠it){es:Array (Int×Value)}{ep:Nat} :
  WalksS prog w A it [it,d] [it] vk es.size (λi v=>∃e,(pickOrder (w.params.setOrder d ep) es).toList[i]?=!e/\e.2=v) (λi s=>(∃k:Nat,SIt s.heap it (.int k 0) i d es.size ep)/\SAt s.heap d es ep t) where
 sub:=λb hb=>by simp at hb;simp[hb]
 grefl:=λ_=>rfl
 gtrans:=λ_ _ _ h1 h2=>h2.trans h1
 frame:=λi s h' tk st _ k=>⟨st.1.imp λ_ z=>z.at λo e=>k it ∅ o e,st.2.at λo e=>k d ∅ o e⟩
 item:=λi s Q E hi st q=>by
  let⟨⟨k,x1⟩,x2⟩:=st;let sz:(pickOrder (w.params.setOrder d ep) es).size=es.size:=by simpa using(ED (w.params.setOrder d ep) es).length_eq
  let cC:i<(pickOrder (w.params.setOrder d ep) es).size:=by rw[sz];show hi
  show qe x1 (qf x1 x2 O ?_);dsimp only;let⟨o,ho,hd,hf⟩:=id x2;show qC ?_;unfold setNext setsByText;show qC (yK ho hd hf ?_);show qC (qC (yW (qL ?_)));show wpAny _ _ (if(w.params.followText "set-order")=true then _ else _) _ _ _;rw[qX hT,qY ∅];show qC ?_;unfold setWalk setsByText;show qC (yK ho hd hf ?_);show qC (qC (yW (qL ?_)));show wpAny _ _ (if(w.params.followText "set-order")=true then _ else _) _ _ _;rw[qX hT];show qC (yW (qL ?_));show qL ?_;let eg:(pickOrder ((model prog w).w.params.setOrder d ep) es)[i]?=!(pickOrder (w.params.setOrder d ep) es)[i]:=yP cC;rw[eg];dsimp only[Option.map_some];show qC (uC x1 O ∅ ?_);show qC (uC (x1.slot _) O ∅ ?_);show qL ⟨_,O,q _ _ ⟨_,by rw[u9,yP cC],O⟩ ⟨⟨_,(x1.slot _).turn⟩,x2.at λo z=>eD n1 (eD n1 z)⟩ (qg λb o hb z=>eD hb (eD hb z))⟩
 done:=λs Q E st q=>by
  let⟨⟨k,x1⟩,x2⟩:=st;let sz:(pickOrder (w.params.setOrder d ep) es).size=es.size:=by simpa using(ED (w.params.setOrder d ep) es).length_eq
  show qe x1 (qf x1 x2 O ?_);dsimp only;let⟨o,ho,hd,hf⟩:=id x2;show qC ?_;unfold setNext setsByText;show qC (yK ho hd hf ?_);show qC (qC (yW (qL ?_)));show wpAny _ _ (if(w.params.followText "set-order")=true then _ else _) _ _ _;rw[qX hT,qY ∅];show qC ?_;unfold setWalk setsByText;show qC (yK ho hd hf ?_);show qC (qC (yW (qL ?_)));show wpAny _ _ (if(w.params.followText "set-order")=true then _ else _) _ _ _;rw[qX hT];show qC (yW (qL ?_));show qL ?_;let eg:(pickOrder ((model prog w).w.params.setOrder d ep) es)[es.size]?=none:=vH (by show(pickOrder (w.params.setOrder d ep) es).size<=es.size;omega);rw[eg];dsimp only[Option.map_none];show qC (uC x1 O ∅ ?_);show EE hh _ λh' k=>q _ (qg λb o hb z=>k b o (eD hb z))
 self:=λi s Q E st q=>by
  let⟨k,x1⟩:=st.1;show EF x1 q
end
def LQ{xs:Array Nat}{j:Nat}(h:xs.size=1):SetTable.below xs j=if xs.getD 0 j<j then 1 else 0:=by
 unfold SetTable.below;rw[h];show(if 0<1 then if xs.getD ((0+1) / 2) j<j then SetTable.below.go xs j 0 ((0+1) / 2+1) 1 else SetTable.below.go xs j 0 0 ((0+1) / 2)else 0)=_;rw[qX {}];rfl
section
variable{prog:Program}{w:World}{A:Around}{E:TH}{s:Shared}
def LR(hT:w.params.followText "set-order" = false){es:Array (Int×Value)}{ep k i:Nat}(x:SAt s.heap d es ep t)(h1:es.size<=1)(hL:t.led=true){Q:Option (Value×Nat)->Shared->Prop}(q:Q (match es[SetTable.below t.place k]?,t.place[SetTable.below t.place k]? with | some (_,x),!j=>!(x,j+1) | _,_=>none) s):wpAny (model prog w) A (setNext d k i ep) Q E s:=by
 let⟨o,ho,hd,hf⟩:=x;unfold setNext setsByText;show qC (yK ho hd hf ?_);show qC (qC (yW (qL ?_)));show wpAny _ _ (if(w.params.followText "set-order")=true then _ else _) _ _ _;rw[hT,qY rA];let e1:((Bool.not (t.plain)) && decide (es.size>1))=false:=by rw[qV (),Bool.and_false]
 show wpAny _ _ (if((Bool.not (t.plain)) && decide (es.size>1))=true then _ else _) _ _ _;rw[e1,qY rA];show qC ?_;show wpAny _ _ (if((Bool.not (t.led)) && (Bool.not (es.isEmpty)))=true then _ else _) _ _ _;rw[hL,qY ∅];show qL (qL q)
def WH(hh:A.handled=none)(hT:w.params.followText "set-order" = false)(n1:d≠it){es:Array (Int×Value)}{ep:Nat}(h1:es.size<=1)(hL:t.led=true) :
  WalksS prog w A it [it,d] [it] vk es.size (λi v=>∃e,es.toList[i]?=!e/\e.2=v)
   (λi s=>((i=0/\SIt s.heap it (.int ((0:Nat):Int) 0) 0 d es.size ep)\/(i=1/\∃j:Nat,t.place[0]?=!j/\SIt s.heap it (.int ((j+1:Nat):Int) 0) 1 d es.size ep))/\SAt s.heap d es ep t) where
 sub:=λb hb=>by simp at hb;simp[hb]
 grefl:=λ_=>rfl
 gtrans:=λ_ _ _ h1 h2=>h2.trans h1
 frame:=λi s h' tk st _ k=>by
  show⟨?_,st.2.at λo e=>k d ∅ o e⟩;rcases st.1 with⟨z,x⟩ | ⟨z,j,zj,x⟩
  .show .inl ⟨z,x.at λo e=>k it ∅ o e⟩
  .show .inr ⟨z,j,zj,x.at λo e=>k it ∅ o e⟩
 item:=λi s Q E hi st q=>by
  let⟨st,x2⟩:=st;let sz:es.size=1:=()
  rcases st with⟨rfl,x1⟩ | ⟨rfl,_⟩
  case inr=>omega
  let⟨o,ho,hd,hf⟩:=id x2;let ps:t.place.size=1:=by
   have:=hf;simp only[SetTable.fits,Bool.and_eq_true,beq_iff_eq]at this;omega
  let b0:SetTable.below t.place 0=0:=by rw[LQ ps,qY (xS _)]
  obtain⟨e,ee⟩:∃e,es[0]?=!e:=⟨es[0],by simp[sz]⟩;obtain⟨j,ej⟩:∃j,t.place[0]?=!j:=⟨t.place[0],by simp[ps]⟩;show qe x1 (qf x1 x2 O ?_);dsimp only;show qC (LR hT x2 h1 hL ?_);rw[uD,b0,ee,ej];dsimp only;show qC (uC x1 O ∅ ?_);show qC (uC (x1.slot _) O ∅ ?_);show qL ⟨_,O,q _ _ ⟨e,by rw[u9,ee],O⟩ ⟨.inr ⟨O,j,ej,(x1.slot _).turn⟩,x2.at λo z=>eD n1 (eD n1 z)⟩ (qg λb o hb z=>eD hb (eD hb z))⟩
 done:=λs Q E st q=>by
  let⟨st,x2⟩:=st;let⟨o,ho,hd,hf⟩:=id x2;let ps:t.place.size=es.size:=by
   have:=hf;simp only[SetTable.fits,Bool.and_eq_true,beq_iff_eq]at this;omega
  let fin:∀(k:Nat),SIt s.heap it (.int (k:Int) 0) es.size d es.size ep->es[SetTable.below t.place k]?=none->wpAny (model prog w) A (pyNext (.ref it)) Q E s:=λk x1 en=>by
   show qe x1 (qf x1 x2 O ?_);dsimp only;show qC (LR hT x2 h1 hL ?_);rw[uD,en];dsimp only;show qC (uC x1 O ∅ ?_);show EE hh _ λh' k=>q _ (qg λb o hb z=>k b o (eD hb z))
  rcases st with⟨z,x1⟩ | ⟨z,j,ej,x1⟩
  .let EG:SIt s.heap it (.int ((0:Nat):Int) 0) es.size d es.size ep:=by rw[z]at x1⊢;show x1
   show fin 0 EG ?_;rw[vH ()]
  .let EG:SIt s.heap it (.int ((j+1:Nat):Int) 0) es.size d es.size ep:=by rw[z]at x1⊢;show x1
   show fin (j+1) EG ?_;let lt:t.place.getD 0 (j+1)<j+1:=by
    rw[Array.getD_eq_getD_getElem?,ej];show xB _
   rw[LQ (),qX lt,vH ()]
 self:=λi s Q E st q=>by
  rcases st.1 with⟨_,x⟩ | ⟨_,_,_,x⟩<;>show EF x q
def WI{es:Array (Int×Value)}{ep:Nat}(hh:A.handled=none)(ho:s.heap.get? d=!o)(hex:o.ExactSet)(hd:o.data=.set es ep t)(hf:t.fits es.size=true)(hb:es.size<=sizeLine)(hp:t.plain=false\/es.size=0)(hL:t.led=(Bool.not ((w.params.followText "set-order")))){Q:TH}(q:∀(it:Addr) (fp:TQ) (h':Heap) (d':Drawn) (ord:List (Int×Value)) (St:Nat->Shared->Prop),~~~s<=it->it<h'.objs.size->(∀b o,s.heap.get? b=!o->h'.get? b=!o)->(∀b∈fp,b=d\/(~~~s<=b/\b<h'.objs.size))->ord.Perm es.toList ->
   (∀A':Around,A'.handled=none->WalksS prog w A' it fp [it] vk es.size (λi v=>∃e,ord[i]?=!e/\e.2=v) St)->St 0 {s with heap:=h',drawn:=d'}->Q (.ref it) {s with heap:=h',drawn:=d'}) :
  wpAny (model prog w) A (pyIter (.ref d)) Q E s:=by
 let hT:s.TypeIs (.ref d) "set":=⟨o,ho,hex.1⟩;let vn:=qK ho;let xd:SAt s.heap d es ep t:=⟨o,ho,hd,hf⟩;show wpAny_pyIter_slot hT F.slot_set_iter (uK F.slot_set_iter hT WA ?_ (F.args_set_iter_1 _));unfold Builtin.«frozenset.__iter__»;show qC (qL ?_);unfold Builtin.Frozenset.sizeOf setDrawn setsByText setEpoch;show qC (qC (wpAny_setEntries_of ho hd hf (qL ?_)));show qC (qC (yK ho hd hf (qC (qC (yW (qL (qL ?_)))))));show wpAny _ _ (if((Bool.not ((w.params.followText "set-order"))) && ((Bool.not (t.plain)) && decide (es.size>1)))=true then _ else _) _ _ _;let LS:∀{h:Heap} {o1:Obj},h.objs.size<(h.push o1).objs.size:=λ{h o1}=>by rw[rM];show xB _
 by_cases dr:((Bool.not ((w.params.followText "set-order"))) && ((Bool.not (t.plain)) && decide (es.size>1)))=true
 .rw[qX dr];show qC (LN _ _ _ _ ∅ λpl d' pm=>?_);let LU:pl⁻¹=es.size:=‹pm.length_eq›
  show qC (yY ?_ ?zz)
  case zz=>show(List.map _ pl).toArray.size<=sizeLine;rw[rC,qA];omega
  show qC (qC (yK (s:={s with heap:=_,drawn:=d'}) (qF _ ho) hd hf (qL ?_)));show qC (yY (qL ⟨_,O, "set_iterator",_,⟨_,qQ _ O,O⟩,vj.lookup,?_⟩));let WJ:∀p∈pl,p<es.size:=λp hp=>by simpa using pm.mem_iff.mp hp
  let e0:(pl.map λp=>es.toList.getD p (0,.none)).Perm es.toList:=by
   show(pm.map _).trans (List.Perm.of_eq ?_);apply vI;intro i;rw[qH]
   by_cases hi:i<es.size
   .rw[rX hi];simp[hi]
   .rw[xN ‹hi›,xN ‹hi›];rfl
  rw[rM];show q (~~~s+1) [~~~s+1,d,~~~s] _ d' (pl.map λp=>es.toList.getD p (0,.none)) (λi s1=>SIt s1.heap (~~~s+1) (.ref (~~~s)) i d es.size ep/\SAt s1.heap d es ep t/\LP s1.heap (~~~s) pl) (yR _) ?_ (λb o e=>qF _ (qF _ e)) (λb hb=>?_) e0 (λA' hA=>?_) ⟨?_,(xd.at λo e=>qF _ (qF _ e)),qF _ (qQ _ O)⟩
  .rw[rM,rM];show xB _
  .rcases qM.mp hb with rfl | hb
   .show .inr ⟨yR _,by rw[rM,rM];show xB _⟩
   .rcases qM.mp hb with rfl | hb
    .show .inl O
    .have:b= ~~~s:=‹hb›
     subst this;show .inr ⟨qG _,by rw[rM,rM];show xT (xB _)⟩
  .show WF hA (rD (xT vn)) (rD (xB _)) (by rw[qA,LU]) (λi hi=>?_) LU;let cC:i<pl⁻¹:=()
   let hp:=WJ pl[i] (rJ cC);show⟨pl[i],es[pl[i]],by simp[cC],by simp[hp],by simp[cC,hp]⟩
  .let ez: ~~~s+1=(s.heap.push {cls:=.type "tuple",data:=.seq (pl.map λi:Nat=>rawInt i).toArray}).objs.size:=by rw[rM]
   unfold SIt;rw[ez];show qQ _ O
 .rw[if_neg dr];show qC (qL ?_);show qC (qC (yK ho hd hf (qL ?_)));show qC (yY (qL ⟨_,O, "set_iterator",_,⟨_,qQ _ O,O⟩,vj.lookup,?_⟩));let Be:∀{h':Heap},h'.objs.size= ~~~s+1->∀b∈[~~~s,d],b=d\/(~~~s<=b/\b<h'.objs.size):=λ{h'} hz b hb=>by
   rcases qM.mp hb with rfl | hb
   .show .inr ⟨qG _,by rw[hz];show xB _⟩
   .show .inl ‹hb›
  cases Bf:w.params.followText "set-order" with
  | true =>
    show q _ [~~~s,d] _ s.drawn (pickOrder (w.params.setOrder d ep) es).toList (λi s1=>(∃k:Nat,SIt s1.heap (~~~s) (.int k 0) i d es.size ep)/\SAt s1.heap d es ep t) (qG _) LS (λb o e=>qF _ e) (Be (by rw[rM])) (ED _ _) (λA' hA=>WG hA Bf (rD vn)) ⟨⟨0,qQ _ O⟩,xd.at λo e=>qF _ e⟩
  | false =>
    have h1:es.size<=1:=by
      rw[Bf]at dr
      rcases hp with hp | hp
      · rw[hp]at dr
        simp at dr
        omega
      · omega
    show q _ [~~~s,d] _ s.drawn es.toList _ (qG _) LS (λb o e=>qF _ e) (Be (by rw[rM])) (vR _) (λA' hA=>WH hA Bf (t:=t) (ep:=ep) (rD vn) h1 (by rw[hL,Bf];rfl)) ⟨.inl ⟨O,qQ _ O⟩,xd.at λo e=>qF _ e⟩
end
end L2
namespace L2
open PyProof.Rows
section
variable{prog:Program}{w:World}{A:Around}{E:TH}{s:Shared}
def WK{Q:Bool->Shared->Prop}(hT:s.TypeIs (.ref r) "set")(h:Q false s):wpAny (model prog w) A (Builtin.List.listLengthHint (.ref r)) Q E s:=by
 unfold Builtin.List.listLengthHint;show qC (wpAny_specialOf hT PySem.F.slot_set_len.lookup ?_);generalize LV:("set.__len__" : String)=nm
 wp_delta
 rw[show splitId nm=!("set", "__len__")from by subst LV;ac_rfl];subst LV;show qC (v3 (T := "set") (b:=true) hT (by rw[wA];kernel_rfl) ?_);show v7 (λz=>qT z {}) (λ_=>?_);show v7 (λ_=>?_) (λz=>qT (by ac_rfl) z);show qC (wpAny_typeOf hT (qL h))
def WM{es:Array (Int×Value)}{ep:Nat}(hh:A.handled=none)(ho:s.heap.get? d=!o)(hex:o.ExactSet)(hd:o.data=.set es ep t)(hf:t.fits es.size=true)(hb:es.size<=sizeLine)(hp:t.plain=false\/es.size=0)(hL:t.led=(Bool.not ((w.params.followText "set-order")))){R:TU->Shared->Prop}(fin:∀(h':Heap) (tk:Nat) (d':Drawn) (ord:List (Int×Value)),(∀b o,s.heap.get? b=!o->h'.get? b=!o)->ord.Perm es.toList->R (ord.map (·.2)) {s with heap:=h',toks:=tk,drawn:=d'}) :
  wpAny (model prog w) A (collect (.ref d)) R E s:=by
 let vn:=qK ho;unfold collect;show qC (wpAny_runValue (xX entry_proto_collect' ?_));rw[xL PySem.F.plain_proto_collect _];show wpAny _ A.in1 (newList []>>=λl=>again (.builtin "list.__iadd__" ⟨[l,.ref d],[]⟩)) _ _ s;show qC (yY ?_);show qL ⟨yU PySem.F.plain_list_iadd _,xX entry_list_iadd' ?_⟩;rw[xL PySem.F.plain_list_iadd _];show wpAny _ A.in1 (Builtin.List.listExtendWith (.ref (~~~s)) (.ref d) (.ref (~~~s))) _ _ {s with heap:=s.heap.push {cls:=.type "list",data:=.seq ([]:TU).toArray}};let g0:(s.heap.push {cls:=.type "list",data:=.seq ([]:TU).toArray}).get? (~~~s)=!{cls:=.type "list",data:=.seq #[]}:=qQ _ O;let EH:(s.heap.push {cls:=.type "list",data:=.seq ([]:TU).toArray}).get? d=!o:=qF _ ho;let LW: ~~~s≠d:=yJ vn;unfold Builtin.List.listExtendWith;let hT:Shared.TypeIs {s with heap:=s.heap.push {cls:=.type "list",data:=.seq ([]:TU).toArray}} (.ref d) "set":=⟨o,EH,hex.1⟩;show qC (wpAny_typeOf hT ?_);let e1:Builtin.List.listSameRef (.ref (~~~s)) (.ref d)=false:=by simp[Builtin.List.listSameRef,LW]
 let e2:(Value.type "set" == Value.type "list")=false:={}
 let e3:(Value.type "set" == Value.type "tuple")=false:={}
 simp only[e1,e2,e3,Bool.or_false,Bool.false_eq_true,if_false];show qC (WI (A:=A.in1) hh EH hex hd hf hb hp hL λit fp h2 d2 ord St l1 l2 k2 Be pm W st=>?_);let g2:=k2 _ _ g0;let LX: ~~~s∉fp:=λz=>by
  rcases Be _ z with e | ⟨e,_⟩
  .show LW e
  .rw[rM]at e;show qT e (Nat.not_succ_le_self _)
 have loop:∀(h3:Heap) (c:Nat),St 0 {s with heap:=h3,drawn:=d2}->(∀b o,s.heap.get? b=!o->h3.get? b=!o)->h3.get? (~~~s)=!{cls:=.type "list",data:=.seq #[] c} ->
   codeAny (model prog w) A (.builtin "list.extend.loop" ⟨[.ref (~~~s),.ref it,.ref (~~~s)],[]⟩) (λr s'=>∃acc h' tk,r=.ok (.ret (.ref (~~~s)))/\s'={s with heap:=h',toks:=tk,drawn:=d2} /\
    (∀b o,s.heap.get? b=!o->h'.get? b=!o)/\(∃c',h'.get? (~~~s)=!{cls:=.type "list",dict:=none,data:=.seq acc c',slots:=#[]})/\acc.toList=ord.map (·.2)) {s with heap:=h3,drawn:=d2}:=by
  intro h3 c kG k3 g3;show codeAny_extend_loopS (W A.in1 hh) hb (~~~s) LX _ es.size 0 _ #[] c O (rO _) kG g3 (ItemsOf.nil _) λs' acc c' mv g4 items=>?_
  let⟨h',g',dd,kQ,kI⟩:=s';obtain rfl:g'=s.gens:=mv.gens;obtain rfl:dd=d2:=mv.drawn;obtain rfl:kI=s.os:=mv.os;show⟨acc,h',kQ,O,O,λb o e=>mv.heap b o (λz=>?_) (k3 b o e),⟨c',g4⟩,?_⟩
  .let lb:=qK e;rcases qM.mp z with z | z
   .show qT lb (by rw[z];show rQ _)
   .let z':b=it:=‹z›
    rw[rM]at l1;show qT lb (by rw[z'];show xI (Nat.le_of_succ_le l1))
  .let lo:ord⁻¹=es.size:=‹pm.length_eq›
   apply vI;intro j;rw[qH]
   by_cases hj:j<acc.size
   .let⟨e,z1,z2⟩:=items.2 j acc[j] (by simp[hj]);rw[z1,u9,yP hj,<-z2];rfl
   .let ha:acc.size=es.size:=items.1;rw[xN ‹xQ hj›,xN ()];rfl
 show qC (xY (WK ⟨o,k2 _ _ EH,hex.1⟩ ?_));show v7 (λ_=>?_) (λ_=>?_)
 .refine qC (wpAny_rule (qC ?_));show wpAny _ _ (updateSeq (~~~s) (·.push .none)>>=λ_=>updateSeq (~~~s) (·.pop)) _ _ _;show qC (u8 g2 O ?_);let g3:=yF (Obj.mapSeq (·.push Value.none)) g2 O;show u8 (hz:=by seq_fits) g3 O ?_;let g4:=yF (Obj.mapSeq (·.pop)) g3 O;show qL ⟨yU PySem.F.plain_extend_loop _,uQ (loop _ _ ?_ (λb o e=>eD ?_ (eD ?_ (k2 _ _ (qF _ e)))) g4) λr s' x=>?_⟩
  .show(W A.in1 hh).frame 0 _ _ _ st (qG _) λb hb o e=>by
    let nb:b≠~~~s:=λz=>LX (z ▸ hb)
    show eD nb (eD nb e)
  .show rD (qK e)
  .show rD (qK e)
  .let⟨acc,h',tk,rfl,rfl,k,⟨c',g⟩,ea⟩:=x;show wpAny _ A (load (~~~s)>>=_) _ _ _;show qC (wpAny_load g ?_);show wpAny _ _ (pure acc.toList) _ _ _;rw[ea];show qL (fin h' tk d2 ord k pm)
 .show qL ⟨yU PySem.F.plain_extend_loop _,uQ (loop _ _ st (λb o e=>k2 _ _ (qF _ e)) g2) λr s' x=>?_⟩;let⟨acc,h',tk,rfl,rfl,k,⟨c',g⟩,ea⟩:=x;show wpAny _ A (load (~~~s)>>=_) _ _ _;show qC (wpAny_load g ?_);show wpAny _ _ (pure acc.toList) _ _ _;rw[ea];show qL (fin h' tk d2 ord k pm)
def WN{es:Array (Int×Value)}{ep:Nat}(hh:A.handled=none)(ho:s.heap.get? d=!o)(hex:o.ExactSet)(hd:o.data=.set es ep t)(hf:t.fits es.size=true)(hb:es.size<64)(hp:t.plain=false\/es.size=0)(hL:t.led=(Bool.not ((w.params.followText "set-order"))))(hS:StrsAre (es.toList.map (·.2)) ks){Q:TH}(fin:∀(D:Addr) (h':Heap) (tk:Nat) (d':Drawn) (out:TU) (ss:TV) (c:Nat),s.heap.get? D=none->(∀b o,s.heap.get? b=!o->h'.get? b=!o)->h'.get? D=!{cls:=.type "list",data:=.seq out.toArray c}->StrsAre out ss->ss.Perm ks->sortedS ss=true->Q (.ref D) {s with heap:=h',toks:=tk,drawn:=d'}) :
  wpAny (model prog w) A (call (.builtin "sorted") [.ref d]) Q E s:=by
 let hb':es.size<=sizeLine:=by rw[sizeLine_eq];omega
 show Calls.call_function_entry kind_sorted plain_sorted entry_sorted (args_sorted1 _) ?_;unfold Builtin.«sorted»;show qC (m:=checkCount "sorted" 1 1 _) (qL ?_);show qC (WM (A:=A.in1) hh ho hex hd hf hb' hp hL λh1 tk d1 ord k1 pm=>?_);let ln:(ord.map (·.2))⁻¹=es.size:=by rw[qA];simpa using pm.length_eq
 show qC (wpAny_newList ?_ (by rw[ln];show hb'));let gD:(h1.push {cls:=.type "list",data:=.seq (ord.map (·.2)).toArray}).get? h1.objs.size=!seqObj "list" (ord.map (·.2)).toArray 0:=qQ _ O;obtain⟨ca,sk,pk⟩:∃ca,StrsAre (ord.map (·.2)) ca/\ca.Perm ks:=by
  show⟨(ord.map (·.2)).map strOf,strsAre_map _ λv hv=>?_,?_⟩
  .let⟨e,he,rfl⟩:=qP.mp hv;show hS.all _ (qP.mpr ⟨e,pm.mem_iff.mp he,O⟩)
  .rw[<-hS.strs];show(pm.map _).map _
 show qC (xY (uK slot_list_sort ⟨_,gD,O⟩ entry_list_sort (list_sort_treeK strKind_oneLt gD sk.keysOf (λv1 v2 rest e=>keyKind_strs (by rw[<-e];show sk)) (by rw[ln];show hb) λaQ a1 a2=>-⟨?_⟩) (args_list_sort _)));let⟨ss,h3,h4,h5⟩:=sorted_out_str sk a1 a2;show qL ⟨_,O,?_⟩;obtain⟨c,gc⟩:∃c,(sortedHeap (h1.push {cls:=.type "list",data:=.seq (ord.map (·.2)).toArray}) h1.objs.size (ord.map (·.2)) ((arrOf aQ).map (·.2))).get? h1.objs.size=!seqObj "list" ((arrOf aQ).map (·.2)) c:=by
  have:=sortedHeap_at (out:=(arrOf aQ).map (·.2)) gD;show this
 let lS:s.heap.get? h1.objs.size=none:=by
  cases z:s.heap.get? h1.objs.size with
  | none=>rfl
  | some o=>show qT (qK (k1 _ _ z)) (rQ _)
 show fin h1.objs.size _ tk d1 ((arrOf aQ).map (·.2)).toList ss c lS (λb o e=>?_) ?_ h3 (h4.trans pk) h5
 .let lb:=qK (k1 b o e);rw[sortedHeap_old (rD lb) (by rw[rM];show xT lb)];show qF _ (k1 b o e)
 .rw[gc]
end
def Inv.dr{aa:TF}(I:Inv X aa σ H s)(d':Drawn):Inv X aa σ H {s with drawn:=d'}:=⟨I.ok,I.os,I.bare,I.base,I.loc,I.cell,I.free,I.freeC,I.pin,I.hok,I.len⟩
def LY{κ:Type}[DecidableEq κ]{k:κ}{l:List κ}:decide (k∈l)=true↔k∈l:=decide_eq_true_iff
def dy(ks:TV):TV:=ks.foldl cN []
def WO{κ:Type}[DecidableEq κ]{l:List κ}{v:κ}(h:l.Nodup):(cN l v).Nodup:=by
 unfold cN
 split
 .show h
 .rename_i n;rw[vJ];show⟨h,∅,λa ha b hb=>?_⟩;have:b=v:=‹hb›
  subst this;show λz=>n (z ▸ ha)
theorem LZ{κ:Type}[DecidableEq κ]:∀(ks l:List κ),l.Nodup->(ks.foldl cN l).Nodup
 | [],l,h=>h
 | k::ks,l,h=>LZ ks (cN l k) (WO h)
theorem L1{κ:Type}[DecidableEq κ](x:κ):∀(ks l:List κ),x∈ks.foldl cN l↔x∈l\/x∈ks
 | [],l=>∅
 | k :: ks, l => by
   rw[xG,L1 x ks]
   have:x∈cN l k↔x∈l\/x=k:=by
     have:=LA l k x
     rw[yZ]at this
     simpa using this
   rw[this,qM,or_assoc]
def L3(ks:TV):(dy ks).Nodup:=LZ ks [] vT
def WP(ks:TV)(x:Str):x∈dy ks↔x∈ks:=by unfold dy;rw[L1];simp
theorem L4{κ ρ:Type}[DecidableEq κ][DecidableEq ρ](f:κ->ρ)(inj:∀a b,f a=f b->a=b):∀(ks l:List κ),(ks.map f).foldl cN (l.map f)=(ks.foldl cN l).map f
 | [],l=>rfl
 | k :: ks, l => by
   rw[xP,xG,xG,<-L4 f inj ks (cN l k)]
   congr 1
   unfold cN
   by_cases z:k∈l
   · rw[qX z,qX (yQ z)]
   · rw[qY z,qY (λq=>by
       let⟨a,ha,e⟩:=qP.mp q
       show z (inj _ _ e ▸ ha))]
     simp
theorem L5{κ:Type}[DecidableEq κ]:∀(m l:List κ),m.Nodup->(∀x∈m,x∈l)->l⁻¹=m⁻¹->l.Perm m
 | [], l, _, _, h => by
   have:l=[]:=vG.mp h
   rw[this]
 | x :: m, l, nd, sub, h => by
   let hx:=sub x rE
   let⟨nx,nm⟩:=y9.mp nd
   let p:=List.perm_cons_erase hx
   show p.trans (List.Perm.cons _ (L5 m (l.erase x) nm (λy hy=>?_) ?_))
   · show(List.mem_erase_of_ne (λz:y=x=>nx (z ▸ hy))).mpr (sub y (qS _ hy))
   · rw[List.length_erase_of_mem hx,h]
     rfl
def jk(w:World)(d:Addr)(ks:TV):HO:=.ext λh=>∃o es ep t,h.get? d=!o/\o.ExactSet/\o.data=.set es ep t/\t.fits es.size=true/\(t.plain=false\/es.size=0)/\t.led=(Bool.not ((w.params.followText "set-order"))) /\
 es.size<scanBound/\∃us,StrsAre (es.toList.map (·.2)) us/\us.Perm ks
section
variable{X:Cx}
def WQ(hc:X.calm=true):eB X (.type "set") (λxs H Q=>∃(p:Addr) (ks:TV),xs=[.ref p]/\SqL X.K H p (ks.map V.str)/\ks⁻¹+1<scanBound/\∀d,H d=none->Q (.ref d) (af H d (jk X.w d (dy ks)))):=by
 intro aa s σ H xs us Q I r h;let⟨p,ks,rfl,hp,hb,q⟩:=h;let⟨u,rfl,rx⟩:=vals1 r;cases rx;let⟨ah,rv,pl,hz⟩:=I.list hp;let bT:ah.toArray.size=ks⁻¹:=by rw[rC,<-rv⁻¹,qA]
 show Wv (knd:=eK X.prog X.w) (val:=λi=>Sum.inr (ks.getD i Str.empty)) (I.ok.hd hc) pl.isList (λi v e=>?_) (by rw[bT];show hb) λh' tk x np kp=>?_
 .let e':ah[i]?=!v:=‹e›
  let hi:i<ks⁻¹:=by rw[<-bT,rC];show(qE.mp e').1
  let⟨u,e2,r2⟩:=rv.get (i:=i) (x:=.str ks[i]) (by rw[qH,qB hi];rfl);rw[e']at e2;cases e2;let⟨t,rfl⟩:=r2;let eg:ks.getD i Str.empty=ks[i]:=by simp[hi]
  show⟨_,t,O,by rw[eg];show JO _ _ _ _⟩
 .have em:met (λi=>(Sum.inr (ks.getD i Str.empty):aV)) ah.toArray.size=(dy ks).map (Sum.inr:Str->aV):=by
   unfold met dy;rw[bT,<-L4 (Sum.inr:Str->aV) (λa b e=>Sum.inr.inj e) ks []]
   congr 1
   apply vI;intro i;rw[qH,qH]
   by_cases h:i<ks⁻¹
   .rw[rX h,qB h];simp[h]
   .rw[xN ‹xQ h›,xN (xQ h)];rfl
  rw[em]at x;let keep:∀b o,s.heap.get? b=!o->h'.get? b=!o:=λb o e=>kp b o (qK e) e
  let hn:H (~~~s)=none:=I.hok.fresh (qG _);show⟨.ref (~~~s),_,I.laid (o:=jk X.w (~~~s) (dy ks)) keep (qG _) ?_,O,q _ hn⟩;let⟨o,es,ep,t,ho,hex,hd,kP,L6,Bg,hf,hsz⟩:=x;let⟨o',nU,tF,t',e1,e2,e3,e4⟩:=np;rw[ho]at e1;cases e1;rw[hd]at e2;cases e2;let all:∀e∈es.toList,∃y tk,e.2=.str y tk/\y∈dy ks:=λe he=>by
   let⟨⟨k,hk,_⟩,_⟩:=kP e he;let t0:=(L6 k).mpr ⟨e,he,hk⟩;let this:k∈(dy ks).map (Sum.inr:Str->aV):=LY.mp t0;let⟨y,hy,rfl⟩:=qP.mp this;rcases i7 (show ma (Sum.inr y) e.2=true from hk)with⟨i,t,z,_⟩ | ⟨z,t,zz,ez⟩
   .cases z
   .cases zz;show⟨y,t,ez,hy⟩
  let WR:StrsAre (es.toList.map (·.2)) ((es.toList.map (·.2)).map strOf):=strsAre_map _ λv hv=>by
   let⟨e,he,rfl⟩:=qP.mp hv;let⟨y,tk,e1,_⟩:=all e he;show⟨y,tk,e1⟩
  show⟨⟨o,es,ep,t,ho,hex,hd,hf,e3,e4,Bg,_,WR,?_⟩,⟨o,ho⟩,λg1 g2 y k=>?_⟩
  .show L5 _ _ (L3 ks) (λy hy=>?_) ?_
   .let⟨e,he,hk⟩:=(L6 (Sum.inr y)).mp (LY.mpr (yQ hy));rcases i7 (show ma (Sum.inr y) e.2=true from hk)with⟨i,t,z,_⟩ | ⟨z,t,zz,ez⟩
    .cases z
    .cases zz;rw[xO];show qP.mpr ⟨e,he,by show strOf e.2=y;rw[ez];rfl⟩
   .rw[qA,qA,xK,hsz,qA]
  .let⟨o1,bU,vm,t1,z1,z2⟩:=y;show⟨o1,bU,vm,t1,k _ z1,z2⟩
def WS(hc:X.calm=true)(hex:X.ex=[]):eB X (.builtin "sorted") (λxs H Q=>∃(d:Addr) (ks:TV),xs=[.ref d]/\H d=!jk X.w d ks/\ks⁻¹<64/\∀D ss,H D=none->ss.Perm ks->sortedS ss=true->Q (.ref D) (af H D (.lst (ss.map V.str)))):=by
 intro aa s σ H xs us Q I r h;let⟨d,ks,rfl,hd,fH,q⟩:=h;let⟨u,rfl,rx⟩:=vals1 r;cases rx;let⟨⟨o,es,ep,t,ho,WT,WU,hf,hp,hL,hb,ca,st,pm⟩,_⟩:=I.hok d _ hd;let ls:es.size=ks⁻¹:=by
  let h1:=st⁻¹;rw[qA,xK]at h1;rw[h1,pm.length_eq]
 show WN (I.ok.hd hc) ho WT WU hf () hp hL st λD h' tk d' out ss c hD kp hg hs ps so=>?_
 have HD:H D=none:=by
  cases z:H D with
  | none=>rfl
  | some v =>
    let⟨o,e⟩:=(I.hok D v z).at
    rw[hD]at e
    cases e
 let pk:=ps.trans pm;let I2:=(I.kept (t':=tk) kp).dr d';let DL:D≠X.env.locals:=λz=>by
  have:=qK (Classical.choose_spec (let⟨m,⟨o,_,_,e,_⟩,_⟩:=I.loc;⟨o,e⟩:∃o,s.heap.get? X.env.locals=!o));let⟨m,⟨o,_,_,e,_⟩,_⟩:=I.loc;rw[z,e]at hD;cases hD
 show⟨.ref D,_,I2.track (o:=.lst (ss.map V.str)) ?_ HD DL (λz c e w'=>?_) (λz hz w'=>?_) ?_,O,q D ss HD pk so⟩
 .cases z:X.s₀.heap.get? D with
  | none=>rfl
  | some o =>
    let⟨o',e⟩:=I.base.there D o z (by rw[hex];simp)
    rw[hD]at e
    cases e
 .let⟨v,o,e1,_⟩:=I.cell z c e;rw[w',hD]at e1;cases e1
 .let e:=(I.pin z hz).1;rw[w',hD]at e;cases e
 .let vs:∀{out:TU} {ss:TV},StrsAre out ss->Vals (ss.map V.str) out:=λ{out ss} h=>by
   induction h with
   | nil=>show .nil
   | cons x t _ ih=>show .cons ⟨t,O⟩ ih
  show⟨?_,out,c,vs hs,hg⟩;rw[qA,pk.length_eq];show xD (aW ())
end
structure Fx(P:Program)(w:World)(K:W.Frag)(mg:TJ)(base:Heap)(CX:dt)(k:Nat)(x:Str)(ps:TV)(sp:Sp):Prop where
 ex:∃f fd,aN P w K mg base CX k f fd ps sp/\Binds K fd ps []/\W.keepIn K (.ref f)=true/\mg x=!.ref f
section
variable{X:Cx}{CX:dt}{k:Nat}{ps:TV}{sp:Sp}{E:XK}{x:Str}{p pos:Pos}{e:Expr}{es:TW}{t:TA}
def L7(F:Fx X.prog X.w X.K X.mg X.base CX k x ps sp)(hr:Room k X.A)(hg:Gl X x)(hx:ua CX X E)(ha:PA X (e::es) t)(g8:(x == ("__debug__" : Str))=false:=by decide)(he:starEach (e::es) X.env=(false,eval e X.env)::starEach es X.env:=by rfl)(dS:(backTo pos (starEach es X.env)).any (·.1)=false:=by rfl):PE X (.Call (.Name x p) (e::es) [] pos) (AS sp [] E t):=by
 let⟨f,fd,G,b,kp,m⟩:=F.ex;show KH G hr hg m kp b .nil hx ha g8 he dS
end
def CompScope.frees{X:Cx}{scope:Scope}{own fr:TV}{ix:TM}(h1:scope.kind=.function)(h2:∀y∈scope.names,y.2≠.cell)(h3:∀y∈scope.names,y.2=.local->scope.names.lookup y.1=!.local)(h4:∀y∈scope.names,y.2=.free->y.1∈fr)(h5:ix.map (λj=>X.N[j]?)=fr.map some)(h6:∀x∈fr,scope.names.lookup x=!.free)(h7:∀x∈fr,X.env.scope.names.lookup x=!.cell\/X.env.scope.names.lookup x=!.free):CompScope X scope own fr ix :=
 ⟨h1,h2,h3,λy hy hf=>h7 _ (h4 y hy hf),h5,h6⟩
def jO{lo:Int}{n own:Nat}{ix:TM}(Pv:Nat->List V->St->Hp->Prop)(hz:n<sizeLine)(h0:Pv 0 [] (iM own ix σ) H)(hs:∀i ys ae H',i<n->Pv i ys ae H'->g (.int (lo+i)) ae H' λa0 H3=>tt a0 H3 λb H4=>if b=true then te a0 H4 λv H5=>Pv (i+1) (ys++[v]) a0 H5 else Pv (i+1) ys a0 H4)(hd:∀ys ae H',Pv n ys ae H'->∀D,H' D=none->Q (.ref D) (af H' D (.lst ys))):p7 own ix g tt te (mj lo n) σ H Q:=by
 show⟨λi m ys σ H=>m=n-i/\i<=n/\Pv i ys σ H,⟨n,∅,rO _,h0⟩,?_⟩;ext i m ys σ H ⟨rfl,hi,p⟩ hy;show⟨(),?_⟩
 by_cases aZ:i<n
 .show .inr ⟨aZ,Pv (i+1),λzs ae H' p'=>⟨n-(i+1),(),O,aZ,p'⟩,λx H' y=>?_⟩;let⟨e,y⟩:=y;subst e y;show hs i ys σ _ aZ p
 .let e:i=n:=()
  subst e;show .inl ⟨qG _,hd ys σ H p⟩
def L8{K:W.Frag}{a:Addr}{xs:List V}{own:Nat}{ix:TM}{g:TG}{tt:TT}{te:TE}{σ:St}{H:Hp}{Q:VK}(Pv:Nat->List V->St->Hp->Prop)(hz:xs⁻¹<sizeLine)(h0:Pv 0 [] (iM own ix σ) H)(hl:∀i ys ae H',i<=xs⁻¹->Pv i ys ae H'->SqL K H' a xs)(hs:∀i x ys ae H' T,xs[i]?=!x->H' T=none->Pv i ys ae H'->g (.ref T) ae (af H' T (.tup [.int (i:Nat),x])) λa0 H3=>tt a0 H3 λb H4=>if b=true then te a0 H4 λv H5=>Pv (i+1) (ys++[v]) a0 H5 else Pv (i+1) ys a0 H4)(hd:∀ys ae H',Pv xs⁻¹ ys ae H'->∀D,H' D=none->Q (.ref D) (af H' D (.lst ys))):p7 own ix g tt te (p9 K a) σ H Q:=by
 show⟨λi m ys σ H=>m=xs⁻¹-i/\i<=xs⁻¹/\Pv i ys σ H,⟨xs⁻¹,∅,rO _,h0⟩,?_⟩;ext i m ys σ H ⟨rfl,hi,p⟩ hy;let q:=hl i ys σ H hi p;show⟨(),?_⟩
 by_cases aZ:i<xs⁻¹
 .show .inr ⟨⟨xs,xs[i],q,by simp[aZ]⟩,Pv (i+1),λzs ae H' p'=>⟨xs⁻¹-(i+1),(),O,aZ,p'⟩,λx H' y=>?_⟩;let⟨T,z,hT,e1,e2,y⟩:=y;subst e1 e2;show hs i z ys σ _ T (y xs q) hT p
 .let e:i=xs⁻¹:=()
  subst e;show .inl ⟨⟨xs,q,qG _⟩,hd ys σ H p⟩
inductive L9(neg:Bool):V->V->Hp->VK->Prop
|m d e:jh H x d->jh H y e->W.kqdOk 9 d=true->W.kqdOk 9 e=true->(d=e->Q (.bl ((Bool.not (neg)))) H)->(d≠e->Q (.bl neg) H)->L9 neg x y H Q
section
variable{X:Cx}
open Classical in
def WV(hu:X.A.units+64<cLine):cw X (compareOp .NotEq) (L9 true):=by
 intro aa s σ H x y v u Q I rx ry h;let⟨d,e,h1,h2,k1,k2,q1,q2⟩:=h;show V8 hu aa s σ H x y v u Q I rx ry ⟨d,e,h1,h2,k1,k2,?_⟩;rw[qX O]
 by_cases z:d=e
 .rw[qR z];show q1 z
 .rw[qV z];show q2 z
end
end L2
namespace Gen
open L2 Bk
def b_len:bootBuiltins "len" = !.builtin "len":=by ac_rfl
def Ma:bootBuiltins "sorted" = !.builtin "sorted":=by ac_rfl
def Bh:bootBuiltins "int" = !.type "int":=by ac_rfl
def WW:bootBuiltins "str" = !.type "str":=by ac_rfl
def EI:bootBuiltins "list" = !.type "list":=by ac_rfl
def WX:bootBuiltins "set" = !.type "set":=by ac_rfl
structure Bn(mg:TJ):Prop where
 isinstance:mg "isinstance" = none
 len:mg "len" = none
 range:mg "range" = none
 sorted:mg "sorted" = none
 int:mg "int" = none
 bool:mg "bool" = none
 list:mg "list" = none
 tuple:mg "tuple" = none
 str:mg "str" = none
 set:mg "set" = none
 enumerate:mg "enumerate" = none
 all:mg "all" = none
 ver:mg "ValueError" = none
def StOk(H:Hp)(st:Addr):=∃x y:Int,H st=!.lst [.int x,.int y]/\0<=y/\y<4294967296
abbrev Keep1(st:Addr)(H H':Hp):Prop:=KeepN (λb=>b≠st) H H'
abbrev f'(st p:Addr)(H H':Hp):Prop:=KeepN (λb=>b≠st/\b≠p) H H'
def Keep1.two(k:Keep1 st H H'):f' st p H H':=k.mono λ_ n=>n.1
def StOk.same(h:StOk H st)(s:Same H H'):StOk H' st:=by
 let⟨x,y,e,z⟩:=h;show⟨x,y,s _ _ e,z⟩
def StOk.some(h:StOk H st):∃o,H st=!o:=by
 let⟨x,y,e,z⟩:=h;show⟨_,e⟩
def b7{H:Hp}{a b:Addr}(h:∃o,H a=!o)(n:H b=none):b≠a:=by
 let⟨o,e⟩:=h;show rV (cH e n)
inductive Bi(K:W.Frag):List V->Hp->VK->XK->Prop
|m (a:Addr) (ns:TN) (k:Int):vs=[.ref a,.int k]->SqL K H a ⇑ns->0<=k->k<=100->(∀(st:Addr) (H':Hp),H st=none->StOk H' st->Same H H'->Q (.ref st) H')->Bi K vs H Q E
inductive im:List V->Hp->VK->XK->Prop
|m (st:Addr) (m:Int):vs=[.ref st,.int m]->StOk H st->0<m->m<=1000000000000->(∀(r:Int) (H':Hp),0<=r->r<m->StOk H' st->Keep1 st H H'->Q (.int r) H')->im vs H Q E
inductive EJ:List V->Hp->VK->XK->Prop
|m (st:Addr) (m:Int):vs=[.ref st,.int m]->StOk H st->1<=m->m<=20->(∀(x:Str) (H':Hp),Eo x->(x⁻¹:Int)<=m->StOk H' st->Keep1 st H H'->Q (.str x) H')->EJ vs H Q E
def WY(H:Hp):Addr->Prop:=λb=>H b=none
inductive EK:List V->Hp->VK->XK->Prop
|m (st p:Addr) (n:Nat) (nms:TV):vs=[.ref st,.int n,.ref p]->StOk H st->n<=2->p≠st->H p=!.lst (nms.map V.str)->nms≠[]->nms⁻¹<=1000->(∀x∈nms,Name x)->(∀(s:Addr) (ah:List Th) (H':Hp),vf n ah->StAt (WY H) H' s ah->StOk H' st->Keep1 st H H'->Q (.ref s) H')->EK vs H Q E
def gz(H0:Hp)(p:Addr):Addr->Prop:=λb=>H0 b=none/\b≠p
structure Gs(H0:Hp)(st p:Addr)(H:Hp)(ds:List Nd):Prop where
 so:StOk H st
 s0:∃o,H0 st=!o
 p0:H0 p=none
 old:Keep1 st H0 H
 bk:cM (gz H0 p) H p ds
section
variable{H0 H H':Hp}{st p:Addr}{ds:List Nd}
def Gs.pne(g:Gs H0 st p H ds):p≠st:=by
 let⟨o,e⟩:=g.s0;show rV (cH e g.p0)
def Gs.nst(g:Gs H0 st p H ds)(h:gz H0 p b):b≠st:=by
 let⟨o,e⟩:=g.s0;show rV (cH e h.1)
def Gs.psome(g:Gs H0 st p H ds):∃o,H p=!o:=by
 let⟨as,e,_⟩:=g.bk;show⟨_,e⟩
def Gs.fresh(g:Gs H0 st p H ds){b:Addr}(h:H b=none):gz H0 p b:=by
 show⟨?_,b7 g.psome h⟩;cases e:H0 b with
 | none=>rfl
 | some o =>
   have:=g.old b o (b7 g.so.some h) e
   rw[h]at this
   cases this
def Gs.keep1(g:Gs H0 st p H ds)(k:Keep1 st H H')(so:StOk H' st):Gs H0 st p H' ds:=by
 let⟨as,e,q⟩:=g.bk;show⟨so,g.s0,g.p0,g.old.trans k,as,k _ _ g.pne e,q.keep (k.mono λb n=>g.nst n) λ_ n _=>n⟩
def Gs.same(g:Gs H0 st p H ds)(s:Same H H'):Gs H0 st p H' ds:=g.keep1 s.keep (g.so.same s)
def Gs.push(g:Gs H0 st p H ds)(e:H p=!.lst ↑as)(q:NdsAt (gz H0 p) H as ds)(x:NdAt (gz H0 p) H a d):Gs H0 st p (af H p (.lst (↑as++[.ref a]))) (ds++[d]):=by
 let k:KeepN (gz H0 p) H (af H p (.lst (↑as++[.ref a]))):=λb o n e=>by rw[aM n.2];show e
 show⟨?_,g.s0,g.p0,λb o n e=>?_,as++[a],by rw[ar];simp,(q.keep k λ_ n _=>n).append (.cons (x.keep k λ_ n _=>n) .nil)⟩
 .let⟨x,y,z,w⟩:=g.so;show⟨x,y,by rw[aM (rV g.pne)];show z,w⟩
 .rw[aM (λz=>by rw[z,g.p0]at e;cases e)];show g.old b o n e
end
def om(ds:List Nd):=∀d∈ds,d.nm=cL\/Name d.nm
def mG(k:Kd):Prop:=k=.body\/k=.case\/k=.shelf\/k=.grid\/k=.aside
def int_at{ns:TN}{k:Int}(h0:0<=k)(h:k<(ns⁻¹:Int)):∃v:Int,bO ⇑ns k=!.int v:=by
 let hk:k.toNat<ns⁻¹:=()
 let ek:k=((k.toNat:Nat):Int):=()
 let q:bO ⇑ns ((k.toNat:Nat):Int)=!.int ns[k.toNat]:=fX (by rw[qH,qB hk]<;>rfl);rw[<-ek]at q;show⟨_,q⟩
def signs:Str:=s!"abcdefghijklmnopqrstuvwxyzABCDEFGHIJKLMNOPQRSTUVWXYZ0123456789.,-;:'()!?"
def small:Str:=s!"abcdefghijklmnopqrstuvwxyz"
def sg(c:Nat):Str:=⟨#[c]⟩
def WZ:signs.cps.toList=ve:=by ac_rfl
def W0:signs⁻¹<=sizeLine:=by ac_rfl
def Mb:small⁻¹<=sizeLine:=by ac_rfl
def Mc{α:Type}{l:List α}{i:Int}(h0:0<=i)(h1:i<(l⁻¹:Int)):∃c,bO l i=!c/\c∈l:=by
 let hi:i.toNat<l⁻¹:=()
 let ei:i=((i.toNat:Nat):Int):=()
 let q:bO l ((i.toNat:Nat):Int)=!l[i.toNat]:=fX (qB hi);rw[<-ei]at q;show⟨_,q,rJ hi⟩
def signs_at{i:Int}(h0:0<=i)(h1:i<72):∃c,bO signs.cps.toList i=!c/\c∈ve:=by
 rw[WZ];show Mc h0 h1
def W1:cL.cps.toList=[]:=by ac_rfl
def EL(x y:Str):(x++y)⁻¹=x⁻¹+y⁻¹:=by
 show(x.cps++y.cps).size=_;rw[Array.size_append];rfl
def vo(x y:Str):(x++y).cps.toList=x.cps.toList++y.cps.toList:=by
 show(x.cps++y.cps).toList=_;show Array.toList_append
def W2{p:Nat->Prop}{c:Nat}(h:p c):∀d∈(sg c).cps.toList,p d:=λd hd=>by
 have:d=c:=by simpa[sg]using hd
 rw[this];show h
def W3{p:Nat->Prop}{x y:Str}(h1:∀c∈x.cps.toList,p c)(h2:∀c∈y.cps.toList,p c):∀c∈(x++y).cps.toList,p c:=λc hc=>by
 rw[vo]at hc;rcases rG.mp hc with h | h
 .show h1 c h
 .show h2 c h
def EM{p:Nat->Prop}{x:Str}{c:Nat}(h1:∀c∈x.cps.toList,p c)(h2:p c):∀d∈(x++sg c).cps.toList,p d:=W3 h1 (W2 h2)
def EN{nms:TV}{i:Int}(h0:0<=i)(h1:i<((nms.map V.str)⁻¹:Int)):∃y,bO (nms.map V.str) i=!.str y/\y∈nms:=by
 let⟨v,e,m⟩:=Mc h0 h1;let⟨y,my,rfl⟩:=qP.mp m;show⟨y,e,my⟩
def back(k:Keep1 st H H')(n:b≠st)(h:H' b=none):H b=none:=by
 cases e:H b with
 | none=>rfl
 | some o =>
   rw[k b o n e]at h
   cases h
def vp(a b:List Th):fZ (a++b)=fZ a++fZ b:=yT
def W4(l:TN):fZ (l.map λk=>Th.tri .note (.inr k) 0)=l:=by
 unfold fZ;rw[List.filterMap_map];show List.filterMap_some
def W5{n m:Nat}(h:m<=n):nums m=(nums n).take m:=by
 unfold nums;rw[<-vN,List.take_range,uN h]
def W6(dn i:Nat):((nums (dn+(i+1))).drop dn).map (λk=>Th.tri .note (.inr k) 0)=((nums (dn+i)).drop dn).map (λk=>Th.tri .note (.inr k) 0)++[Th.tri .note (.inr ((dn+i:Nat):Int)) 0]:=by
 rw[<-Nat.add_assoc,Er,List.drop_append_of_le_length (by simp[nums]),qD];rfl
theorem vq{α β:Type}{F:α->β->Prop}:∀{a b:List α} {c d:List β},Paired F a c->Paired F b d->Paired F (a++b) (c++d)
 | _,_,_,_,.nil,h=>h
 | _,_,_,_,.cons q t,h=>.cons q (vq t h)
end Gen
namespace L2
def KeepN.back(k:KeepN (λb=>b≠st) H H')(n:b≠st)(h:H' b=none):H b=none:=Gen.back k n h
end L2
namespace Gen
open L2 Bk PyProof.Rows
theorem Md:∀(l:TV) (x:Str),risingS x l=true->(∀y∈l,¬y.cps.toList<x.cps.toList)/\l.Pairwise λa b=>¬b.cps.toList<a.cps.toList
 | [],x,_=>⟨(λy hy=>nomatch hy),List.Pairwise.nil⟩
 | y :: r, x, h => by
   let h':((Bool.not (ltCps y.cps.toList x.cps.toList)) && risingS y r)=true:=h
   rw[uA]at h'
   let⟨h1,h2⟩:=h'
   let n1:¬y.cps.toList<x.cps.toList:=by
     rw[ltCps_eq]at h1
     simpa using h1
   let⟨a,b⟩:=Md r y h2
   show⟨λz hz=>?_,List.Pairwise.cons (λz hz=>a z hz) b⟩
   rcases qM.mp hz with rfl | hz
   · show n1
   · intro lt
     show a z hz (Std.lt_of_lt_of_le lt (wD.mp n1))
def W7(h:sortedS l=true):l.Pairwise λa b=>¬b.cps.toList<a.cps.toList:=by
 cases l with
 | nil=>show List.Pairwise.nil
 | cons x r =>
   let⟨a,b⟩:=Md r x h
   show List.Pairwise.cons a b
def W8{x y:Str}(h:x.cps.toList=y.cps.toList):x=y:=by
 let⟨⟨x⟩⟩:=x;let⟨⟨y⟩⟩:=y;cases h;rfl
def W9{l:TV}(h:sortedS l=true)(n:l.Nodup):l.Pairwise λa b=>a.cps.toList<b.cps.toList:=by
 have:=(W7 h).and n;show this.imp λ{a b} q=>?_
 by_cases z:a.cps.toList<b.cps.toList
 .show z
 .show qT (W8 (List.le_antisymm (wD.mp q.1) (wD.mp z))) q.2
def vt:TV:=[s!"big",s!"red",s!"far",s!"of"]
def W':∀x∈vt,Name x:=by
 intro x hx;unfold Name En;revert x hx;ac_rfl
def Xa(h:∀x∈ks,x∈vt)(l:ks⁻¹<=4)(pm:ms.Perm (dy ks))(so:sortedS ms=true):kO ms:=by
 have le:(dy ks)⁻¹<=ks⁻¹:=by
  have:∀(a b:TV),(a.foldl cN b)⁻¹<=a⁻¹+b⁻¹:=by
   intro a
   induction a with
   | nil=>intro b;simp
   | cons x a ih =>
     intro b
     rw[xG]
     let h1:=ih (cN b x)
     let h2:=Ev b x
     let h3:(cN b x)⁻¹<=b⁻¹+1:=by rw[h2];split<;>omega
     simp only[List.length_cons]
     omega
  simpa[dy]using this ks []
 show⟨by rw[pm.length_eq];omega,λm hm=>?_,W9 so (pm.nodup_iff.mpr (L3 ks))⟩;show W' m (h m ((WP ks m).mp (pm.mem_iff.mp hm)))
def vw(nms:TV):(nms.map V.str).all kL=true:=by
 rw[uI];intro v hv;let⟨x,_,rfl⟩:=qP.mp hv;rfl
def Xb{α β:Type}(f:α->β){ts:List α}{i:Nat}{t:α}(h:ts[i]?=!t):(ts.take (i+1)).map f=(ts.take i).map f++[f t]:=by
 rw[qO,h,qD];rfl
def cJ{as:TQ}{i:Nat}{x:V}(h:(↑as)[i]?=!x):∃a,as[i]?=!a/\x=.ref a:=by
 rw[qH]at h;cases e:as[i]? with
 | none=>rw[e]at h;cases h
 | some t=>rw[e]at h;cases h;show⟨t,O,O⟩
def Xc(ks:TV):(dy ks)⁻¹<=ks⁻¹:=by
 have:∀(a b:TV),(a.foldl cN b)⁻¹<=a⁻¹+b⁻¹:=by
  intro a
  induction a with
  | nil=>intro b;simp
  | cons x a ih =>
    intro b
    rw[xG]
    let h1:=ih (cN b x)
    let h2:=Ev b x
    let h3:(cN b x)⁻¹<=b⁻¹+1:=by rw[h2];split<;>omega
    simp only[List.length_cons]
    omega
 simpa[dy]using this ks []
end Gen
namespace Gen
open L2 Bk
theorem Me{e lv:Nat}(hl:lv<=6):∀(da:List Nd) (i:Nat),(∀c∈da,c.e=(e:Int)/\c.k=.note/\fZ c.st=[])->Forest e i lv da (List.replicate da⁻¹ .note)
 | [],i,_=>.nil
 | c :: da, i, h => by
   let⟨h1,h2,h3⟩:=h c rE
   let f:=Me hl da (i+1) λd hd=>h d (qS _ hd)
   have:=Forest.cons (d:=c) (sub:=[]) (ks:=[]) h1 hl (by rw[h2];decide) .nil ⟨(λc hc=>nomatch hc),(by rw[h2];intro z;cases z),trivial,(λ_=>h3)⟩ (show Forest e (i+1+([]:List Nd)⁻¹) lv da _ from f)
   rw[h2,List.nil_append]at this
   show this
theorem Mf:∀n,Nexts (List.replicate n .note)
 | 0=>trivial
 | n+1=>Mf n
def Xd{n:Nat}(hk:k=.text\/k=.head)(h:fZ st=nums n):Holds k (List.replicate n .note) st:=by
 show⟨λc hc=>?_,λz=>?_,Mf n,λ_=>by rw[yH];show h⟩
 .rw[vD hc];rcases hk with rfl | rfl<;>rfl
 .rcases hk with rfl | rfl<;>cases z
def Mg{n:Nat}(hk:d.k=.text\/d.k=.head\/d.k=.note)(p:vf n d.st)(m:kO d.mks)(nm:d.nm=cL\/Name d.nm):vg d:=by
 show⟨nm,m,?_⟩;rcases hk with h | h | h<;>rw[h]<;>show⟨p.ok,p.ne,p.le⟩
def Xe:Name (s!"nowhere"):=by unfold Name En;ac_rfl
def Xf{r:Int}(h0:0<=r)(h1:r<5):∃n:Nat,n<=2/\bO [V.int 0,V.int 0,V.int 1,V.int 0,V.int 2] r=!.int n:=by
 rcases(by omega:r=0\/r=1\/r=2\/r=3\/r=4)with rfl | rfl | rfl | rfl | rfl
 .show⟨0,{},O⟩
 .show⟨0,{},O⟩
 .show⟨1,{},O⟩
 .show⟨0,{},O⟩
 .show⟨2,{},O⟩
end Gen
namespace L2
def seq_post(P:St->Hp->Prop)(h:∀D':iH,(∀ae H',P ae H'->D'.nx ae H')->t D' σ H)(k:∀ae H',P ae H'->u D ae H'):nV t u D σ H:=h _ k
def Mh(P:Bool->Hp->Prop)(h:∀Q:Bool->Hp->Prop,(∀b H',P b H'->Q b H')->c σ H Q)(k:∀b H',P b H'->if b=true then t D σ H' else u D σ H'):Kh c t u D σ H:=h _ k
def Xg(P:V->Hp->Prop)(h:∀Q:VK,(∀v H',P v H'->Q v H')->te σ H Q)(k:∀v H',P v H'->g v σ H' D.nx):mf te g D σ H:=h _ k
end L2
namespace Gen
open L2 Bk
def bH(k k':Kd):decide (V.str k.s=V.str k'.s)=decide (k=k'):=by
 by_cases h:k=k'
 .rw[qR h,h];simp
 .rw[qV h];show qV λz=>h ((Kd.inj k k').mp (V.str.inj z))
def on:List Kd:=[.text,.text,.picture,.case,.shelf,.grid,.head,.aside]
def Xh{r:Int}(h0:0<=r)(h1:r<8):∃k:Kd,bO (on.map λk=>V.str k.s) r=!.str k.s/\(k=.text\/k=.picture\/k=.case\/k=.shelf\/k=.grid\/(6<=r/\(k=.head\/k=.aside))):=by
 rcases(by omega:r=0\/r=1\/r=2\/r=3\/r=4\/r=5\/r=6\/r=7)with rfl | rfl | rfl | rfl | rfl | rfl | rfl | rfl
 .show⟨.text,O,.inl O⟩
 .show⟨.text,O,.inl O⟩
 .show⟨.picture,O,.inr (.inl O)⟩
 .show⟨.case,O,.inr (.inr (.inl O))⟩
 .show⟨.shelf,O,.inr (.inr (.inr (.inl O)))⟩
 .show⟨.grid,O,.inr (.inr (.inr (.inr (.inl O))))⟩
 .show⟨.head,O,.inr (.inr (.inr (.inr (.inr ⟨{},.inl O⟩))))⟩
 .show⟨.aside,O,.inr (.inr (.inr (.inr (.inr ⟨{},.inr O⟩))))⟩
def kR(k:Kd):Prop:=k=.text\/k=.head\/k=.picture
def EO(ke k:Kd):=(fF ke k=true\/(k=.aside/\ke=.aside))/\(k=.text\/k=.picture\/k=.case\/k=.shelf\/k=.grid\/k=.head\/k=.aside)
def Xi{sd:Bool}{r:Int}(hc:mG ke)(hs:sd=true↔ke=.shelf\/ke=.grid)(hr:r<if sd=true then 6 else 8)(hk:k=.text\/k=.picture\/k=.case\/k=.shelf\/k=.grid\/(6<=r/\(k=.head\/k=.aside))):EO ke k:=by
 unfold EO;let EQ:6<=r->¬(ke=.shelf\/ke=.grid):=λh z=>by
  rw[qX (hs.mpr z)]at hr;omega
 rcases hc with rfl | rfl | rfl | rfl | rfl<;>rcases hk with rfl | rfl | rfl | rfl | rfl | ⟨h6,rfl | rfl⟩<;>first | show⟨.inl rfl,{}⟩ | show⟨.inr ⟨rfl,rfl⟩,{}⟩ | show qT (show _\/_ by first | show .inl rfl | show .inr rfl) (EQ h6)
instance (k:Kd):Decidable (kR k):=inferInstanceAs (Decidable (k=.text\/k=.head\/k=.picture))
def Bj:List Kd:=[.text,.head,.picture]
def Mj(k:Kd):mz (.str k.s) (Bj.map λk=>V.str k.s)=decide (kR k):=by
 unfold mz Bj kR;let e:∀a b:Kd,kM (.str a.s) (.str b.s)=decide (a=b):=λa b=>by
  show(a.s == b.s)=_;rw[yZ];simp[Kd.inj]
 simp only[List.map_cons,List.map_nil,List.any_cons,List.any_nil,e];cases k<;>rfl
def Mk(hc:mG ke):fF ke .text=true:=by rcases hc with rfl | rfl | rfl | rfl | rfl<;>rfl
def Xj(hc:mG ke):fF ke .picture=true:=by rcases hc with rfl | rfl | rfl | rfl | rfl<;>rfl
structure Xk(ke k:Kd)(lv R n:Nat):Prop where
 may:fF ke k=true
 lvl:3<lv->kR k
 room:R<=n->kR k
 one:k=.text\/k=.picture\/k=.case\/k=.shelf\/k=.grid\/k=.head\/k=.aside
def Xl(sd:Bool):bO [V.int 8,V.int 6] (if sd=true then 1 else 0)=!.int (if sd=true then 6 else 8):=by cases sd<;>rfl
def Ml{R lv n:Nat}(h:n<R):n+3<=iP R lv:=by unfold iP;split<;>(try split)<;>(try split)<;>omega
def jm(R lv j n:Nat):Prop:=n<=R+3*j\/(1<=j/\n<=iP R (lv+1)+3*(j-1))
def Mm{R lv j n n':Nat}(h:jm R lv j n)(h1:R<=n->n'<=n+3)(h2:n<R->n'<=iP R (lv+1)):jm R lv (j+1) n':=by
 unfold jm at *
 by_cases z:n<R
 .show .inr ⟨(),by have:=h2 z;omega⟩
 .have:=h1 ();rcases h with h | ⟨h,h'⟩
  .show .inl ()
  .show .inr ⟨(),()⟩
def Xm{R lv j n:Nat}(h:jm R lv j n)(hj:j<=3)(hl:1<=lv)(ER:lv<=3):n+3<=iP R lv:=by
 unfold jm iP at *;rcases(by omega:lv=1\/lv=2\/lv=3)with rfl | rfl | rfl<;>simp at*<;> omega
def Mn{R lv j n:Nat}(h:jm R lv j n)(hj:j<=3)(hR:R<=12):n<=60:=by
 unfold jm iP at h
 split at h<;>(try split at h)<;>(try split at h)<;>omega
end Gen
namespace Bk
open L2
open PySem.W (Dat kqdOk)
def bV:Nd:=⟨-1,.body,cL,[],[]⟩
end Bk
namespace Gen
open L2 Bk
end Gen
namespace L2
open PyProof.Rows
structure FunD(K:W.Frag)(x qual:Str)(st:Stmt)(f:Addr)(fd:FuncData):Prop where
 ex:∃(oc:Value) (od:Option Addr) (dV kV bq pm:Value) (an:Option Addr) (aE ct:Value) (fB:Array (Option Value)),
  fd=W.fnOf x qual (dw st) (cy st) (bw st) dV kV bq pm an aE ct/\K.lookup f=!⟨oc,od,.func fd,fB⟩/\W.codeIn K aE qual=true
 kp:W.keepIn K (.ref f)=true
def FunD.ok{P:Program}{w:World}{K:W.Frag}{mg:TJ}{base:Heap}{CX:dt}{x qual:Str}{st:Stmt}{f:Addr}{fd:FuncData}{N ps:TV}{k:Nat}{sp:Sp}(F:FunD K x qual st f fd)(S:n8 N ps (bw st))(len:∀vs H Q E,sp vs H Q E->vs⁻¹=ps⁻¹)(kJ:∀(aE:Value) (A:Around) (outer:List Env) (s:Shared) (H:Hp) (vs:List V) (Q:VK) (E:XK),Room k (A.deeper (envOfC qual (bw st) (~~~s) f aE))->sp vs H Q E ->
   ∃t,PSs (fT CX P w K mg base N qual (bw st) f aE A outer s H E) (cy st) t/\t {nx:=λ_ H'=>Q .non H',rt:=Q} (start N vs) H):aN P w K mg base CX (k+1) f fd ps sp:=by
 let⟨oc,od,dV,kV,bq,pm,an,aE,ct,fB,rfl,lk,fS⟩:=F.ex;show DS lk fS S len λA outer s H vs Q E hr fU=>kJ aE A outer s H vs Q E hr fU
def ES{K:W.Frag}{x qual:Str}{st:Stmt}{f:Addr}{oc:Value}{od an:Option Addr}{fB:Array (Option Value)}{dV kV bq pm aE ct:Value}(l:K.lookup f=!⟨oc,od,.func (W.fnOf x qual (dw st) (cy st) (bw st) dV kV bq pm an aE ct),fB⟩)(c:W.codeIn K aE qual=true)(k:W.keepIn K (.ref f)=true):FunD K x qual st f (W.fnOf x qual (dw st) (cy st) (bw st) dV kV bq pm an aE ct) :=
 ⟨⟨oc,od,dV,kV,bq,pm,an,aE,ct,fB,O,l,c⟩,k⟩
def Fx.none{P:Program}{w:World}{K:W.Frag}{mg:TJ}{base:Heap}{CX:dt}{k:Nat}{x:Str}{ps:TV}{f:Addr}{fd:FuncData}{sp:Sp}(b:Binds K fd ps [])(kp:W.keepIn K (.ref f)=true)(m:mg x=!.ref f)(no:∀vs H Q E,¬sp vs H Q E):Fx P w K mg base CX k x ps sp :=
 ⟨f,fd,⟨λ_ _ _ _ h=>(no _ _ _ _ h).elim,λ_ _ _ _ _ _ _ _ _ _ _ _ _ h=>(no _ _ _ _ h).elim⟩,b,kp,m⟩
def mH{k:Nat}{n:Nat}(K:W.Frag)(hK:X.K=K)(hc:X.calm=true)(h:pR X es t)(hn:(assignEach es X.env)⁻¹=n:=by rfl)(cp:(assignEach es X.env).findIdx? (·.1)=none:=by rfl):PG X (.Tuple es k pos) (DC K n t):=by
 subst hK;show jJ hc h hn cp
end L2
namespace Gen
open L2 Bk
end Gen
namespace L2
open PyProof.Rows
def aT{n:Nat}(h:Nat.ble n 1000=true:=by rfl):n<=sizeLine:=xD (aW (Nat.le_of_ble_eq_true h))
class Nd (N:TV):Prop where
 nd:N.Nodup
abbrev Fu(K:W.Frag)(x:Str)(st:Stmt)(f:Addr)(fd:FuncData):Prop:=Fun K x x st f fd
def Fun.go{P:Program}{w:World}{K:W.Frag}{mg:TJ}{base:Heap}{x qual:Str}{st:Stmt}{f:Addr}{fd:FuncData}{ps:TV}{k:Nat}{sp:Sp}(F:Fun K x qual st f fd)(N:TV)(kJ:∀(aE:Value) (A:Around) (outer:List Env) (s:Shared) (H:Hp) (vs:List V) (Q:VK) (E:XK),Room k (A.deeper (envOfC qual (bw st) (~~~s) f aE))->sp vs H Q E->Nd (fT am P w K mg base N qual (bw st) f aE A outer s H E).nox.N ->
   ∃t,PSs (fT am P w K mg base N qual (bw st) f aE A outer s H E).nox (cy st) t/\t {nx:=λ_ H'=>Q .non H',rt:=Q} (start N vs) H)(S:n8 N ps (bw st):=by show⟨O,O,O,by ac_rfl,O,by ac_rfl,by ac_rfl⟩)(len:∀vs H Q E,sp vs H Q E->vs⁻¹=ps⁻¹:=by intro _ _ _ _ h;first | (cases h;subst_vars;rfl) | (cases h.2;subst_vars;rfl) | (repeat first | rfl | let⟨rfl,h⟩:=h | let⟨_,h⟩:=h)):aN P w K mg base am (k+1) f fd ps sp :=
 F.ok S len λaE A outer s H vs Q E hr h=>kJ aE A outer s H vs Q E hr h ⟨S.nd⟩
def FunD.go{P:Program}{w:World}{K:W.Frag}{mg:TJ}{base:Heap}{CX:dt}{x qual:Str}{st:Stmt}{f:Addr}{fd:FuncData}{ps:TV}{k:Nat}{sp:Sp}(F:FunD K x qual st f fd)(N:TV)(kJ:∀(aE:Value) (A:Around) (outer:List Env) (s:Shared) (H:Hp) (vs:List V) (Q:VK) (E:XK),Room k (A.deeper (envOfC qual (bw st) (~~~s) f aE))->sp vs H Q E->Nd (fT CX P w K mg base N qual (bw st) f aE A outer s H E).N ->
   ∃t,PSs (fT CX P w K mg base N qual (bw st) f aE A outer s H E) (cy st) t/\t {nx:=λ_ H'=>Q .non H',rt:=Q} (start N vs) H)(S:n8 N ps (bw st):=by show⟨O,O,O,by ac_rfl,O,by ac_rfl,by ac_rfl⟩)(len:∀vs H Q E,sp vs H Q E->vs⁻¹=ps⁻¹:=by intro _ _ _ _ h;first | (cases h;subst_vars;rfl) | (cases h.2;subst_vars;rfl) | (repeat first | rfl | let⟨rfl,h⟩:=h | let⟨_,h⟩:=h)):aN P w K mg base CX (k+1) f fd ps sp :=
 F.ok S len λaE A outer s H vs Q E hr h=>kJ aE A outer s H vs Q E hr h ⟨S.nd⟩
section
variable{X:Cx}{e a b o tg iter dN:Expr}{te ta tb to:TE}{x:Str}{pos p eP:Pos}{es dF:TW}{t:TA}{u:TA}
def sv(i:Nat)[n:Nd X.N](he:PE X e te)(hi:X.N[i]?=!x:=by rfl)(hx:Loc X.env.scope x:=by first | show Or.inl (by rfl) | show Or.inr (by rfl))(hs:swapsWith e (!.Name x eP) pos.line X.env=pure false:=by rfl)(hf:X.fn x=true\/X.env.scope.names.lookup x=!.local:=by first | show .inl rfl | show .inr rfl | assumption):PS X (.Assign [.Name x eP] e pos) (mf te (aY i)):=U4 n.nd hi hx he hs hf
def av(i:Nat)[n:Nd X.N](he:PE X e te)(ho:tO X op ti)(hi:X.N[i]?=!x:=by rfl)(hx:Loc X.env.scope x:=by first | show Or.inl (by rfl) | show Or.inr (by rfl))(hf:X.fn x=true\/X.env.scope.names.lookup x=!.local:=by first | show .inl rfl | show .inr rfl | assumption):PS X (.AugAssign (.Name x eP) op e pos) (DD i te ti):=U5 n.nd hi hx he ho hf
def nv(i:Nat)[n:Nd X.N](hi:X.N[i]?=!x:=by rfl)(hx:Loc X.env.scope x:=by first | show Or.inl (by rfl) | show Or.inr (by rfl))(hf:X.fn x=true\/X.env.scope.names.lookup x=!.local:=by first | show .inl rfl | show .inr rfl | assumption):PG X (.Name x pos) (aY i):=U3 n.nd hi hx hf
def fv{body:List Stmt}{wi:TI}{g:TG}{tb:TS}(hi:PI X tg iter wi)(hg:PG X tg g)(hb:PSs X body tb)(hp:PassesOwn (model X.prog X.w) X.A X.env X.xe:=by show vE)(hc:X.calm=true:=by rfl)(hs:∀x,foldedSetIterable iter X.env x=pure x:=by intro _;rfl):PS X (.For tg iter body [] pos) (Ks wi g tb):=Ve hp hc hi hg hb hs
def a1(h1:PE X e te)(s1:starEach [e] X.env=(false,eval e X.env)::starEach [] X.env:=by rfl):PA X [e] (eC te je):=aO h1 bX s1
def a2(h1:PE X e te)(h2:PE X e2 t2)(s1:starEach [e,e2] X.env=(false,eval e X.env)::starEach [e2] X.env:=by rfl)(s2:starEach [e2] X.env=(false,eval e2 X.env)::starEach [] X.env:=by rfl):PA X [e,e2] (eC te (eC t2 je)):=aO h1 (a1 h2 s2) s1
def a3(h1:PE X e te)(h2:PE X e2 t2)(h3:PE X e3 t3)(s1:starEach [e,e2,e3] X.env=(false,eval e X.env)::starEach [e2,e3] X.env:=by rfl)(s2:starEach [e2,e3] X.env=(false,eval e2 X.env)::starEach [e3] X.env:=by rfl)(s3:starEach [e3] X.env=(false,eval e3 X.env)::starEach [] X.env:=by rfl):PA X [e,e2,e3] (eC te (eC t2 (eC t3 je))):=aO h1 (a2 h2 h3 s2 s3) s1
def cF{k m:Nat}(F:Fx X.prog X.w X.K X.mg X.base am k x ps sp)(hr:Room m X.A)(ha:PA X (e::es) t)(hk:k<=m:=by first | decide | omega)(hg:Gl X x:=by rfl)(g8:(x == ("__debug__" : Str))=false:=by decide)(he:starEach (e::es) X.env=(false,eval e X.env)::starEach es X.env:=by rfl)(dS:(backTo pos (starEach es X.env)).any (·.1)=false:=by rfl):PE X (.Call (.Name x p) (e::es) [] pos) (AS sp [] E0 t):=L7 F (hr.mono hk) hg Eb ha g8 he dS
def px(hr:ue X r)(ha:PE X a ta)(hb:PE X b tb)(hs:KW b:=by show λ_ _=>rfl):PE X (.Subscript a b pos) (eQ r ta tb):=VB hr ha hb hs
def tc(ho:cw X (compareOp op) r)(ha:PE X a ta)(hb:PE X b tb)(hm:behindInMarks op b=false:=by first | show KD _ | with_unfolding_all rfl):PT X (.Compare a [op] [b] pos) (tY (eQ r ta tb)):=Vo ho ha hb hm
def ec(ho:cw X (compareOp op) r)(ha:PE X a ta)(hb:PE X b tb)(hm:behindInMarks op b=false:=by first | show KD _ | with_unfolding_all rfl):PE X (.Compare a [op] [b] pos) (eQ r ta tb):=Vn ho ha hb hm
def gi{n:Int}{y}(hm:X.mg x=!.int n y)(hg:Gl X x:=by rfl)(hd:(x == ("__debug__" : Str))=false:=by decide):PE X (.Name x pos) (tC (.int n)):=Dx hg hm ⟨_,O⟩ hd
def gs{y}(hm:X.mg x=!.str n y)(hg:Gl X x:=by rfl)(hd:(x == ("__debug__" : Str))=false:=by decide):PE X (.Name x pos) (tC (.str n)):=Dx hg hm ⟨_,O⟩ hd
def gr(hm:X.mg x=!.ref n)(hg:Gl X x:=by rfl)(hd:(x == ("__debug__" : Str))=false:=by decide):PE X (.Name x pos) (tC (.ref n)):=Dx hg hm O hd
def cb{id:String}{r}(hc:eB X (.builtin id) r)(hm:X.mg x=none)(hv:bootBuiltins x=!.builtin id)(ha:PA X (e::es) t)(hg:Gl X x:=by rfl)(hn:x ≠ "__name__":=by decide)(g8:(x == ("__debug__" : Str))=false:=by decide)(he:starEach (e::es) X.env=(false,eval e X.env)::starEach es X.env:=by rfl)(dS:(backTo pos (starEach es X.env)).any (·.1)=false:=by rfl):PE X (.Call (.Name x p) (e::es) [] pos) (AT r t):=Vw hc hg hm hv ha hn g8 he dS
def ln(hm:X.mg "len" = none)(he:PE X e te)(hg:Gl X "len":=by rfl)(hs:starEach [e] X.env=(false,eval e X.env)::starEach [] X.env:=by rfl)(dS:(backTo pos (starEach [] X.env)).any (·.1)=false:=by rfl):PE X (.Call (.Name "len" p) [e] [] pos) (AT (DY X.K) (eC te je)):=cb VG hm Gen.b_len (a1 he hs) hg {} {} hs dS
def r1(hm:X.mg "range" = none)(ha:PE X a ta)(hg:Gl X "range":=by rfl)(hs:starEach [a] X.env=[(false,eval a X.env)]:=by rfl)(h2:starEach [a] X.env=(false,eval a X.env)::starEach [] X.env:=by rfl):PI X tg (.Call (.Name "range" p) [a] [] pos) (Kq (eC ta je)):=Vd hg hm (a1 ha h2) hs
variable{scope:Scope}{wi:TI}{g:TG}{tt:TT}
def Mo{ix:TM}(h1:scope.kind=.function)(h2:∀y∈scope.names,y.2≠.cell)(h3:∀y∈scope.names,y.2=.local->scope.names.lookup y.1=!.local)(h4:∀y∈scope.names,y.2=.free->y.1∈fr)(h5:ix.map (λj=>X.N[j]?)=fr.map some)(h6:∀x∈fr,scope.names.lookup x=!.free)(h7:fr.all (λx=>decide (X.env.scope.names.lookup x=!.cell))=true):CompScope X scope own fr ix :=
 .frees h1 h2 h3 h4 h5 h6 λx hx=>.inl (rF (uI.mp h7 x hx))
def cm(own fr:TV)(ix:TM)(hi:PI X tg iter wi)(hg:∀{cl C s2 H2 fp} [Nd (b9 X (own++fr) scope cl C s2 H2 fp).N],PG (b9 X (own++fr) scope cl C s2 H2 fp) tg g)(ht:∀{cl C s2 H2 fp},oh (b9 X (own++fr) scope cl C s2 H2 fp) dF tt)(he:∀{cl C s2 H2 fp} [Nd (b9 X (own++fr) scope cl C s2 H2 fp).N],PE (b9 X (own++fr) scope cl C s2 H2 fp) dN te)(nd:(own++fr).Nodup:=by ac_rfl)(hc:X.calm=true:=by rfl)(S:CompScope X scope own fr ix:=by show Mo (by rfl) (by ac_rfl) (by ac_rfl) (by ac_rfl) (by rfl) (by ac_rfl) (by rfl))(hs:∀x,foldedSetIterable iter X.env x=pure x:=by intro _;rfl):PE X (.ListComp dN [⟨tg,iter,dF,0⟩] scope pos) (AY own⁻¹ ix wi g tt te) :=
 V4 hc S hi (λcl C s2 H2 fp=>@hg cl C s2 H2 fp ⟨nd⟩) (λcl C s2 H2 fp=>ht) (λcl C s2 H2 fp=>@he cl C s2 H2 fp ⟨nd⟩) hs
def sm(i:Nat)[n:Nd X.N](own fr:TV)(ix:TM)(hi:PI X tg iter wi)(hg:∀{cl C s2 H2 fp} [Nd (b9 X (own++fr) scope cl C s2 H2 fp).N],PG (b9 X (own++fr) scope cl C s2 H2 fp) tg g)(ht:∀{cl C s2 H2 fp},oh (b9 X (own++fr) scope cl C s2 H2 fp) dF tt)(he:∀{cl C s2 H2 fp} [Nd (b9 X (own++fr) scope cl C s2 H2 fp).N],PE (b9 X (own++fr) scope cl C s2 H2 fp) dN te)(nd:(own++fr).Nodup:=by ac_rfl)(hc:X.calm=true:=by rfl)(Eh:X.N[i]?=!y:=by rfl)(hy:Loc X.env.scope y:=by first | show Or.inl (by rfl) | show Or.inr (by rfl))(S:CompScope X scope own fr ix:=by show Mo (by rfl) (by ac_rfl) (by ac_rfl) (by ac_rfl) (by rfl) (by ac_rfl) (by rfl))(hf:X.fn y=true\/X.env.scope.names.lookup y=!.local:=by first | show .inl rfl | show .inr rfl | assumption)(Ei:swapsWith (.ListComp dN [⟨tg,iter,dF,0⟩] scope pos) (!.Name y py) Ej.line X.env=pure true:=by with_unfolding_all rfl)(hs:∀x,foldedSetIterable iter X.env x=pure x:=by intro _;rfl):PS X (.Assign [.Name y py] (.ListComp dN [⟨tg,iter,dF,0⟩] scope pos) Ej) (mf (AY own⁻¹ ix wi g tt te) (aY i)) :=
 V5 hc n.nd Eh hy S hi (λcl C s2 H2 fp=>@hg cl C s2 H2 fp ⟨nd⟩) (λcl C s2 H2 fp=>ht) (λcl C s2 H2 fp=>@he cl C s2 H2 fp ⟨nd⟩) hf Ei hs
def ap(ho:PE X o to)(ha:PE X e te)(uk:attributeBase o "append" X.env (eval o X.env)=eval o X.env:=by rfl)(um:((backTo eZ (starEach [e] X.env)).all (λx=>(Bool.not (x.1))) && (backToKw eZ (keywordEach [] X.env)).all (λx=>x.1.isSome)
   && decide ([e]⁻¹+([]:List Keyword)⁻¹+(if([]:List Keyword).isEmpty then 0 else 1)<30))=true:=by rfl)(uq:(nZ.endLine == eZ.line)=true:=by rfl)(hs:starEach [e] X.env=(false,eval e X.env)::starEach [] X.env:=by rfl)(ur:(backTo eZ (starEach [] X.env)).any (·.1)=false:=by rfl) :
  PE X (.Call (.Attribute o "append" nZ) [e] [] eZ) (D1 X.K "list" AW to (eC te je)):=jM yM vV vX La ho (a1 ha hs) uk um uq hs ur
end
end L2
namespace Gw
open L2
open Bk hiding Names
open Gen
def io(n:Nat):Str:=s!"n" ++ sg (97+n % 26)++sg (97+n / 26)
def NmOk(ds:List Nd)(x:Str):Prop:=x=cL\/(ds⁻¹<=200/\x=io ds⁻¹)
def Names(ds:List Nd):=∀(i:Nat) (d:Nd),ds[i]?=!d->d.nm=cL\/d.nm=io i
def Mp{n:Nat}(h:n<26):bO small.cps.toList (n:Int)=!97+n:=by
 let all:∀m,m<26->bO small.cps.toList ((m:Nat):Int)=!97+m:=by ac_rfl
 show all n h
def Xn{n:Nat}(h:n<=200):Name (io n):=by
 let l:(io n)⁻¹=3:=by unfold io;rw[EL,EL];rfl
 show⟨by rw[l];decide,by rw[l];decide,EM (EM (λx hx=>?_) ⟨(),()⟩) ⟨(),()⟩⟩;let e:(s!"n").cps.toList=[110]:=by ac_rfl
 rw[e]at hx;have:x=110:=‹hx›
 subst this;show⟨{},{}⟩
def Xo{n m:Nat}(h:io n=io m):n=m:=by
 let e:(s!"n").cps.toList=[110]:=by ac_rfl
 let h2:(io n).cps.toList=(io m).cps.toList:=by rw[h]
 unfold io at h2;rw[vo,vo,vo,vo,e]at h2;simp only[sg,List.cons_append,List.nil_append,List.cons.injEq,true_and,and_true]at h2;omega
def NmOk.or(h:NmOk ds x):x=cL\/Name x:=by
 rcases h with h | h
 .show .inl h
 .rw[h.2];show .inr (Xn h.1)
def vx(h:Names ds)(n:NmOk ds d.nm):Names (ds++[d]):=λi c hc=>by
 by_cases z:i<ds⁻¹
 .rw[xE z]at hc;show h i c hc
 .rw[rL ()]at hc;let i0:i-ds⁻¹=0:=by
   have:=(qE.mp hc).1;simp at this;omega
  rw[i0]at hc;have:d=c:=‹hc›
  subst this;let ei:i=ds⁻¹:=()
  rw[ei];rcases n with n | n
  .show .inl n
  .show .inr n.2
def names_nodup(h:Names ds):((ds.filter λd=>d.nm≠cL).map (·.nm)).Nodup:=by
 have all:∀(l:List Nd) (k:Nat),(∀(i:Nat) (d:Nd),l[i]?=!d->d.nm=cL\/d.nm=io (k+i))->((l.filter λd=>d.nm≠cL).map (·.nm)).Nodup/\∀x∈(l.filter λd=>d.nm≠cL).map (·.nm),∃j,k<=j/\x=io j:=by
  intro l
  induction l with
  | nil=>intro k _;show⟨vT,λx hx=>nomatch hx⟩
  | cons d l ih =>
    intro k hk
    let⟨n1,n2⟩:=ih (k+1) λi c hc=>by
      have:=hk (i+1) c (by rw[rW];show hc)
      rw[show k+1+i=k+(i+1) by omega]
      show this
    by_cases z:d.nm=cL
    · rw[List.filter_cons_of_neg (by simp[z])]
      show⟨n1,λx hx=>by let⟨j,h1,h2⟩:=n2 x hx;show⟨j,(),h2⟩⟩
    · rw[List.filter_cons_of_pos (by simp[z]),xP,y9]
      let ed:d.nm=io k:=by
        rcases hk 0 d O with q | q
        · show qT q z
        · show q
      show⟨⟨λm=>?_,n1⟩,λx hx=>?_⟩
      · let⟨j,h1,h2⟩:=n2 _ m
        rw[ed]at h2
        have:=Xo h2
        omega
      · rcases qM.mp hx with rfl | hx
        · show⟨k,qG _,ed⟩
        · let⟨j,h1,h2⟩:=n2 x hx
          show⟨j,(),h2⟩
 show(all ds 0 λi d hd=>by rw[Nat.zero_add];show h i d hd).1
inductive vy:List V->Hp->VK->XK->Prop
|m (H0:Hp) (p st s:Addr) (e:Int) (k:Kd) (ah:List Th) (ds:List Nd):vs=[.ref p,.int e,.str k.s,.ref s,.ref st]->Gs H0 st p H ds->StAt (gz H0 p) H s ah->ds⁻¹<=200->(∀(d:Nd) (H':Hp),d.e=e->d.k=k->d.st=ah->kO d.mks->NmOk ds d.nm->Gs H0 st p H' (ds++[d])->f' st p H H'->Q (.int ds⁻¹) H')->vy vs H Q E
structure More(e lv:Nat)(ds more:List Nd)(ks:List Kd):Prop where
 fo:Forest e ds⁻¹ lv more ks
 fm:∀d∈more,vg d
 nm:Names (ds++more)
inductive Bl:List V->Hp->VK->XK->Prop
|m (H0:Hp) (p st:Addr) (e lv:Nat) (k:Kd) (ds:List Nd):vs=[.ref p,.int e,.str k.s,.ref st]->Gs H0 st p H ds->(k=.text\/k=.head)->ds⁻¹<=190->lv<=5->om ds->Names ds->(∀(more:List Nd) (H':Hp),More e lv ds more [k]->more⁻¹<=3->Gs H0 st p H' (ds++more)->f' st p H H'->Q .non H')->Bl vs H Q E
inductive spItem(n:Nat):List V->Hp->VK->XK->Prop
|m (H0:Hp) (p st:Addr) (e lv lw R:Nat) (de:Nd) (ds:List Nd):vs=[.ref p,.int e,.int lv,.int R,.ref st]->Gs H0 st p H ds->ds[e]?=!de->mG de.k->1<=lv->lv<=4->lv<=lw->lw<=lv+1->5<=lv+n->R<=12->ds⁻¹<=100->om ds->Names ds->(∀(more:List Nd) (ks:List Kd) (H':Hp),More e lw ds more ks->ItemKs de.k ks->(R<=ds⁻¹->more⁻¹<=3)->(ds⁻¹<R->ds⁻¹+more⁻¹<=iP R lv)->Gs H0 st p H' (ds++more)->f' st p H H'->Q .non H')->spItem n vs H Q E
def Mq(h:om ds)(n:NmOk ds d.nm):om (ds++[d]):=λc hc=>by
 rcases rG.mp hc with hc | hc
 .show h c hc
 .have:c=d:=‹hc›
  subst this;show n.or
def Xp{e lv n:Nat}(hk:k=.text\/k=.head)(hl:lv<=5)(he:d.e=(e:Int))(Bm:d.k=k)(p:vf n d.st)(m:kO d.mks)(nm:NmOk ds d.nm)(hn:da⁻¹=n)(hc:∀c∈da,c.e=(ds⁻¹:Int)/\c.k=.note/\vf 0 c.st/\kO c.mks/\(c.nm=cL\/Name c.nm))(na:Names (ds++(d::da))):More e lv ds (d::da) [k]:=by
 show⟨?_,λc eO=>?_,na⟩
 .let f:=Me (e:=ds⁻¹) (lv:=lv+1) () da (ds⁻¹+1) λc h=>⟨(hc c h).1,(hc c h).2.1,(hc c h).2.2.1.nn⟩
  have:=Forest.one (d:=d) he () (by rw[Bm];rcases hk with rfl | rfl<;>decide) f (by rw[Bm];show Xd hk (by rw[hn];show p.nn));rw[Bm]at this;show this
 .rcases qM.mp eO with rfl | h
  .show Mg (by rw[Bm];rcases hk with rfl | rfl<;>simp) p m nm.or
  .let⟨_,h2,h3,h4,h5⟩:=hc c h;show Mg (by rw[h2];simp) h3 h4 h5
structure Kids(oo lv:Nat)(k:Kd)(pre sub:List Nd)(ks:List Kd):Prop where
 fo:Forest oo (oo+1) (lv+1) sub ks
 fm:∀d∈sub,vg d
 nm:Names (pre++sub)
 ok:om (pre++sub)
 may:∀c∈ks,fF k c=true
 nx:Nexts ks
def Kids.more{oo lv:Nat}{k:Kd}{pre sub more:List Nd}{ks ca:List Kd}(x:Kids oo lv k pre sub ks)(hl:(pre++sub)⁻¹=oo+1+sub⁻¹)(m:More oo (lv+1) (pre++sub) more ca)(i:ItemKs k ca):Kids oo lv k pre (sub++more) (ks++ca):=by
 show⟨x.fo.append (by have:=m.fo;rw[hl]at this;show this),λd hd=>?_,by rw[<-xM];show m.nm,λd hd=>?_,λc hc=>?_,x.nx.append i.nexts⟩
 .rcases rG.mp hd with h | h
  .show x.fm d h
  .show m.fm d h
 .rw[<-xM]at hd;rcases rG.mp hd with h | h
  .show x.ok d h
  .show(m.fm d h).nm
 .rcases rG.mp hc with h | h
  .show x.may c h
  .show i.may c h
def More.nms{e lv:Nat}(m:More e lv ds more ks)(h:om ds):om (ds++more):=λd hd=>by
 rcases rG.mp hd with z | z
 .show h d z
 .show(m.fm d z).nm
def Mr{e lv:Nat}(he:d.e=(e:Int))(hl:lv<=6)(hk:d.k=.case\/d.k=.shelf\/d.k=.grid\/d.k=.aside)(cp:d.st=[])(hm:kO d.mks)(nm:NmOk ds d.nm)(x:Kids ds⁻¹ lv d.k (ds++[d]) sub ks)(Xq:d.k≠.case->ks≠[]):More e lv ds (d::sub) [d.k]:=by
 show⟨Forest.one he hl (by rcases hk with h | h | h | h<;>rw[h]<;>decide) x.fo ⟨x.may,λz=>?_,x.nx,λz=>?_⟩,λc hc=>?_,by have:=x.nm;simpa using this⟩
 .show Xq λq=>?_
  rw[q]at z;cases z
 .rcases hk with h | h | h | h<;>rw[h]at z<;>cases z
 .rcases qM.mp hc with rfl | h
  .show⟨nm.or,hm,?_⟩;rcases hk with h | h | h | h<;>rw[h]<;>show cp
  .show x.fm c h
def Xr{e lv:Nat}{a b:Int}(he:d.e=(e:Int))(hl:lv<=6)(hk:d.k=.picture)(cp:d.st=[.int a,.int b])(ha:1<=a/\a<=2000)(hb:1<=b/\b<=2000)(hm:kO d.mks)(nm:NmOk ds d.nm)(na:Names ds):More e lv ds [d] [.picture]:=by
 show⟨?_,λc hc=>?_,vx na nm⟩
 .have:=Forest.one (i:=ds⁻¹) (lv:=lv) (sub:=[]) (ks:=[]) he hl (by rw[hk];decide) .nil ⟨(λc hc=>nomatch hc),(by rw[hk];intro z;cases z),trivial,(by rw[hk];intro z;cases z)⟩;rw[hk]at this;show this
 .have:c=d:=‹hc›
  subst this;show⟨nm.or,hm,?_⟩;rw[hk,cp];show⟨a,b,O,ha.1,ha.2,hb.1,hb.2⟩
def More.cat{e lv:Nat}(x:More e lv ds a ks)(y:More e lv (ds++a) b ca):More e lv ds (a++b) (ks++ca):=by
 show⟨x.fo.append (by have:=y.fo;rw[qJ]at this;show this),λd hd=>?_,by rw[<-xM];show y.nm⟩;rcases rG.mp hd with h | h
 .show x.fm d h
 .show y.fm d h
def Xs:Kids 0 0 .body [bV] [] []:=⟨.nil,(λd hd=>nomatch hd),(λi d hd=>by
 have:d∈[bV]++[]:=qN hd;have:d=bV:=‹this›
 rw[this];show .inl O),λd hd=>by
 have:d=bV:=‹hd›
 rw[this];show .inl O,(λc hc=>nomatch hc),trivial⟩
def item_none:∀vs H Q E,¬spItem 0 vs H Q E:=by
 ext vs H Q E ⟨H0,p,st,e,lv,lw,R,de,ds,rfl,_,_,_,h1,h2,_,_,h3,_⟩;omega
inductive spBook:List V->Hp->VK->XK->Prop
|m (st:Addr) (m R:Nat):vs=[.ref st,.int m,.int R]->StOk H st->1<=m->m<=4->1<=R->R<=12->(∀(p:Addr) (sub:List Nd) (ks:List Kd) (H':Hp),Kids 0 0 .body [bV] sub ks->sub⁻¹<=R+26+3*m->ks≠[]->Gs H st p H' (bV::sub)->Q (.ref p) H')->spBook vs H Q E
inductive spWide:List V->Hp->VK->XK->Prop
|m (H0:Hp) (p st:Addr) (sub:List Nd) (ks:List Kd):vs=[.ref p,.ref st]->Gs H0 st p H (bV::sub)->Kids 0 0 .body [bV] sub ks->sub⁻¹<=50->(∀(more:List Nd) (ca:List Kd) (H':Hp),Kids 0 0 .body [bV] (sub++more) (ks++ca)->more⁻¹<=28->Gs H0 st p H' (bV::(sub++more))->Q .non H')->spWide vs H Q E
end Gw
local macro_rules|`(⋯)=>do
 let a:=Lean.mkIdent `P;let b:=Lean.mkIdent `w;let c:=Lean.mkIdent `K;let d:=Lean.mkIdent `mg;let e:=Lean.mkIdent `base;let f:=Lean.mkIdent `am
 `(L2.Fx $a $b $c $d $e $f)
local macro_rules|`(~~~0)=>do
 let a:=Lean.mkIdent `P;let b:=Lean.mkIdent `w;let c:=Lean.mkIdent `K;let d:=Lean.mkIdent `mg;let e:=Lean.mkIdent `base;let f:=Lean.mkIdent `am
 `(L2.aN $a $b $c $d $e $f)
local macro_rules|`(tactic|rcases F.go $l with $p)=>do
 let a:=Lean.mkIdent `aE;let b:=Lean.mkIdent `A;let c:=Lean.mkIdent `outer;let d:=Lean.mkIdent `s;let e:=Lean.mkIdent `H;let f:=Lean.mkIdent `vs;let g:=Lean.mkIdent `Q;let h:=Lean.mkIdent `E;let i:=Lean.mkIdent `hr;let z:=Lean.mkIdent `F.go
 `(tactic|(refine $z $l ?_;intro $a:ident $b:ident $c:ident $d:ident $e:ident $f:ident $g:ident $h:ident $i:ident y;rcases y with $p;intro _))
namespace K33
open L2
open Bk hiding Names
open Gen
open Gw
def top(i:Nat):Stmt:=Challenge.pw_leafpress_k33_whole_insides.main.body.getD i (.Pass ⟨0,0,0,0⟩)
abbrev Ms:=top 112
abbrev Mt:=top 113
abbrev Mu:=top 115
abbrev Mv:=top 116
abbrev Mw:=top 117
abbrev Mx:=top 118
abbrev My:=top 119
abbrev Mz:=top 120
abbrev MA:=top 121
def Xt(F:Fu K "_law_stream" Ms f fd)(T:Bn mg):(~~~0) 1 f fd ["_law_script", "_law_k"] (Bi K):=by
 rcases F.go ["_law_script", "_law_k"] with⟨a,ns,k,rfl,hS,k0,k1,q⟩;show⟨_,(ax (ba (tc jd '1' (ln T.len '0')) (aA (aH (bf (a2 (px aK '0' '1') (aG a9 (aG a9 (aG mq (px aK '0' '1') ao) (aG eR '1' '1')) ao))))) bi)
  (aA (aH (bf (a2 (aG a9 (aG eR (aG eR '1' '1') ao) ao) (aG a9 '1' ao)))))),?_⟩
 let kk:0<=k*k/\k*k<=10000:=by
  let h1:=Int.mul_nonneg k0 k0;let h2:k*k<=100*100:=Int.mul_le_mul k1 k1 k0 {};omega
 show¬⟨a,_,O,.inl hS,_,_,O,O,_,O,?_⟩;show cz (λc=>?_) (λc=>?_)
 .let c':k<(((⇑ns)⁻¹:Nat):Int):=rF c;rw[qA]at c';let⟨v,hv⟩:=int_at (ns:=ns) k0 c';show¬⟨a,_,_,_,O,O,hS,hv,_,O,_,O,a,_,_,_,O,O,hS,hv,_,_,O,O,(by show(0:Int)<2147483629;decide),_,O,_,O,_,_,O,O,.inl ⟨(),()⟩,_,_,O,O,_,_,O,O,aT,λl hl=>?_⟩;let m1:=uE v (show(2147483629:Int)≠0 by decide);let m2:=uX v (show(0:Int)<2147483629 by decide);show q l _ hl ⟨v,_,ar,(),()⟩ (ay hl _)
 .show¬⟨_,_,O,O,.inl ⟨(),()⟩,_,_,O,O,.inl ⟨(),()⟩,_,_,O,O,_,O,_,_,O,O,aT,λl hl=>?_⟩;show q l _ hl ⟨_,_,ar,(),()⟩ (ay hl _)
def Xu(F:Fu K "_law_take" Mt f fd):(~~~0) 1 f fd ["_law_stream_here", "_law_most"] im:=by
 rcases F.go ["_law_stream_here", "_law_most", "_law_digit"] with⟨st,m,rfl,⟨x,y,cp,y0,y1⟩,m0,m1,q0⟩;let q:∀r x' y':Int,0<=r->r<m->0<=y'->y'<4294967296->Q (.int r) (af H st (.lst [.int x',.int y'])):=λr x' y' r0 r1 z0 z1=>q0 r _ r0 r1 ⟨x',y',ar,z0,z1⟩ λb o n e=>by rw[aM n];show e
 show⟨_,(ax (ba (PW.pt (jH (tc bv (px aK '0' ao) ao) (kF (tc bv (px aK '0' ao) (dJ dL ao))))) (ax (nW (aG mq (aG a9 (aG eR (px aK '0' ao) ao) ao) ao) (tP '0' ao pX))
  (aA (aH (aG mq (aG mq (aG eR (px aK '0' ao) (px aK '0' ao)) ao) '1')))) bi)
  (ax (sv 2 (aG mq (px aK '0' ao) '1'))
  (ax (nW (aG vd (px aK '0' ao) '1') (tP '0' ao pX))
  (aA (aH '2'))))),?_⟩
 let mm:∀v:Int,0<=v % m/\v % m<m:=λv=>⟨uE v (),uX v m0⟩
 let empty:∀Q':VK,Q'=Q->nV (mf (eQ (rI (λ_ j=>0<j) λi j=>.int (i % j)) (eQ (jb λi j=>.int (i+j)) (eQ (rI CMul λi j=>.int (i*j)) (eQ (du K) (jE 0) (tC (.int 1))) (tC (.int 48271))) (tC (.int 12345))) (tC (.int 2147483647))) (Kk (jE 0) (tC (.int 1)) DW))
   (Kg (eQ (rI (λ_ j=>0<j) λi j=>.int (i % j)) (eQ (rI (λ_ j=>0<j) λi j=>.int (i % j)) (eQ (rI CMul λi j=>.int (i*j)) (eQ (du K) (jE 0) (tC (.int 1))) (eQ (du K) (jE 0) (tC (.int 1)))) (tC (.int 2147483629))) (jE 1)))
   {nx:=λ_ _=>False,rt:=Q'} [!.ref st,!.int m,none] H:=by
  ext Q' rfl;show-⟨st,_,_,_,O,O,ag cp,O,_,_,O,O,.inl ⟨(),()⟩,_,_,O,O,_,_,O,O,(by show(0:Int)<2147483647;decide),_,O,st,_,1,1,O,O,cp,O,?_⟩;let z0:=uE (y*48271+12345) (show(2147483647:Int)≠0 by decide);let z1:=uX (y*48271+12345) (show(0:Int)<2147483647 by decide);let MB:af H st (.lst [.int x,.int ((y*48271+12345) % 2147483647)]) st=!.lst [.int x,.int ((y*48271+12345) % 2147483647)]:=ar;show-⟨st,_,_,_,O,O,ag MB,O,_,O,st,_,_,_,O,O,ag MB,O,_,_,O,O,.inl (show -(2 ^ 64)<(y*48271+12345) % 2147483647/\(y*48271+12345) % 2147483647<2 ^ 64 from⟨(),()⟩),_,_,O,O,(by show(0:Int)<2147483629;decide),_,O,_,_,O,O,m0,?_⟩;show q _ x _ (mm _).1 (mm _).2 z0 ()
 show-⟨st,_,_,_,O,O,ag cp,O,O,_,O,?_⟩
 by_cases x0:x=0
 .rw[qR (show V.int x=V.int 0 by rw[x0])];show bK (bK ?_);show empty _ O
 .show dM (show¬V.int x=V.int 0 from λz=>x0 (V.int.inj z)) ⟨_,O,st,_,_,_,O,O,ag cp,O,_,O,O,_,O,?_⟩
  by_cases x1:x=-1
  .rw[qR (show V.int x=V.int (-1) by rw[x1])];show bK ?_;show empty _ O
  .show dM (show¬V.int x=V.int (-1)from λz=>x1 (V.int.inj z)) ⟨_,O,st,_,_,_,O,O,ag cp,O,_,O,_,_,O,O,m0,?_⟩;show-⟨st,_,_,_,O,O,ag cp,O,_,O,_,_,O,O,⟨m0,()⟩,_,O,st,_,0,0,O,O,cp,O,_,O,?_⟩;show q _ (x / m) y (mm x).1 (mm x).2 y0 y1
def Xv(F:Fu K "_law_word" Mu f fd)(T:Bn mg)(bI:⋯ 1 "_law_take" ["_law_stream_here", "_law_most"] im):(~~~0) 2 f fd ["_law_stream_here", "_law_most"] EJ:=by
 rcases F.go ["_law_stream_here", "_law_most", "_law_signs", "_law_word_here", "_law_k"] with⟨st,m,rfl,S,m1,m2,q⟩;show⟨_,(ax (sv 2 aU)
  (ax (sv 3 aU)
  (ax (fv (r1 T.range (aG a9 ao (cF bI hr (a2 '0' '1')))) (nv 4)
  (aA (sv 3 (aG DP '3' (px DV '2' (cF bI hr (a2 '0' ao)))))))
  (aA (aH '3'))))),?_⟩
 show¬⟨st,m,O,S,(),(),λr H1 r0 r1 S1 K1=>⟨_,_,O,O,_,O,(),(),gY (λi σ H2=>∃(x:Str) (v:Option V),σ=[!.ref st,!.int m,!.str signs,!.str x,v]/\x⁻¹=i/\(∀c∈x.cps.toList,c∈ve)/\StOk H2 st/\Keep1 st H H2)
  ⟨cL,none,O,O,(λc hc=>by rw[W1]at hc;cases hc),S1,K1⟩ ?_ ?_⟩⟩
 .ext i σ H2 hi ⟨x,v,rfl,lx,cx,S2,K2⟩;show¬⟨_,O,st,72,O,S2,{},{},λr2 H3 ET EU S3 K3=>?_⟩;let⟨c,ec,ic⟩:=signs_at ET EU;show⟨_,_,_,O,O,W0,ec,_,_,O,O,?_,?_⟩
  .show x⁻¹+1<=sizeLine;show xD (aW ())
  show⟨x++sg c,_,O,by rw[EL,lx];rfl,EM cx ic,S3,K2.trans K3⟩
 .ext σ H2 ⟨x,v,rfl,lx,cx,S2,K2⟩;show-⟨?_⟩;show q x H2 ⟨(),(),cx⟩ () S2 K2
def Xw(F:Fu K "_law_pieces" Mv f fd)(T:Bn mg)(bI:⋯ 1 "_law_take" ["_law_stream_here", "_law_most"] im)(Xx:⋯ 2 "_law_word" ["_law_stream_here", "_law_most"] EJ):(~~~0) 3 f fd ["_law_stream_here", "_law_notes", "_law_names"] EK:=by
 rcases F.go ["_law_stream_here", "_law_notes", "_law_names", "_law_pieces_here", "_law_done", "_law_k"] with⟨st,p,n,nms,rfl,S,n2,pne,hp,Xy,Xz,oq,q⟩;let hu:=hr.units;show⟨_,(ax (sv 3 (bf bX))
  (ax (sv 4 ao)
  (ax (fv (r1 T.range (aG a9 ao (cF bI hr (a2 '0' ao)))) (nv 5)
  (ax (ba (tc bv (cF bI hr (a2 '0' ao)) ao) (aA (cI (ap '3' (bR (a3 aU (px aK '2' (cF bI hr (a2 '0' (ln T.len '2')))) (cF bI hr (a2 '0' ao))))))) (aA (cI (ap '3' (bR (a3 aU (cF Xx hr (a2 '0' ao)) (cF bI hr (a2 '0' ao))))))))
  (aA (ba (PW.pt (gX (tc jd '4' '1') (i9 (tc bv (cF bI hr (a2 '0' ao)) ao)))) (ax (cI (ap '3' (bR (a3 aU '4' ao))))
  (aA (sv 4 (aG a9 '4' ao)))) bi))))
  (aA (aH (aG uu '3' (cm ["_law_k"] [] [] (AN (by rfl) T.range (a2 '4' '1')) (nv 0) br (bR (a3 aU '0' ao))))))))),?_⟩
 show⟨aT,λl hl=>?_⟩;let lst:l≠st:=b7 S.some hl;let s0:=ay hl (.lst []);show-⟨st,7,O,S.same s0,{},{},λr H1 r0 r1 S1 K1=>⟨_,_,O,O,_,O,(),(),gY (λi σ H2=>∃(dn:Nat) (v:Option V) (vs:List V) (ah:List Th),σ=[!.ref st,!.int n,!.ref p,!.ref l,!.int dn,v]/\dn<=n/\H2 l=!.lst vs/\Paired (ItAt (λb=>H b=none/\b≠l) H2) vs ah/\(∀x∈ah,ii x) /\
  (i=0->ah=[])/\(0<i->∃x r,ah=x::r/\ig x=false)/\fZ ah=nums dn/\ah⁻¹<=i+dn/\StOk H2 st/\Keep1 st H H2)
  ⟨0,none,[],[],O,rO _,K1 _ _ lst ar,.nil,(λx hx=>nomatch hx),(λ_=>rfl),(λz=>qT z (rQ 0)),O,rO _,S1,s0.keep.trans K1⟩ ?_ ?_⟩⟩
 .rintro i σ H2 hi ⟨dn,v,vs,ah,rfl,qh,fD,pr,ok,h0,h1,nn,le,S2,K2⟩;let vc:vs⁻¹=ah⁻¹:=pr⁻¹;let fG:H2 p=!.lst (nms.map V.str):=K2 _ _ pne hp;show-⟨st,5,O,S2,{},{},λr3 H3 r30 r31 S3 K3=>⟨O,_,O,?_⟩⟩;let K23:Keep1 st H2 H3:=K3;let ER:=K23 _ _ lst fD;let Bp:=K23 _ _ pne fG;show cz (λ_=>?_) (λ_=>?_)
  ·-- a name
   show-⟨.inl ⟨O,_,ag ER⟩,_,O,_,O,_,O,p,_,O,.inl (ag Bp),?_⟩;let MC:0<nms⁻¹:=List.length_pos_iff.mpr Xy;show⟨st,((nms.map V.str)⁻¹:Int),O,S3,by rw[qA];omega,by rw[qA];omega,λr4 H4 ot ou S4 K4=>?_⟩;let⟨y,ey,my⟩:=EN ot ou;let EV:=K4 _ _ pne Bp;show⟨p,_,_,_,O,O,ag EV,ey,_,O,st,4,O,S4,{},{},λr5 H5 EW EX S5 K5=>⟨aT,λt ht=>?_⟩⟩;let s5:=ay ht (.tup [.str (s!"page"),.str y,.int r5]);let kT:Keep1 st H2 _:=((K23.trans K4).trans K5).trans s5.keep;let vz:=kT _ _ lst fD;show⟨l,_,_,O,O,vz,aW (),?_⟩;let ox:ItAt (λb=>H b=none/\b≠l) (af H5 t (.tup [.str (s!"page"),.str y,.int r5])) (.ref t) (.tri .page (.inl y) r5):=⟨t,O,⟨(K2.trans ((K23.trans K4).trans K5)).back (b7 S5.some ht) ht,b7 ⟨_,((K23.trans K4).trans K5) _ _ lst fD⟩ ht⟩,ar⟩;let S6:=S5.same s5;let pk:ii (.tri .page (.inl y) r5):=⟨oq y my,(),()⟩;let nt:ig (.tri .page (.inl y) r5)=false:=rfl;let nu:Ep (.tri .page (.inl y) r5)=none:=rfl;generalize (Th.tri .page (.inl y) r5)=x0 at ox pk nt nu;generalize af H5 t (.tup [.str (s!"page"),.str y,.int r5])=H6 at kT vz ox S6⊢;let k6:KeepN (λb=>H b=none/\b≠l) H2 (af H6 l (.lst (vs++[.ref t]))):=λb o nb e=>by
    rw[aM nb.2];show kT _ _ (λz=>by let⟨o',e'⟩:=S.some;rw[z,e']at nb;cases nb.1) e
   let wa:ItAt (λb=>H b=none/\b≠l) (af H6 l (.lst (vs++[.ref t]))) (.ref t) x0:=ox.keep (λb o nb e=>by rw[aM nb.2];show e) λ_ n _=>n
   let jP:=(pr.mono λv x q=>q.keep k6 λ_ n _=>n).snoc wa;let S7:StOk (af H6 l (.lst (vs++[.ref t]))) st:=by
    let⟨x,y,e,z⟩:=S6;show⟨x,y,by rw[aM (rV lst)];show e,z⟩
   let K7:Keep1 st H (af H6 l (.lst (vs++[.ref t]))):=λb o nb e=>by
    rw[aM (cH e hl)];show kT _ _ nb (K2 _ _ nb e)
   let oy:af H6 l (.lst (vs++[.ref t])) l=!.lst (vs++[.ref t]):=ar;let oz:∀x∈ah++[x0],ii x:=λx hx=>by
    rcases rG.mp hx with hx | hx
    .show ok x hx
    .have:x=x0:=‹hx›
     rw[this];show pk
   let oB:fZ (ah++[x0])=nums dn:=by
    rw[vp,nn];simp[fZ,nu]
   have oC:∃x r,ah++[x0]=x::r/\ig x=false:=by
    cases ah with
    | nil=>show⟨x0,[],O,nt⟩
    | cons a b =>
      let⟨x,r,ex,nx⟩:=h1 (by
        rcases Nat.eq_zero_or_pos i with z | z
        · show qT (h0 z) ∅
        · show z)
      cases ex
      show⟨a,b++[x0],O,nx⟩
   generalize af H6 l (.lst (vs++[.ref t]))=H7 at wa jP S7 K7 oy k6⊢;show¬⟨_,_,O,O,_,O,?_⟩;show cz (λEY=>?_) (λ_=>?_)
   case' _ =>
    let EZ:dn<n:=by
     have:=rF EY;omega
    show-⟨st,2,O,S7,{},{},λr8 H8 MD ME S8 K8=>⟨O,_,O,?_⟩⟩;let jn:=K8 _ _ lst oy;let wc:=jP.mono λv x q=>q.keep (K8.mono (N':=λb=>H b=none/\b≠l) λb nb z=>by let⟨o',e'⟩:=S.some;rw[z,e']at nb;cases nb.1) λ_ n _=>n
    show cz (λ_=>?_) (λ_=>?_)
    case' _ =>
     show-⟨.inl ⟨O,_,ag jn⟩,_,O,aT,λt9 kU=>?_⟩;let s9:=ay kU (.tup [.str (s!"note"),.int (dn:Int),.int 0]);show⟨l,_,_,O,O,s9 _ _ jn,aW (by rw[qJ,vc];simp;omega),_,O,_,_,O,O,?_⟩;let we:t9≠l:=b7 ⟨_,jn⟩ kU;let E1:ItAt (λb=>H b=none/\b≠l) (af (af H8 t9 (.tup [.str (s!"note"),.int (dn:Int),.int 0])) l (.lst (vs++[.ref t]++[.ref t9]))) (.ref t9) (.tri .note (.inr dn) 0):=⟨t9,O,⟨(K7.trans K8).back (b7 S8.some kU) kU,we⟩,by rw[aM we];show ar⟩;show⟨dn+1,_,_,ah++[x0]++[.tri .note (.inr dn) 0],O,EZ,ar,(wc.mono λv x q=>q.keep (λb o nb e=>by rw[aM nb.2];show s9 _ _ e) λ_ n _=>n).snoc E1,?_,(λz=>qT z (uW _)),?_,?_,?_,?_,?_⟩
     .intro x hx;rcases rG.mp hx with hx | hx
      .show oz x hx
      .have:x=.tri .note (.inr dn) 0:=‹hx›
       rw[this];show⟨(),(),O⟩
     .intro _;let⟨x,r,e,nx⟩:=oC;rw[e];show⟨x,_,O,nx⟩
     .rw[vp,oB,Er];rfl
     .rw[qJ,qJ];simp;omega
     .let⟨x,y,e,z⟩:=S8.same s9;show⟨x,y,by rw[aM (rV lst)];show e,z⟩
     .intro b o nb e;rw[aM (cH e hl)];show s9 _ _ (K8 _ _ nb (K7 _ _ nb e))
    .show⟨dn,_,_,ah++[x0],O,qh,jn,wc,oz,(λz=>qT z (uW _)),(λ_=>oC),oB,by rw[qJ];simp;omega,S8,K7.trans K8⟩
   .show⟨dn,_,_,ah++[x0],O,qh,oy,jP,oz,(λz=>qT z (uW _)),(λ_=>oC),oB,by rw[qJ];simp;omega,S7,K7⟩
  .refine-⟨.inl ⟨O,_,ag ER⟩,_,O,st,6,O,S3,{},{},λy H4 wy _ S4 K4=>?_⟩;show-⟨st,4,O,S4,{},{},λr5 H5 EW EX S5 K5=>⟨aT,λt ht=>?_⟩⟩;let s5:=ay ht (.tup [.str (s!"word"),.str y,.int r5]);let kT:Keep1 st H2 _:=((K23.trans K4).trans K5).trans s5.keep;let vz:=kT _ _ lst fD;show⟨l,_,_,O,O,vz,aW (),?_⟩;let ox:ItAt (λb=>H b=none/\b≠l) (af H5 t (.tup [.str (s!"word"),.str y,.int r5])) (.ref t) (.tri .word (.inl y) r5):=⟨t,O,⟨(K2.trans ((K23.trans K4).trans K5)).back (b7 S5.some ht) ht,b7 ⟨_,((K23.trans K4).trans K5) _ _ lst fD⟩ ht⟩,ar⟩;let S6:=S5.same s5;let pk:ii (.tri .word (.inl y) r5):=⟨wy,(),()⟩;let nt:ig (.tri .word (.inl y) r5)=false:=rfl;let nu:Ep (.tri .word (.inl y) r5)=none:=rfl;generalize (Th.tri .word (.inl y) r5)=x0 at ox pk nt nu;generalize af H5 t (.tup [.str (s!"word"),.str y,.int r5])=H6 at kT vz ox S6⊢;let k6:KeepN (λb=>H b=none/\b≠l) H2 (af H6 l (.lst (vs++[.ref t]))):=λb o nb e=>by
    rw[aM nb.2];show kT _ _ (λz=>by let⟨o',e'⟩:=S.some;rw[z,e']at nb;cases nb.1) e
   let wa:ItAt (λb=>H b=none/\b≠l) (af H6 l (.lst (vs++[.ref t]))) (.ref t) x0:=ox.keep (λb o nb e=>by rw[aM nb.2];show e) λ_ n _=>n
   let jP:=(pr.mono λv x q=>q.keep k6 λ_ n _=>n).snoc wa;let S7:StOk (af H6 l (.lst (vs++[.ref t]))) st:=by
    let⟨x,y,e,z⟩:=S6;show⟨x,y,by rw[aM (rV lst)];show e,z⟩
   let K7:Keep1 st H (af H6 l (.lst (vs++[.ref t]))):=λb o nb e=>by
    rw[aM (cH e hl)];show kT _ _ nb (K2 _ _ nb e)
   let oy:af H6 l (.lst (vs++[.ref t])) l=!.lst (vs++[.ref t]):=ar;let oz:∀x∈ah++[x0],ii x:=λx hx=>by
    rcases rG.mp hx with hx | hx
    .show ok x hx
    .have:x=x0:=‹hx›
     rw[this];show pk
   let oB:fZ (ah++[x0])=nums dn:=by
    rw[vp,nn];simp[fZ,nu]
   have oC:∃x r,ah++[x0]=x::r/\ig x=false:=by
    cases ah with
    | nil=>show⟨x0,[],O,nt⟩
    | cons a b =>
      let⟨x,r,ex,nx⟩:=h1 (by
        rcases Nat.eq_zero_or_pos i with z | z
        · show qT (h0 z) ∅
        · show z)
      cases ex
      show⟨a,b++[x0],O,nx⟩
   generalize af H6 l (.lst (vs++[.ref t]))=H7 at wa jP S7 K7 oy k6⊢;show¬⟨_,_,O,O,_,O,?_⟩;show cz (λEY=>?_) (λ_=>?_)
   case' _ =>
    let EZ:dn<n:=by
     have:=rF EY;omega
    show-⟨st,2,O,S7,{},{},λr8 H8 MD ME S8 K8=>⟨O,_,O,?_⟩⟩;let jn:=K8 _ _ lst oy;let wc:=jP.mono λv x q=>q.keep (K8.mono (N':=λb=>H b=none/\b≠l) λb nb z=>by let⟨o',e'⟩:=S.some;rw[z,e']at nb;cases nb.1) λ_ n _=>n
    show cz (λ_=>?_) (λ_=>?_)
    case' _ =>
     show-⟨.inl ⟨O,_,ag jn⟩,_,O,aT,λt9 kU=>?_⟩;let s9:=ay kU (.tup [.str (s!"note"),.int (dn:Int),.int 0]);show⟨l,_,_,O,O,s9 _ _ jn,aW (by rw[qJ,vc];simp;omega),_,O,_,_,O,O,?_⟩;let we:t9≠l:=b7 ⟨_,jn⟩ kU;let E1:ItAt (λb=>H b=none/\b≠l) (af (af H8 t9 (.tup [.str (s!"note"),.int (dn:Int),.int 0])) l (.lst (vs++[.ref t]++[.ref t9]))) (.ref t9) (.tri .note (.inr dn) 0):=⟨t9,O,⟨(K7.trans K8).back (b7 S8.some kU) kU,we⟩,by rw[aM we];show ar⟩;show⟨dn+1,_,_,ah++[x0]++[.tri .note (.inr dn) 0],O,EZ,ar,(wc.mono λv x q=>q.keep (λb o nb e=>by rw[aM nb.2];show s9 _ _ e) λ_ n _=>n).snoc E1,?_,(λz=>qT z (uW _)),?_,?_,?_,?_,?_⟩
     .intro x hx;rcases rG.mp hx with hx | hx
      .show oz x hx
      .have:x=.tri .note (.inr dn) 0:=‹hx›
       rw[this];show⟨(),(),O⟩
     .intro _;let⟨x,r,e,nx⟩:=oC;rw[e];show⟨x,_,O,nx⟩
     .rw[vp,oB,Er];rfl
     .rw[qJ,qJ];simp;omega
     .let⟨x,y,e,z⟩:=S8.same s9;show⟨x,y,by rw[aM (rV lst)];show e,z⟩
     .intro b o nb e;rw[aM (cH e hl)];show s9 _ _ (K8 _ _ nb (K7 _ _ nb e))
    .show⟨dn,_,_,ah++[x0],O,qh,jn,wc,oz,(λz=>qT z (uW _)),(λ_=>oC),oB,by rw[qJ];simp;omega,S8,K7.trans K8⟩
   .show⟨dn,_,_,ah++[x0],O,qh,oy,jP,oz,(λz=>qT z (uW _)),(λ_=>oC),oB,by rw[qJ];simp;omega,S7,K7⟩
 .rintro σ H2 ⟨dn,v,vs,ah,rfl,qh,fD,pr,ok,h0,h1,nn,le,S2,K2⟩;let vc:vs⁻¹=ah⁻¹:=pr⁻¹;let MC:0<(1+r).toNat:=()
  let⟨x1,rs,ei,ni⟩:=h1 MC;show¬⟨_,O,_,_,O,⟨(),(),(),()⟩,jO (λi ys ae H3=>(∃z,ae=[z])/\ys⁻¹=i/\Same H2 H3/\Paired (ItAt (λb=>H b=none/\b≠l) H3) ys ((nums (dn+i)).drop dn |>.map λk=>Th.tri .note (.inr k) 0)) (by have:=aW (n:=100) {};omega) ⟨⟨none,O⟩,O,Same.refl _,?_⟩ ?_ ?_⟩
  .rw[show(nums (dn+0)).drop dn=[]from by rw[List.drop_eq_nil_iff];simp[nums]];show .nil
  .ext i ys ae H3 hi ⟨⟨z,rfl⟩,e,s3,p3⟩;show-⟨aT,λt ht=>?_⟩;let s4:=ay ht (.tup [.str (s!"note"),.int ((dn:Int)+i),.int 0]);show⟨⟨_,O⟩,by rw[qJ,e];rfl,s3.trans s4,?_⟩;rw[W6];show(p3.mono λv x q=>q.keep s4.keep λ_ n _=>n).snoc ⟨t,O,⟨(K2.trans s3.keep).back (b7 (S2.same s3).some ht) ht,b7 ⟨_,s3 _ _ fD⟩ ht⟩,?_⟩;rw[ar];show some (HO.tup [.str (s!"note"),.int ((dn:Int)+i),.int 0])=!HO.tup [.str (s!"note"),.int ((dn+i:Nat):Int),.int 0];rw[Int.natCast_add]
  .ext ys ae H3 ⟨_,e,s3,p3⟩ D hD;let sD:=ay hD (.lst ys);let XA:=sD _ _ (s3 _ _ fD);show⟨l,D,_,_,O,O,XA,ar,?_,λs hs=>?_⟩
   .rw[vc,e];show xD (aW ())
   let sE:=ay hs (.lst (vs++ys));let E2:Same H2 _:=(s3.trans sD).trans sE;let en:dn+((n:Int)-dn).toNat=n:=()
   rw[en]at p3;show q s (ah++((nums n).drop dn).map λk=>Th.tri .note (.inr k) 0) _ ⟨?_,?_,?_,?_⟩ ⟨?_,vs++ys,ar,?_⟩ (S2.same E2) (K2.trans E2.keep)
   .intro x hx;rcases rG.mp hx with hx | hx
    .show ok x hx
    .let⟨k,hk,rfl⟩:=qP.mp hx;let jQ:=vO hk;let⟨j,hj,rfl⟩:=qP.mp (show k∈(List.range n).map λ(i:Nat)=>(i:Int)from jQ);have:=xC.mp hj;show⟨(),(),O⟩
   .rw[ei];show⟨x1,_,O,ni⟩
   .rw[vp,nn,W4];have:nums dn=(nums n).take dn:=W5 qh;rw[this,List.take_append_drop]
   .rw[qJ,qA,vM];have:(nums n)⁻¹=n:=by simp[nums]
    omega
   .show(K2.trans (s3.trans sD).keep).back (b7 (S2.same (s3.trans sD)).some hs) hs
   .show vq (pr.mono λv x q=>q.keep E2.keep λb n _=>n.1) (p3.mono λv x q=>q.keep (sD.trans sE).keep λb n _=>n.1)
def XB(F:Fu K "_law_add" Mw f fd)(T:Bn mg)(bI:⋯ 1 "_law_take" ["_law_stream_here", "_law_most"] im):(~~~0) 4 f fd ["_law_nodes", "_law_elder", "_law_kind", "_law_stuff", "_law_stream_here"] vy:=by
 rcases F.go ["_law_nodes", "_law_elder", "_law_kind", "_law_stuff", "_law_stream_here", "_law_letters", "_law_name", "_law_marks"] with⟨H0,p,st,s,e,k,ah,ds,rfl,G,cp,bT,q⟩;let⟨as,hp,nd⟩:=G.bk;let kW:as⁻¹=ds⁻¹:=nd⁻¹;show⟨_,(ax (sv 5 aU)
  (ax (sv 6 aU)
  (ax (ba (tc bv (cF bI hr (a2 '4' ao)) ao) (aA (sv 6 (aG DP (aG DP aU (px DV '5' (aG mq (ln T.len '0') ao))) (px DV '5' (aG DN (ln T.len '0') ao))))) bi)
  (ax (sm 7 ["_law_k"] ["_law_stream_here"] [4] (r1 T.range (cF bI hr (a2 '4' ao))) (nv 0) br (px (r:=du K) aK (bf (aO aU (a3 aU aU aU))) (cF bI hr (a2 '1' ao))))
  (ax (cI (ap '0' (bR (aO '1' (aO '2' (a3 '6' (cb (WS (by rfl) (by rfl)) T.sorted Ma (a1 (iL (WQ (by rfl)) (by rfl) T.set WX (a1 '7')))) '3'))))))
  (aA (aH (aG c9 (ln T.len '0') ao)))))))),?_⟩
 show seq_post (λae H'=>ae=[!.ref p,!.int e,!.str k.s,!.ref s,!.ref st,!.str small,none,none]/\H=H') (λD' hD=>hD _ _ ⟨O,O⟩) ?_;ext _ _ ⟨rfl,rfl⟩;show seq_post (λae H'=>ae=[!.ref p,!.int e,!.str k.s,!.ref s,!.ref st,!.str small,!.str cL,none]/\H=H') (λD' hD=>hD _ _ ⟨O,O⟩) ?_;ext _ _ ⟨rfl,rfl⟩;show seq_post (λae H'=>∃nm:Str,ae=[!.ref p,!.int e,!.str k.s,!.ref s,!.ref st,!.str small,!.str nm,none]/\NmOk ds nm/\StOk H' st/\Keep1 st H H') (λD' hD=>?_) ?_
 .show-⟨st,3,O,G.so,{},{},λr2 H2 ET EU S2 K2=>⟨O,_,O,?_⟩⟩;show cz (λ_=>?_) (λ_=>?_)
  .let fG:=K2 _ _ G.pne hp;let ec:=Mp (n:=ds⁻¹ % 26) ();let ed:=Mp (n:=ds⁻¹ / 26) ();show¬⟨p,_,O,.inl (ag fG),?_⟩;rw[qA,kW];show⟨_,_,O,O,(by show(0:Int)<26;decide),_,_,_,O,O,Mb,ec,_,_,O,O,aT,_,O,_,O,p,_,O,.inl (ag fG),?_⟩;rw[qA,kW];show⟨_,_,O,O,⟨{},{}⟩,_,_,_,O,O,Mb,ed,_,_,O,O,aT,?_⟩;show hD _ _ ⟨_,O,.inr ⟨bT,O⟩,S2,K2⟩
  .show hD _ _ ⟨cL,O,.inl O,S2,K2⟩
 ext _ H1 ⟨nm,rfl,nk,S3,K13⟩;show-⟨st,3,O,S3,{},{},λr4 H4 ot ou S4 K4=>-⟨(),(),jO (λi ys ae H5=>∃ks:TV,ys=ks.map V.str/\ks⁻¹=i/\(∀x∈ks,x∈vt)/\(∃z,ae=[z,!.ref st])/\StOk H5 st/\Keep1 st H4 H5) (aW ()) ⟨[],O,O,(λx hx=>nomatch hx),⟨none,O⟩,S4,KeepN.refl⟩ ?_ ?_⟩⟩
 .ext i ys ae H5 hi ⟨ks,rfl,e5,mk,⟨z,rfl⟩,S5,K5⟩;show⟨aT,λt ht=>?_⟩;let s5:=ay ht (.lst (vt.map V.str));show-⟨st,4,O,S5.same s5,{},{},λr6 H6 MF MG S6 K6=>?_⟩;let⟨y,ey,my⟩:=EN (nms:=vt) MF MG;show⟨t,_,_,_,O,O,ag (K6 _ _ (b7 S5.some ht) ar),ey,ks++[y],by rw[qD];rfl,by rw[qJ,e5];rfl,λx hx=>?_,⟨_,O⟩,S6,(K5.trans s5.keep).trans K6⟩;rcases rG.mp hx with hx | hx
  .show mk x hx
  .have:x=y:=‹hx›
   rw[this];show my
 .ext ys ae H5 ⟨ks,rfl,e5,mk,_,S5,K5⟩ D hD;let sD:=ay hD (.lst (ks.map V.str));show-⟨.inl ⟨O,_,ag (sD _ _ (K5 _ _ G.pne (K4 _ _ G.pne (K13 _ _ G.pne hp))))⟩,_,O,_,O,_,O,_,O,D,ks,O,ag ar,by unfold scanBound;omega,λd6 XC=>?_⟩;let s6:=ay XC (jk w d6 (dy ks));show⟨d6,dy ks,O,ar,?_,λm ms hm pm so=>?_⟩
  .have:=Xc ks;omega
  show-⟨aT,λa ha=>?_⟩;let s7:Same (af (af H5 D (.lst (ks.map V.str))) d6 (jk w d6 (dy ks))) (af (af (af H5 D (.lst (ks.map V.str))) d6 (jk w d6 (dy ks))) m (.lst (ms.map V.str))):=ay hm (.lst (ms.map V.str));let S7:StOk (af (af (af H5 D (.lst (ks.map V.str))) d6 (jk w d6 (dy ks))) m (.lst (ms.map V.str))) st:=S5.same ((sD.trans s6).trans s7);let KC:Keep1 st H _:=(K13.trans K4).trans (K5.trans (sD.trans s6).keep);let K17:Keep1 st H (af (af (af H5 D (.lst (ks.map V.str))) d6 (jk w d6 (dy ks))) m (.lst (ms.map V.str))):=(K13.trans K4).trans (K5.trans ((sD.trans s6).trans s7).keep);let XD:gz H0 p m:=G.fresh (KC.back (b7 (S5.same (sD.trans s6)).some hm) hm);let em:af (af (af H5 D (.lst (ks.map V.str))) d6 (jk w d6 (dy ks))) m (.lst (ms.map V.str)) m=!.lst (ms.map V.str):=ar;replace ha:af (af (af H5 D (.lst (ks.map V.str))) d6 (jk w d6 (dy ks))) m (.lst (ms.map V.str)) a=none:=ha;let G1:=G.keep1 K17 S7;let Bq:=K17 _ _ G.pne hp;let XE:=nd.keep (N':=gz H0 p) (K17.mono λb n=>G.nst n) λ_ n _=>n
  let s2:=ay ha (.tup [.int e,.str k.s,.str nm,.ref m,.ref s]);let G2:=G1.same s2;let fG:=s2 _ _ Bq;let XF:=XE.keep (N':=gz H0 p) s2.keep λ_ n _=>n
  show⟨p,_,_,O,O,fG,aW (by rw[qA];omega),?_⟩;let na:NdAt (gz H0 p) (af (af (af (af H5 D (.lst (ks.map V.str))) d6 (jk w d6 (dy ks))) m (.lst (ms.map V.str))) a (.tup [.int e,.str k.s,.str nm,.ref m,.ref s])) a ⟨e,k,nm,ms,ah⟩:=⟨G1.fresh ha,m,s,ar,XD,s2 _ _ em,(cp.keep (N':=gz H0 p) (K17.mono λb n=>G.nst n) λ_ n _=>n).keep s2.keep λ_ n _=>n⟩;let G3:=G2.push fG XF na;show-⟨p,_,O,.inl (ag ar),_,_,O,O,?_⟩;let el:((↑as++[V.ref a])⁻¹:Int)-1=ds⁻¹:=by
   rw[qJ,qA,kW];simp
  show Q (.int (((↑as++[V.ref a])⁻¹:Int)-1)) _;rw[el];show q ⟨e,k,nm,ms,ah⟩ _ O O O (Xa mk () pm so) nk G3 λb o n eb=>?_
  rw[aM n.2];show s2 _ _ (K17 _ _ n.1 eb)
def XG(F:Fu K "_law_text" Mx f fd)(T:Bn mg)(bI:⋯ 1 "_law_take" ["_law_stream_here", "_law_most"] im)(MH:⋯ 3 "_law_pieces" ["_law_stream_here", "_law_notes", "_law_names"] EK)(oD:⋯ 4 "_law_add" ["_law_nodes", "_law_elder", "_law_kind", "_law_stuff", "_law_stream_here"] vy):(~~~0) 5 f fd ["_law_nodes", "_law_elder", "_law_kind", "_law_stream_here"] Bl:=by
 rcases F.go ["_law_nodes", "_law_elder", "_law_kind", "_law_stream_here", "_law_names", "_law_notes", "_law_at", "_law_k"] with⟨H0,p,st,e,lv,k,ds,rfl,G,hk,bT,XH,oq,nms,q⟩;let⟨as,hp,nd⟩:=G.bk;let kW:as⁻¹=ds⁻¹:=nd⁻¹;let zl:(↑as)⁻¹<sizeLine:=by rw[qA];show aW ()
 show⟨_,(ax (sv 4 (aG uu (cm ["_law_row"] [] [] (bc '0') (nv 0) (h9 (tc jc (px (r:=bZ K) aF '0' ao) aU)) (px (r:=bZ K) aF '0' ao)) (bf (a1 aU))))
  (ax (sv 5 (px aK (bf (aO ao (aO ao (a3 ao ao ao)))) (cF bI hr (a2 '3' ao))))
  (ax (sv 6 (cF oD hr (aO '0' (aO '1' (a3 '2' (cF MH hr (a3 '3' '5' '4')) '3')))))
  (aA (fv (r1 T.range '5') (nv 7)
  (aA (cI (cF oD hr (aO '0' (aO '6' (a3 aU (cF MH hr (a3 '3' ao '4')) '3'))))))))))),?_⟩
 show-⟨p,O,⟨_,ag hp⟩,bB (λi ys ae H'=>H'=H/\ys=(((ds.take i).filter λd=>d.nm≠cL).map (·.nm)).map V.str/\∃z,ae=[z]) zl ⟨O,O,none,O⟩ ?_ ?_ ?_⟩
 .ext i ys ae H' hi ⟨rfl,rfl,_⟩;show ag hp
 .ext i x ys ae H' hx ⟨rfl,rfl,z,rfl⟩;let⟨a,ea,rfl⟩:=cJ hx;let⟨d,ed,na,m,s',ha,_⟩:=nd.at ea;show-⟨a,_,_,_,O,O,aC ha,O,O,_,O,?_⟩;let et:ds.take (i+1)=ds.take i++[d]:=by rw[qO,ed];rfl
  by_cases hd:d.nm=cL
  .rw[qR (show V.str d.nm=V.str (s!"")from xH V.str hd)];show bj ?_;show⟨O,?_,_,O⟩;rw[et,rS];simp[hd]
  .rw[qV (show¬V.str d.nm=V.str (s!"")from λz=>hd (V.str.inj z))];show bK ?_;show-⟨a,_,_,_,O,O,aC ha,O,O,?_,_,O⟩;rw[et,rS];simp[hd]
 ext ys ae H' ⟨rfl,rfl,z,rfl⟩ N0 MI;rw[qA,kW,yD];let fn:∀x∈(ds.filter λd=>d.nm≠cL).map (·.nm),Name x:=λx hx=>by
  let⟨d,hd,rfl⟩:=qP.mp hx;let⟨h1,h2⟩:=rY.mp hd;rcases oq d h1 with z | z
  .show qT z ‹h2›
  .show z
 let fl:((ds.filter λd=>d.nm≠cL).map (·.nm))⁻¹<=ds⁻¹:=by rw[qA];show yG _ _
 generalize (ds.filter λd=>d.nm≠cL).map (·.nm)=nn at fn fl⊢;let s1:=ay MI (.lst (nn.map V.str));show⟨aT,λt ht=>?_⟩;let s2:=s1.trans (ay ht (.lst [V.str (s!"nowhere")]));let e1:af (af H' N0 (.lst (nn.map V.str))) t (.lst [V.str (s!"nowhere")]) N0=!.lst (nn.map V.str):=(ay ht _) _ _ ar;show⟨N0,t,_,_,O,O,e1,ar,?_,λN hN=>?_⟩
 .rw[qA];show xD (aW (by show nn⁻¹+1<=1000;omega))
 let eN:nn.map V.str++[V.str (s!"nowhere")]=(nn++[s!"nowhere"]).map V.str:=by rw[qD];rfl
 rw[eN];let s3:=s2.trans (ay hN (.lst ((nn++[s!"nowhere"]).map V.str)));let E3:af (af (af H' N0 (.lst (nn.map V.str))) t (.lst [V.str (s!"nowhere")])) N (.lst ((nn++[s!"nowhere"]).map V.str)) N=!.lst ((nn++[s!"nowhere"]).map V.str):=ar;let mn:∀x∈nn++[s!"nowhere"],Name x:=λx hx=>by
  rcases rG.mp hx with hx | hx
  .show fn x hx
  .have:x=s!"nowhere":=‹hx›
   rw[this];show Xe
 let ml:(nn++[s!"nowhere"])⁻¹<=1000:=by rw[qJ];show nn⁻¹+1<=1000;omega
 let me:nn++[s!"nowhere"]≠[]:=∅
 generalize nn++[s!"nowhere"]=nx at E3 mn ml me s3⊢;generalize af (af (af H' N0 (.lst (nn.map V.str))) t (.lst [V.str (s!"nowhere")])) N (.lst (nx.map V.str))=H1 at E3 s3⊢;let G1:=G.same s3;let nst:N≠st:=b7 (G.so.same s2).some hN;let np:N≠p:=b7 ⟨_,s2 _ _ hp⟩ hN;clear e1 s1 s2 eN hN ht MI fn fl;show⟨aT,λt2 wf=>?_⟩;let s4:=ay wf (.lst [V.int 0,V.int 0,V.int 1,V.int 0,V.int 2]);show-⟨st,5,O,G1.so.same s4,{},{},λr5 H5 EW EX S5 K5=>?_⟩;let⟨n,n2,en⟩:=Xf EW EX;show⟨t2,_,_,_,O,O,ag (K5 _ _ (b7 G1.so.some wf) ar),en,?_⟩;let K15:Keep1 st H1 H5:=s4.keep.trans K5;let G5:=G1.keep1 K15 S5;let MJ:=K15 _ _ nst E3;show¬⟨_,O,_,O,_,O,_,O,st,N,n,nx,O,S5,n2,nst,MJ,me,ml,mn,λs6 ah H6 pc sa S6 K6=>?_⟩;let G6:=G5.keep1 K6 S6;show-⟨H0,p,st,s6,e,k,ah,ds,O,G6,sa.keep (N':=gz H0 p) KeepN.refl λb nb _=>G5.fresh nb,(),λd H7 de dk oE dm dn G7 K7=>?_⟩;let XJ:=K7 _ _ ⟨nst,np⟩ (K6 _ _ nst MJ);let K17:f' st p H' H7:=((s3.keep.trans K15.two).trans K6.two).trans K7;show¬⟨(),(),gY (λi σ H8=>∃(da:List Nd) (v:Option V),σ=[!.ref p,!.int e,!.str k.s,!.ref st,!.ref N,!.int n,!.int ds⁻¹,v]/\da⁻¹=i/\Gs H0 st p H8 (ds++(d::da)) /\
  (∀c∈da,c.e=(ds⁻¹:Int)/\c.k=.note/\vf 0 c.st/\kO c.mks/\(c.nm=cL\/Name c.nm))/\Names (ds++(d::da))/\H8 N=!.lst (nx.map V.str)/\f' st p H' H8)
  ⟨[],none,O,O,G7,(λc hc=>nomatch hc),vx nms dn,XJ,K17⟩ ?_ ?_⟩
 .ext i σ H8 hi ⟨da,v,rfl,ln,G8,hc,na,qi,K8⟩;show¬⟨_,O,_,O,st,N,0,nx,O,G8.so,{},nst,qi,me,ml,mn,λs9 XM H9 XN XO S9 K9=>?_⟩;let G9:=G8.keep1 K9 S9;let l9:(ds++(d::da))⁻¹<=200:=by rw[qJ,rH];omega
  show-⟨H0,p,st,s9,(ds⁻¹:Int),.note,XM,ds++(d::da),O,G9,XO.keep (N':=gz H0 p) KeepN.refl λb nb _=>G8.fresh nb,l9,λc HA ce ck XQ cm cn GA KA=>?_⟩;let ea:ds++(d::da)++[c]=ds++(d::(da++[c])):=∅
  rw[ea]at GA;show⟨da++[c],_,O,by rw[qJ,ln];rfl,GA,λc' eO=>?_,by rw[<-ea];show vx na cn,KA _ _ ⟨nst,np⟩ (K9 _ _ nst qi),(K8.trans K9.two).trans KA⟩;rcases rG.mp eO with h | h
  .show hc c' h
  .have:c'=c:=‹h›
   subst this;show⟨ce,ck,by rw[XQ];show XN,cm,cn.or⟩
 .ext σ H8 ⟨da,v,rfl,ln,G8,hc,na,qi,K8⟩;show q (d::da) H8 (Xp hk XH de dk (by rw[oE];show pc) dm dn () hc na) ?_ G8 K8;rw[rH];omega
def XR{n:Nat}(F:Fu K "_law_item" My f fd)(T:Bn mg)(bI:⋯ 1 "_law_take" ["_law_stream_here", "_law_most"] im)(oD:⋯ 4 "_law_add" ["_law_nodes", "_law_elder", "_law_kind", "_law_stuff", "_law_stream_here"] vy)(MK:⋯ 5 "_law_text" ["_law_nodes", "_law_elder", "_law_kind", "_law_stream_here"] Bl)(wg:⋯ (6+n) "_law_item" ["_law_nodes", "_law_elder", "_law_level", "_law_room_here", "_law_stream_here"] (spItem n)):(~~~0) (6+n+1) f fd ["_law_nodes", "_law_elder", "_law_level", "_law_room_here", "_law_stream_here"] (spItem (n+1)):=by
 rcases F.go ["_law_nodes", "_law_elder", "_law_level", "_law_room_here", "_law_stream_here", "_law_kinds", "_law_sides", "_law_kind", "_law_at", "_law_k"] with⟨H0,p,st,e,lv,lw,R,de,ds,rfl,G,MM,Bt,l1,l4,lvw,lwv,hn,wj,bT,oq,nms,q⟩;show⟨_,(ax (sv 5 (bf (aO aU (aO aU (aO aU (aO aU (aO aU (a3 aU aU aU))))))))
  (ax (sv 6 (UV (ec bv (px aF (px aK '0' '1') ao) aU) (Kf (ec bv (px aF (px aK '0' '1') ao) aU))))
  (ax (sv 7 (px aK '5' (cF bI hr (a2 '4' (px aK (bf (a2 ao ao)) (iL AR (by rfl) T.int Bh (a1 '6')))))))
  (ax (ba (PW.pt (jH (PW.pt (gX (tc bv '7' aU) (i9 (tc bv (px aF (px aK '0' '1') ao) aU)))) (kF (PW.pt (gX (tc gZ '2' ao) (i9 (tc AV '7' (bf (a3 aU aU aU))))))))) (aA (sv 7 aU)) bi)
  (ax (ba (PW.pt (gX (tc AQ (ln T.len '0') '3') (i9 (tc AV '7' (bf (a3 aU aU aU)))))) (aA (sv 7 aU)) bi)
  (ax (ba (PW.pt (jH (tc bv '7' aU) (kF (tc bv '7' aU)))) (aA (cI (cF MK hr (aO '0' (a3 '1' '7' '4'))))) (aA (ba (tc bv '7' aU) (aA (cI (cF oD hr (aO '0' (aO '1' (a3 '7' (bf (a2 (aG a9 ao (cF bI hr (a2 '4' ao))) (aG a9 ao (cF bI hr (a2 '4' ao))))) '4')))))) (ax (sv 8 (cF oD hr (aO '0' (aO '1' (a3 '7' (bf bX) '4')))))
  (aA (fv (r1 T.range (aG a9 (cF bI hr (a2 '4' ao)) (iL AR (by rfl) T.int Bh (a1 (ec jc '7' aU))))) (nv 9)
  (aA (cI (cF wg hr (aO '0' (aO '8' (a3 (aG a9 '2' ao) '3' '4'))))))))))))
  (aA (ba (tc bv '7' aU) (aA (cI (cF MK hr (aO '0' (a3 '1' aU '4'))))) bi)))))))),?_⟩
 show⟨aT,λkl qj=>?_⟩;let s1:=ay qj (.lst (on.map λk=>V.str k.s));let G1:=G.same s1;let e7:af H kl (.lst (on.map λk=>V.str k.s)) kl=!.lst (on.map λk=>V.str k.s):=ar;let wl:kl≠st:=b7 G.so.some qj;let kp:kl≠p:=b7 G.psome qj;let K1:f' st p H (af H kl (.lst (on.map λk=>V.str k.s))):=s1.keep;dsimp only[aY];show nV _ _ _ [!.ref p,!.int e,!.int lv,!.int R,!.ref st,!.ref kl,none,none,none,none] (af H kl (.lst (on.map λk=>V.str k.s)));generalize af H kl (.lst (on.map λk=>V.str k.s))=H1 at s1 G1 e7 K1⊢;let⟨as,hp,nd⟩:=G1.bk;let⟨a,ea,na⟩:=nd.get MM;let⟨m,s',ha,_⟩:=na.ex;show seq_post (λae H'=>∃sd:Bool,ae=[!.ref p,!.int e,!.int lv,!.int R,!.ref st,!.ref kl,!.bl sd,none,none,none]/\H1=H'/\(sd=true↔de.k=.shelf\/de.k=.grid)) (λD' hD=>?_) ?_
 .show¬⟨p,_,_,_,O,O,ag hp,aX ea,a,_,_,_,O,O,aC ha,O,O,_,O,?_⟩;rw[show decide (V.str de.k.s=V.str (s!"shelf"))=decide (de.k=.shelf)from bH de.k .shelf];show cz (λc=>?_) (λc=>?_)
  .show hD _ _ ⟨true,O,O,⟨λ_=>.inl (rF c),λ_=>rfl⟩⟩
  .show¬⟨p,_,_,_,O,O,ag hp,aX ea,a,_,_,_,O,O,aC ha,O,O,?_⟩;rw[show decide (V.str de.k.s=V.str (s!"grid"))=decide (de.k=.grid)from bH de.k .grid];show hD _ _ ⟨decide (de.k=.grid),O,O,⟨λz=>.inr (rF z),λz=>?_⟩⟩;rcases z with z | z
   .show qT (qR z) c
   .show qR z
 ext _ _ ⟨sd,rfl,rfl,EQ⟩;show seq_post (λae H'=>∃k:Kd,ae=[!.ref p,!.int e,!.int lv,!.int R,!.ref st,!.ref kl,!.bl sd,!.str k.s,none,none]/\Keep1 st H1 H'/\StOk H' st/\EO de.k k) (λD' hD=>?_) ?_
 .show¬⟨aT,λt ht=>?_⟩;let s2:=ay ht (.lst [V.int 8,V.int 6]);show-⟨.inr ⟨sd,O,t,_,_,_,O,O,ag ar,Xl sd,st,_,O,G1.so.same s2,by split<;>decide,by split<;>decide,λr H3 r0 r1 S3 K3=>?_⟩⟩;let r8:r<8:=by revert r1;split<;>omega
  let⟨k,ek,hk⟩:=Xh r0 r8;show⟨kl,_,_,_,O,O,ag (K3 _ _ wl (s2 _ _ e7)),ek,?_⟩;show hD _ _ ⟨k,O,s2.keep.trans K3,S3,Xi Bt EQ r1 hk⟩
 ext _ H3 ⟨k0,rfl,K13,S3,E4⟩;let G3:=G1.keep1 K13 S3;let K03:f' st p H H3:=K1.trans K13.two;let⟨as3,Bp,XS⟩:=G3.bk;let⟨a3,XT,XU⟩:=XS.get MM;let⟨m3,s3',E5,_⟩:=XU.ex;show seq_post (λae H'=>∃k:Kd,ae=[!.ref p,!.int e,!.int lv,!.int R,!.ref st,!.ref kl,!.bl sd,!.str k.s,none,none]/\Same H3 H'/\fF de.k k=true/\(3<lv->kR k)/\(k=.text\/k=.picture\/k=.case\/k=.shelf\/k=.grid\/k=.head\/k=.aside)) (λD' hD=>?_) ?_
 .refine Mh (λb H'=>Same H3 H'/\(b=false->fF de.k k0=true/\(3<lv->kR k0))) (λQ' hQ=>?_) (λb H' hb=>?_)
  .refine-⟨O,_,O,?_⟩;rw[show decide (V.str k0.s=V.str (s!"aside"))=decide (k0=.aside)from bH k0 .aside];let MN:∀(b1:Bool),(b1=false->fF de.k k0=true)->if b1=true then Q' true H3 else J7 (tY (eQ (jb λi j=>.bl (decide (j<i))) (jE 2) (tC (.int 3)))) (tY (eQ (AU K true) (jE 7) (pW (eC (tC (.str (s!"text"))) (eC (tC (.str (s!"head"))) (eC (tC (.str (s!"picture"))) je))))))
     [!.ref p,!.int e,!.int lv,!.int R,!.ref st,!.ref kl,!.bl sd,!.str k0.s,none,none] H3 Q':=by
    intro b1 hm;cases b1 with
    | true=>show bK (hQ _ _ ⟨Same.refl _,(λz=>nomatch z)⟩)
    | false =>
      show bj ⟨_,O,_,_,O,O,_,O,?_⟩
      show cz (λc=>?_) (λc=>?_)
      · show-⟨aT,λt ht=>⟨t,Bj.map (λk=>V.str k.s),O,.inl (ag ar),O,O,_,O,?_⟩⟩
        show hQ _ _ ⟨ay ht _,λz=>⟨hm O,λ_=>?_⟩⟩
        rw[qX O,Mj]at z
        simpa using z
      · show hQ _ _ ⟨Same.refl _,λ_=>⟨hm O,λz=>qT (qR (show(3:Int)<(lv:Int) by omega)) c⟩⟩
   show cz (λc=>?_) (λc=>?_)
   .show¬⟨p,_,_,_,O,O,ag Bp,aX XT,a3,_,_,_,O,O,aC E5,O,O,_,O,?_⟩;rw[show decide (V.str de.k.s=V.str (s!"aside"))=decide (de.k=.aside)from bH de.k .aside];show MN _ λz=>?_
    rcases E4.1 with y | y
    .show y
    .show qT y.2 (of_decide_eq_false z)
   .show MN false λ_=>?_
    rcases E4.1 with y | y
    .show y
    .show qT (qR y.1) c
  .let⟨sb,hb⟩:=hb;cases b with
   | true=>show bK (hD _ _ ⟨.text,O,sb,Mk Bt,(λ_=>.inl O),.inl O⟩)
   | false=>show bj (hD _ _ ⟨k0,O,sb,(hb O).1,(hb O).2,E4.2⟩)
 ext _ H4 ⟨k1,rfl,fI,XV,XW,cN⟩;let G4:=G3.same fI;let K04:f' st p H H4:=K03.trans fI.keep;let⟨XX,EV,wm⟩:=G4.bk;let XY:XX.length=ds⁻¹:=wm⁻¹;show seq_post (λae H'=>∃k:Kd,ae=[!.ref p,!.int e,!.int lv,!.int R,!.ref st,!.ref kl,!.bl sd,!.str k.s,none,none]/\Same H4 H'/\Xk de.k k lv R ds⁻¹) (λD' hD=>?_) ?_
 .show Mh (λb H'=>Same H4 H'/\(b=false->R<=ds⁻¹->kR k1)) (λQ' hQ=>?_) (λb H' hb=>?_)
  .show-⟨p,_,O,.inl (ag EV),_,O,_,_,O,O,_,O,?_⟩;show cz (λc=>?_) (λc=>?_)
   .show-⟨aT,λt ht=>⟨t,Bj.map (λk=>V.str k.s),O,.inl (ag ar),O,O,_,O,?_⟩⟩;show hQ _ _ ⟨ay ht _,λz _=>?_⟩;rw[qX O,Mj]at z;simpa using z
   .show hQ _ _ ⟨Same.refl _,λ_ z=>qT (qR ?_) c⟩;rw[qA,XY];omega
  .let⟨sb,hb⟩:=hb;cases b with
   | true=>show bK (hD _ _ ⟨.picture,O,sb,Xj Bt,(λ_=>.inr (.inr O)),(λ_=>.inr (.inr O)),.inr (.inl O)⟩)
   | false=>show bj (hD _ _ ⟨k1,O,sb,XV,XW,hb O,cN⟩)
 ext _ H5 ⟨k2,rfl,kX,gC⟩;let G5:=G4.same kX;let K05:f' st p H H5:=K04.trans kX.keep;let notA:∀(k:Kd),k≠.aside->decide (V.str k.s=V.str (s!"aside"))=false:=λk hk=>by
  rw[show decide (V.str k.s=V.str (s!"aside"))=decide (k=.aside)from bH k .aside];show qV hk
 show seq_post (λae H'=>∃(more:List Nd) (v8 v9:Option V),ae=[!.ref p,!.int e,!.int lv,!.int R,!.ref st,!.ref kl,!.bl sd,!.str k2.s,v8,v9]/\More e lw ds more [k2]/\(R<=ds⁻¹->more⁻¹<=3)/\(ds⁻¹<R->ds⁻¹+more⁻¹+(if k2=.aside then 3 else 0)<=iP R lv)/\ds⁻¹+more⁻¹<=103/\(k2=.aside->ds⁻¹<R)/\Gs H0 st p H' (ds++more)/\f' st p H5 H') (λD' hD=>?_) ?_
 .have oF:(k2=.text\/k2=.head)->Bl ([.ref p,.int e,.str k2.s,.ref st]++[]) H5 (λ_ H'=>D'.nx [!.ref p,!.int e,!.int lv,!.int R,!.ref st,!.ref kl,!.bl sd,!.str k2.s,none,none] H') E0:=λhk=>by
   let na:k2≠.aside:=by rcases hk with rfl | rfl<;>decide
   show⟨H0,p,st,e,lw,k2,ds,O,G5,hk,(),(),oq,nms,λmore H6 mo m3 G6 K6=>?_⟩;show hD _ _ ⟨more,none,none,O,mo,(λ_=>m3),(λz=>?_),(),(λz=>qT z na),G6,K6⟩;rw[qY na];have:=Ml (R:=R) (lv:=lv) z;omega
  show-⟨O,_,O,?_⟩;rw[show decide (V.str k2.s=V.str (s!"text"))=decide (k2=.text)from bH k2 .text];show cz (λc=>?_) (λc=>?_)
  .show bK ⟨_,O,_,O,_,O,_,O,oF (.inl (rF c))⟩
  show-⟨O,_,O,?_⟩;rw[show decide (V.str k2.s=V.str (s!"head"))=decide (k2=.head)from bH k2 .head];show cz (λc2=>?_) (λc2=>?_)
  .show¬⟨_,O,_,O,oF (.inr (rF c2))⟩
  show-⟨O,_,O,?_⟩;rw[show decide (V.str k2.s=V.str (s!"picture"))=decide (k2=.picture)from bH k2 .picture];show cz (λc3=>?_) (λc3=>?_)
  ·-- a picture
   let E6:k2=.picture:=rF c3;show¬⟨_,O,_,O,st,60,O,G5.so,{},{},λr6 H6 MF MG S6 K6=>⟨_,_,O,O,_,O,st,60,O,S6,{},{},λr7 H7 r70 r71 S7 K7=>⟨_,_,O,O,aT,λt ht=>?_⟩⟩⟩;let s8:=ay ht (.lst [.int (1+r6),.int (1+r7)]);let K58:Keep1 st H5 _:=(K6.trans K7).trans s8.keep;let G8:=G5.keep1 K58 (S7.same s8);show-⟨H0,p,st,t,e,k2,[.int (1+r6),.int (1+r7)],ds,O,G8,⟨(G5.keep1 (K6.trans K7) S7).fresh ht,_,ar,.cons O (.cons O .nil)⟩,(),λd H9 E7 dk oE dm dn G9 K9=>?_⟩;show hD _ _ ⟨[d],none,none,O,by rw[E6]at dk⊢;show Xr E7 () dk oE ⟨(),()⟩ ⟨(),()⟩ dm dn nms,(λ_=>∅),(λz=>?_),by simp;omega,(λz=>by rw[E6]at z;cases z),G9,K58.two.trans K9⟩;rw[E6,qY {}];have:=Ml (R:=R) (lv:=lv) z;simp;omega
  ·-- a box
   let hb:k2=.case\/k2=.shelf\/k2=.grid\/k2=.aside:=by
    let n1:k2≠.text:=λz=>c (qR z)
    let n2:k2≠.head:=λz=>c2 (qR z)
    let n3:k2≠.picture:=λz=>c3 (qR z)
    rcases gC.one with h | h | h | h | h | h | h<;>simp_all
   let nl:¬kR k2:=by rcases hb with h | h | h | h<;>rw[h]<;>decide
   let XZ:lv<=3:=xQ λz=>nl (gC.lvl z)
   let hR:ds⁻¹<R:=Nat.lt_of_not_le λz=>nl (gC.room z)
   let X0:mG k2:=by rcases hb with h | h | h | h<;>rw[h]<;>simp[mG]
   show¬⟨_,O,aT,λt ht=>?_⟩;let s6:=ay ht (.lst []);show-⟨H0,p,st,t,e,k2,[],ds,O,G5.same s6,⟨G5.fresh ht,_,ar,.nil⟩,(),λd H7 E7 dk oE dm dn G7 K7=>?_⟩;let K57:f' st p H5 H7:=s6.keep.trans K7;show-⟨st,3,O,G7.so,{},{},λr8 H8 MD ME S8 K8=>-⟨O,.inr ⟨_,O,_,_,O,O,?_⟩⟩⟩;rw[show decide (V.str k2.s=V.str (s!"case"))=decide (k2=.case)from bH k2 .case];let G8:=G7.keep1 K8 S8;let cnt:∃c:Nat,r8+(if((Bool.not (decide (k2=Kd.case))))=true then 1 else 0)=(c:Int)/\c<=3/\(k2≠.case->1<=c):=by
    show⟨(r8+(if((Bool.not (decide (k2=Kd.case))))=true then 1 else 0)).toNat,?_,?_,λz=>?_⟩
    .split<;>omega
    .split<;>omega
    .rw[qV z];simp;omega
   let⟨c,ec,X1,c1⟩:=cnt;show⟨(c:Int),xH (λz=>[V.int z]) ec,(),(),gY (λj σ H9=>∃(sub:List Nd) (ks:List Kd) (v:Option V),σ=[!.ref p,!.int e,!.int lv,!.int R,!.ref st,!.ref kl,!.bl sd,!.str k2.s,!.int ds⁻¹,v]/\Kids ds⁻¹ lw k2 (ds++[d]) sub ks/\(0<j->ks≠[])/\jm R lv j (ds⁻¹+1+sub⁻¹)/\Gs H0 st p H9 (ds++[d]++sub)/\f' st p H5 H9)
    ⟨[],[],none,O,⟨.nil,(λd hd=>nomatch hd),by rw[rZ];show vx nms dn,by rw[rZ];show Mq oq dn,(λc hc=>nomatch hc),trivial⟩,(λz=>qT z (rQ 0)),.inl (by simp;omega),by rw[rZ];show G8,K57.trans K8.two⟩ ?_ ?_⟩
   .ext j σ H9 hj ⟨sub,ks,v,rfl,kids,kY,cb,G9,K9⟩;let j3:j<3:=by simp at hj;omega
    let l9:(ds++[d]++sub)⁻¹=ds⁻¹+1+sub⁻¹:=by rw[qJ,qJ];rfl
    let MO:=Mn cb () wj;show¬⟨_,O,_,_,O,O,_,O,_,O,H0,p,st,ds⁻¹,lv+1,lw+1,R,d,ds++[d]++sub,O,G9,?_,by rw[dk];show X0,(),(),(),(),(),wj,(),kids.ok,kids.nm,λmore ca HA mo ik m3 mc GA KA=>?_⟩
    .rw[xM,rL (qG _)];simp
    rw[dk]at ik;show⟨sub++more,ks++ca,_,O,kids.more l9 mo ik,(λ_=>by have:=ik.ne;simp[this]),?_,by rw[<-xM];show GA,K9.trans KA⟩;show Mm cb (λz=>?_) (λz=>?_)
    .have:=m3 ();rw[qJ];omega
    .have:=mc ();rw[qJ];omega
   .ext σ H9 ⟨sub,ks,v,rfl,kids,kY,cb,G9,K9⟩;let cc:((c:Int)).toNat<=3:=‹X1›
    let cb':=Xm cb cc l1 XZ;let MO:=Mn cb cc wj;let ee:ds++(d::sub)=ds++[d]++sub:=∅
    show hD _ _ ⟨d::sub,_,v,O,?_,(λz=>qT z ()),(λ_=>?_),by rw[rH];omega,(λ_=>hR),by rw[ee];show G9,K9⟩
    .have:=Mr (lv:=lw) E7 () (by rw[dk];show hb) oE dm dn (by rw[dk];show kids) (by rw[dk];show λz=>kY (by have:=c1 z;simp;omega));rw[dk]at this;show this
    .rw[rH]
     split<;>omega
 ext _ H6 ⟨more,v8,v9,rfl,mo,m3,mc,ml,hA,G6,K6⟩;let K06:f' st p H H6:=K05.trans K6;show-⟨O,_,O,?_⟩;rw[show decide (V.str k2.s=V.str (s!"aside"))=decide (k2=.aside)from bH k2 .aside];show cz (λc=>?_) (λc=>?_)
 .let hk:k2=.aside:=rF c;show¬⟨_,O,H0,p,st,e,lw,.text,ds++more,O,G6,.inl O,by rw[qJ];omega,(),mo.nms oq,mo.nm,λX2 H7 X3 m3' G7 K7=>?_⟩;let hR:=hA hk;let X4:=mc hR;rw[qX hk]at X4;show q (more++X2) ([k2]++[.text]) H7 (mo.cat X3) (.inr ⟨by rw[hk];rfl,by rw[<-hk];show gC.may,Mk Bt⟩) (λz=>qT z ()) (λ_=>by rw[qJ];omega) (by rw[<-xM];show G7) (K06.trans K7)
 .let hk:k2≠.aside:=λz=>c (qR z)
  show q more [k2] H6 mo (.inl ⟨k2,O,hk,gC.may⟩) m3 (λz=>?_) G6 K06;have:=mc z;rw[qY hk]at this;omega
def X5(F:Fu K "_law_book" Mz f fd)(T:Bn mg)(wg:⋯ 10 "_law_item" ["_law_nodes", "_law_elder", "_law_level", "_law_room_here", "_law_stream_here"] (spItem 4)):(~~~0) 11 f fd ["_law_stream_here", "_law_many", "_law_room_here"] spBook:=by
 rcases F.go ["_law_stream_here", "_law_many", "_law_room_here", "_law_nodes", "_law_k"] with⟨st,m,R,rfl,S,m1,m4,R1,wj,q⟩;let hu:=hr.units;show⟨_,(ax (sv 3 (bf (a1 (bR (aO (dJ dL ao) (aO aU (a3 aU (bf bX) (bf bX))))))))
  (ax (fv (r1 T.range '1') (nv 4)
  (aA (cI (cF wg hr (aO '3' (aO ao (a3 ao '2' '0')))))))
  (aA (aH '3')))),?_⟩
 show-⟨aT,λmk MP=>⟨aT,λsf wn=>⟨aT,λa ha=>⟨aT,λp hp=>?_⟩⟩⟩⟩;let s1:=ay MP (.lst []);let s2:=ay wn (.lst []);let s3:=ay ha (.tup [.int (-1),.str (s!"body"),.str (s!""),.ref mk,.ref sf]);let s4:=ay hp (.lst [V.ref a]);let gE:Same H _:=((s1.trans s2).trans s3).trans s4;let fr:∀{H':Hp} {b:Addr},Same H H'->H' b=none->H b=none:=λss hb=>ss.free hb
 let Bu:H p=none:=((s1.trans s2).trans s3).free hp;let G1:Gs H st p (af (af (af (af H mk (.lst [])) sf (.lst [])) a (.tup [.int (-1),.str (s!"body"),.str (s!""),.ref mk,.ref sf])) p (.lst [V.ref a])) [bV]:=by
  show⟨S.same gE,S.some,Bu,gE.keep,[a],ar,.cons ⟨⟨(s1.trans s2).free ha,JP (s4 _ _ ar) ar (by intro z;cases z)⟩,mk,sf,s4 _ _ ar,⟨MP,b7 ⟨_,(s2.trans s3) _ _ ar⟩ hp |>.symm⟩,(s2.trans (s3.trans s4)) _ _ ar,⟨s1.free wn,(b7 ⟨_,s3 _ _ ar⟩ hp).symm⟩,[],(s3.trans s4) _ _ ar,.nil⟩ .nil⟩
 generalize af (af (af (af H mk (.lst [])) sf (.lst [])) a (.tup [.int (-1),.str (s!"body"),.str (s!""),.ref mk,.ref sf])) p (.lst [V.ref a])=H1 at G1 gE⊢;show¬⟨(),(),gY (λj σ H2=>∃(sub:List Nd) (ks:List Kd) (v:Option V),σ=[!.ref st,!.int m,!.int R,!.ref p,v]/\Kids 0 0 .body [bV] sub ks/\(0<j->ks≠[])/\jm R 0 j (1+sub⁻¹)/\Gs H st p H2 (bV::sub))
  ⟨[],[],none,O,Xs,(λz=>qT z (rQ 0)),.inl (by simp;omega),G1⟩ ?_ ?_⟩
 .ext j σ H2 hj ⟨sub,ks,v,rfl,kids,kY,cb,G2⟩;let j4:j<4:=by simp at hj;omega
  let MO:1+sub⁻¹<=60:=by
   unfold jm iP at cb;simp at cb;omega
  show¬⟨_,O,H,p,st,0,1,1,R,bV,bV::sub,O,G2,O,.inl O,{},{},{},{},{},wj,by rw[rH];omega,kids.ok,kids.nm,λmore ca H3 mo ik m3 mc G3 K3=>?_⟩;show⟨sub++more,ks++ca,_,O,kids.more (by show(bV::sub)⁻¹=0+1+sub⁻¹;rw[rH];omega) mo ik,(λ_=>?_),?_,G3⟩
  .intro z;show ik.ne (List.append_eq_nil_iff.mp z).2
  .show Mm cb (λz=>?_) (λz=>?_)
   .have:=m3 (by rw[rH];omega);rw[qJ];omega
   .have:=mc (by rw[rH];omega);rw[rH]at this;rw[qJ];show 1+(sub⁻¹+more⁻¹)<=iP R 1;omega
 .ext σ H2 ⟨sub,ks,v,rfl,kids,kY,cb,G2⟩;let le:sub⁻¹<=R+26+3*m:=by
   unfold jm iP at cb;simp at cb;omega
  show-⟨?_⟩;show q p sub ks H2 kids le (kY (by simp;omega)) G2
def X6(F:Fu K "_law_wide" MA f fd)(T:Bn mg)(bI:⋯ 1 "_law_take" ["_law_stream_here", "_law_most"] im)(oD:⋯ 4 "_law_add" ["_law_nodes", "_law_elder", "_law_kind", "_law_stuff", "_law_stream_here"] vy)(wg:⋯ 10 "_law_item" ["_law_nodes", "_law_elder", "_law_level", "_law_room_here", "_law_stream_here"] (spItem 4)):(~~~0) 11 f fd ["_law_nodes", "_law_stream_here"] spWide:=by
 rcases F.go ["_law_nodes", "_law_stream_here", "_law_at", "_law_k"] with⟨H0,p,st,sub,ks,rfl,G,kids,bT,q⟩;let hu:=hr.units;show⟨_,(ax (sv 2 (cF oD hr (aO '0' (aO ao (a3 (px aK (bf (a2 aU aU)) (cF bI hr (a2 '1' ao))) (bf bX) '1')))))
  (aA (fv (r1 T.range (aG a9 ao (cF bI hr (a2 '1' ao)))) (nv 3)
  (aA (cI (cF wg hr (aO '0' (aO '2' (a3 ao ao '1'))))))))),?_⟩
 show-⟨aT,λt ht=>?_⟩;let s1:=ay ht (.lst (([s!"shelf",s!"grid"]:TV).map V.str));show-⟨st,2,O,G.so.same s1,{},{},λr H1 r0 r1 S1 K1=>?_⟩;let ek:∃k:Kd,bO (([s!"shelf",s!"grid"]:TV).map V.str) r=!.str k.s/\(k=.shelf\/k=.grid):=by
  rcases(by omega:r=0\/r=1)with rfl | rfl
  .show⟨.shelf,O,.inl O⟩
  .show⟨.grid,O,.inr O⟩
 let⟨k,ek,hk⟩:=ek;let MQ:Keep1 st H H1:=s1.keep.trans K1;show⟨t,_,_,_,O,O,ag (K1 _ _ (b7 G.so.some ht) ar),ek,aT,λsf wn=>?_⟩;let s2:=ay wn (.lst []);let G2:=(G.keep1 MQ S1).same s2;show-⟨H0,p,st,sf,0,k,[],bV::sub,O,G2,⟨(G.keep1 MQ S1).fresh wn,[],ar,.nil⟩,by rw[rH];omega,λd H3 de dk oE dm dn G3 K3=>?_⟩;let le1:(bV::sub)⁻¹=sub⁻¹+1:=rH;show-⟨st,6,O,G3.so,{},{},λr4 H4 ot ou S4 K4=>⟨_,_,O,O,?_⟩⟩;let G4:=G3.keep1 K4 S4;let ct:mG d.k:=by rw[dk];rcases hk with rfl | rfl<;>simp[mG]
 show-⟨(),(),gY (λj σ H9=>∃(jR:List Nd) (kz:List Kd) (v:Option V),σ=[!.ref p,!.ref st,!.int (bV::sub)⁻¹,v]/\Kids (bV::sub)⁻¹ 1 d.k (bV::sub++[d]) jR kz/\(0<j->kz≠[])/\jR⁻¹<=3*j/\Gs H0 st p H9 (bV::sub++[d]++jR))
  ⟨[],[],none,O,⟨.nil,(λd hd=>nomatch hd),by rw[rZ];show vx kids.nm dn,?_,(λc hc=>nomatch hc),trivial⟩,(λz=>qT z (rQ 0)),∅,by rw[List.append_nil];show G4⟩ ?_ ?_⟩
 .rw[rZ];show Mq kids.ok dn
 .ext j σ H9 hj ⟨jR,kz,v,rfl,ki,MR,X7,G9⟩;let j9:j<9:=()
  show¬⟨_,O,H0,p,st,(bV::sub)⁻¹,1,2,0,d,bV::sub++[d]++jR,O,G9,?_,ct,{},{},{},{},{},{},?_,ki.ok,ki.nm,λmore ca HA mo ik m3 mc GA KA=>?_⟩
  .rw[xM,rL (qG _),Nat.sub_self];rfl
  .rw[qJ,qJ,uM];omega
  show⟨jR++more,kz++ca,_,O,ki.more (by rw[qJ,qJ,uM]) mo ik,(λ_ z=>ik.ne (List.append_eq_nil_iff.mp z).2),?_,?_⟩
  .have:=m3 (rO _);rw[qJ];omega
  .rw[<-xM];show GA
 .ext σ H9 ⟨jR,kz,v,rfl,ki,MR,X7,G9⟩;let mo:=Mr (lv:=1) (e:=0) (ds:=bV::sub) (d:=d) (sub:=jR) (ks:=kz) de {} (by rw[dk];rcases hk with rfl | rfl<;>simp) oE dm dn ki (λ_=>MR ());let il:jR⁻¹<=27:=()
  show q (d::jR) [d.k] H9 (kids.more (by show(bV::sub)⁻¹=0+1+sub⁻¹;rw[rH];omega) mo ?_) (by rw[rH];omega) ‹G9›;show .inl ⟨d.k,O,by rw[dk];rcases hk with rfl | rfl<;>decide,by rw[dk];rcases hk with rfl | rfl<;>rfl⟩
end K33
namespace Gen
open L2 Bk
def mI(ds:List Nd)(n:Int)(i:Nat):TN:=((List.range i).filter λj=>decide (ds[j]?.map Nd.e=!n)).map λ(j:Nat)=>(j:Int)
def X8{n:Int}{i:Nat}(h:ds[i]?=!d)(e:d.e=n):mI ds n (i+1)=mI ds n i++[(i:Int)]:=by
 unfold mI;rw[yV,rS,qD];simp[h,e]
def X9{n:Int}{i:Nat}(h:ds[i]?=!d)(e:¬d.e=n):mI ds n (i+1)=mI ds n i:=by
 unfold mI;rw[yV,rS,qD];simp[h,e]
theorem E8:∀(xs:TN),oi H ⇑xs (xs.map W.Dat.int)
 | []=>.nil
 | x::l=>.cons (.int x) (E8 l)
def MS(xs:TN):W.kqdOk 9 (.list (xs.map W.Dat.int))=true:=by
 simp only[W.kqdOk,List.all_eq_true,List.mem_map];ext x ⟨d,hd,rfl⟩;rfl
end Gen
namespace L2
open PyProof.Rows
end L2
namespace Bk
open L2 Gen
inductive Lev(ds:List Nd):Nat->Nat->Prop
 | top {i:Nat} {d:Nd}:ds[i]?=!d->d.e=-1->Lev ds i 0
 | up {i j l:Nat} {d:Nd}:ds[i]?=!d->d.e=(j:Int)->j<i->Lev ds j l->Lev ds i (l+1)
def Forest.elds{e i lv:Nat}(x:Forest e i lv l ks):e<i->∀(k:Nat) (d:Nd),l[k]?=!d->∃j:Nat,d.e=(j:Int)/\j<i+k:=by
 induction x with
 | nil=>intro _ k d h;cases h
 | @cons e i lv d sub rest ks ca h1 h2 h3 f1 h4 f2 mF iO =>
   intro he k c hk
   cases k with
   | zero=>cases hk;show⟨e,h1,()⟩
   | succ k =>
     rw[rW]at hk
     by_cases hs:k<sub⁻¹
     · rw[xE hs]at hk
       let⟨j,ej,hj⟩:=mF () k c hk
       show⟨j,ej,()⟩
     · rw[rL ()]at hk
       let⟨j,ej,hj⟩:=iO () _ c hk
       show⟨j,ej,()⟩
def Book.lev(b:Book ds):∀(i:Nat),i<ds⁻¹->∃l,l<=i/\Lev ds i l:=by
 let⟨d,sub,ks,rfl,h1,h2,f,_⟩:=b.tree;intro i
 induction i using Nat.strongRecOn with
 | _ i ih =>
   intro hi
   cases i with
   | zero=>show⟨0,qG _,.top O h1⟩
   | succ k =>
     let hk:k<sub⁻¹:=‹hi›
     let e:sub[k]?=!sub[k]:=qB hk
     let⟨j,ej,hj⟩:=f.elds {} k _ e
     let⟨l,hl,hv⟩:=ih j () (by simp;omega)
     show⟨l+1,(),.up (by rw[rW];show e) ej () hv⟩
end Bk
namespace Gen
open L2 Bk
def wo(ds:List Nd)(L:Nat->Nat):=∀i,i<ds⁻¹->Lev ds i (L i)/\L i<=i
def Book.levs(b:Book ds):∃L,wo ds L:=by
 let h:∀i,∃l,i<ds⁻¹->Lev ds i l/\l<=i:=λi=>by
  by_cases hi:i<ds⁻¹
  .let⟨l,h1,h2⟩:=b.lev i hi;show⟨l,λ_=>⟨h2,h1⟩⟩
  .show⟨0,λz=>qT z hi⟩
 show⟨λi=>Classical.choose (h i),λi hi=>Classical.choose_spec (h i) hi⟩
def MT(k k':So):decide (V.str k.s=V.str k'.s)=decide (k=k'):=by
 by_cases h:k=k'
 .rw[qR h,h];show qR O
 .rw[qV h];show qV λz=>h ?_
  have:=V.str.inj z;rw[So.inj]at this;show this
end Gen
namespace Bk
open L2 Gen
open PySem.W (Dat kqdOk)
end Bk
namespace Bk
open L2
def iQ(ds:List Nd):Nat->Int->List Int
 | 0,_=>[]
 | m+1,ab=>ab::iQ ds m (match ds[ab.toNat]? with | some d=>d.e | none=>-1)
theorem Bv(ds:List Nd):∀(m:Nat) (ab:Int),(iQ ds m ab)⁻¹=m
 | 0,_=>rfl
 | m+1,ab=>by rw[iQ,rH,Bv ds m]
def X'{j m:Nat}(h:ds[j]?=!d):iQ ds (m+1) (j:Int)=(j:Int)::iQ ds m d.e:=by
 rw[iQ,uD,h]
def E9(ds:List Nd)(ab:Int)(m:Nat):=(ab=-1/\m=0)\/∃j k:Nat,ab=j/\Lev ds j k/\m=k+1
def MU{i l:Nat}(h:Lev ds i l)(e':ds[i]?=!d):E9 ds d.e l:=by
 cases h with
 | top e h=>rw[e']at e;cases e;show .inl ⟨h,O⟩
 | up e h1 h2 h3=>rw[e']at e;cases e;show .inr ⟨_,_,h1,h3,O⟩
def Lev.nd{i l:Nat}(h:Lev ds i l):∃d,ds[i]?=!d:=by
 cases h with
 | top e h=>show⟨_,e⟩
 | up e h1 h2 h3=>show⟨_,e⟩
def iq(s:Same H H')(h:H L=none):Same H (af H' L o):=λb u e=>by rw[aM (cH e h)];show s b u e
end Bk
namespace Gen
open L2 Bk
inductive Fa:List V->Hp->VK->XK->Prop
|m (p:Addr) (i l:Nat) (d:Nd) (ds:List Nd) (N:Addr->Prop):vs=[.ref p,.int i]->cM N H p ds->ds[i]?=!d->Lev ds i l->l<=999->(∀(L:Addr) (H':Hp),H L=none->Same H H'->H' L=!.lst ⇑(iQ ds l d.e)->Q (.ref L) H')->Fa vs H Q E
inductive Fb:List V->Hp->VK->XK->Prop
|m (p:Addr) (i l:Nat) (ds:List Nd) (N:Addr->Prop):vs=[.ref p,.int i]->cM N H p ds->Lev ds i l->l<=999->(∀H',Same H H'->Q (.int l) H')->Fb vs H Q E
end Gen
namespace L2
open PyProof.Rows
section
variable{X:Cx}{CX:dt}{k:Nat}{ps:TV}{sp:Sp}{E:XK}{x:Str}{p pos:Pos}
def MV{x1:Nat}(ha:PE X (.Tuple nU x1 eP) te)(hr:PA X es t):PA X (.Tuple nU x1 eP::es) (eC te t):=aO ha hr (by rfl)
end
end L2
namespace Bk
open L2
def bW{α β:Type}{F:α->β->Prop}{l1:List α}{l2:List β}(h:Paired F l1 l2){i:Nat}{a:α}(e:l1[i]?=!a):∃b,l2[i]?=!b/\F a b:=by
 induction h generalizing i with
 | nil=>cases e
 | @cons a b l1 l2 q t ih =>
   cases i with
   | zero=>cases e;show⟨b,O,q⟩
   | succ i=>show ih ‹e›
def Ya(x:Str)(l:TV):mz (.str x) (l.map V.str)=decide (x∈l):=by
 by_cases h:x∈l
 .rw[qR h];unfold mz;rw[vB];show⟨.str x,yQ h,by show(x == x)=true;simp⟩
 .rw[qV h];unfold mz;rw[List.any_eq_false];intro v hv;let⟨y,hy,rfl⟩:=qP.mp hv;show¬(y == x)=true;intro z;show h ((beq_iff_eq.mp z) ▸ hy)
def Yb:List (Str×Int×Int×Int):=[("face",0,99,0),("align",0,3,0),("above",0,400,0),("inset",0,400,0),("weight",1,9,1),("least",0,4000,0),("most",0,4000,4000),("columns",1,6,2),("span",1,6,1),("deep",1,4,1),("side",0,1,0),("wide",1,4000,100),("fresh",0,1,0)].map λy=>(Str.ofString y.1,y.2.1,y.2.2.1,y.2.2.2)
end Bk
namespace Bk
open L2
open PySem.W (Dat kqdOk)
end Bk
namespace Gen
open L2 Bk
end Gen
namespace L2
open PyProof.Rows
section
variable{κ:Type}[DecidableEq κ]
def bP(aj:List (κ×V))(k:κ):Option V:=(aj.find? λkv=>decide (kv.1=k)).map (·.2)
def dz(aj:List (κ×V))(k:κ)(v:V):List (κ×V) :=
 if(aj.any λkv=>decide (kv.1=k))=true then aj.map (λkv=>if kv.1=k then(kv.1,v)else kv)else aj++[(k,v)]
def Yc{k:κ}:bP ([]:List (κ×V)) k=none:=rfl
def gF{p:κ×V}{r:List (κ×V)}{k:κ}(e:p.1=k):bP (p::r) k=!p.2:=by simp[bP,List.find?_cons,e]
def gG{p:κ×V}{r:List (κ×V)}{k:κ}(e:¬p.1=k):bP (p::r) k=bP r k:=by simp[bP,List.find?_cons,e]
theorem wq(k:κ):∀aj:List (κ×V),(aj.any λkv=>decide (kv.1=k))=(bP aj k).isSome
 | []=>rfl
 | p :: r => by
   rw[vC]
   by_cases e:p.1=k
   · simp only[gF e,decide_eq_true e,Bool.true_or,Option.isSome_some]
   · rw[gG e,qV e,Bool.false_or];show wq k r
theorem MW(k j:κ)(y:V):∀aj:List (κ×V),bP (aj.map λkv=>if kv.1=k then(kv.1,y)else kv) j=(bP aj j).map λx=>if j=k then y else x
 | []=>rfl
 | p :: r => by
   let ih:=MW k j y r
   rw[xP]
   by_cases h:p.1=k
   · rw[qX h]
     by_cases e:p.1=j
     · rw[gF (p:=(p.1,y)) e,gF e,vP,qX (e.symm.trans h)]
     · rw[gG (p:=(p.1,y)) e,gG e,ih]
   · rw[qY h]
     by_cases e:p.1=j
     · rw[gF (p:=p) e,gF e,vP,qY (λz=>h (e.trans z))]
     · rw[gG (p:=p) e,gG e,ih]
theorem MX(k j:κ)(y:V):∀aj:List (κ×V),bP aj k=none->bP (aj++[(k,y)]) j=if j=k then !y else bP aj j
 | [], _ => by
   by_cases e:k=j
   · rw[qX e.symm];show gF (p:=(k,y)) e
   · rw[qY (λz=>e z.symm)];show gG (p:=(k,y)) e
 | p :: r, hn => by
   rw[v0]
   let hk:¬p.1=k:=λz=>by rw[gF z]at hn;cases hn
   rw[gG hk]at hn
   let ih:=MX k j y r hn
   by_cases e:p.1=j
   · rw[gF e,gF e,qY (λz=>hk (e.trans z))]
   · rw[gG e,gG e,ih]
def Fd(aj:List (κ×V))(k j:κ)(y:V):bP (dz aj k y) j=if j=k then !y else bP aj j:=by
 unfold dz
 by_cases a:(aj.any λkv=>decide (kv.1=k))=true
 .rw[qX a,MW];rw[wq]at a
  by_cases e:j=k
  .let⟨x,hx⟩:=Option.isSome_iff_exists.mp a;rw[qX e,e,hx,vP,qX O]
  .rw[qY e];cases bP aj j with
   | none=>rfl
   | some x=>rw[vP,qY e]
 .rw[qY a];show MX k j y aj ?_;rw[wq]at a;cases q:bP aj k with
  | none=>rfl
  | some x=>rw[q]at a;show(a O).elim
def qk(aj:List (κ×V))(k:κ)(v:V):(dz aj k v)⁻¹<=aj⁻¹+1:=by
 unfold dz
 split
 .rw[qA];omega
 .rw[qJ,rH,List.length_nil];omega
def Yd{aj:List (κ×V)}{k:κ}(v:V)(h:bP aj k=none):dz aj k v=aj++[(k,v)]:=by
 unfold dz;rw[wq,h];show qY {}
def RelO.isSome_eq(r:RelO o u):o.isSome=u.isSome:=by
 cases o with
 | none => cases u with
   | none=>rfl
   | some _=>show(show False from r).elim
 | some _ => cases u with
   | none=>show(show False from r).elim
   | some _=>rfl
def RelO.getD(r:RelO o u)(rd:RelV d d'):RelV (o.getD d) (u.getD d'):=by
 cases o with
 | none => cases u with
   | none=>show rd
   | some _=>show(show False from r).elim
 | some _ => cases u with
   | none=>show(show False from r).elim
   | some _=>show r
def KV.val{aj:List (κ×V)}{vs:List (κ×Value)}(r:KV aj vs)(k:κ):RelO (bP aj k) (valueAt vs k):=by
 unfold KV at r
 induction r with
 | nil=>show True.intro
 | @cons p q ps qs h t ih =>
   let⟨h1,h2⟩:=h
   by_cases e:p.1=k
   · let e':q.1=k:=h1.symm.trans e
     let b:valueAt (q::qs) k=!q.2:=by simp[valueAt,List.find?_cons,e']
     rw[gF e,b];show h2
   · let e':¬q.1=k:=λz=>e (h1.trans z)
     let b:valueAt (q::qs) k=valueAt qs k:=by simp[valueAt,List.find?_cons,e']
     rw[gG e,b];show ih
def KV.any{aj:List (κ×V)}{vs:List (κ×Value)}(r:KV aj vs)(k:κ):(aj.any λkv=>decide (kv.1=k))=vs.any λkv=>decide (kv.1=k):=by
 unfold KV at r
 induction r with
 | nil=>rfl
 | cons h t ih=>rw[vC,vC,ih,h.1]
def KV.repl{aj:List (κ×V)}{vs:List (κ×Value)}(r:KV aj vs)(k:κ)(ry:RelV y u) :
  KV (aj.map λkv=>if kv.1=k then(kv.1,y)else kv) (vs.map λkv=>if kv.1=k then(kv.1,u)else kv):=by
 unfold KV at r⊢
 induction r with
 | nil=>show .nil
 | @cons p q ps qs h t ih =>
   rw[xP,xP]
   show .cons ?_ ih
   let⟨h1,h2⟩:=h
   by_cases e:p.1=k
   · rw[qX e,qX (h1.symm.trans e)];show⟨h1,ry⟩
   · rw[qY e,qY (λz=>e (h1.trans z))];show⟨h1,h2⟩
def KV.put{aj:List (κ×V)}{vs:List (κ×Value)}(r:KV aj vs)(k:κ)(ry:RelV y u):KV (dz aj k y) (stored vs k u):=by
 unfold dz stored;rw[r.any k]
 by_cases e:(vs.any λkv=>decide (kv.1=k))=true
 .rw[qX e,qX e];show r.repl k ry
 .rw[qY e,qY e];show Paired.snoc r ⟨O,ry⟩
def KV.length{aj:List (κ×V)}{vs:List (κ×Value)}(r:KV aj vs):aj⁻¹=vs⁻¹:=qU r
end
def oG(r:RelV (kV k) u):(eK P w).is k u=true:=by
 cases k with
 | inl i=>let⟨t,e⟩:=(show∃t,u=Value.int i t from r);subst e;show Uy P w i t
 | inr x=>let⟨t,e⟩:=(show∃t,u=Value.str x t from r);subst e;show JO P w x t
theorem MY:∀{ks:List aV} {us:TU},Vals (ks.map kV) us->ItemsAre (eK P w) ks us
 | [],_,r=>by rw[wC]at r;cases r;show .nil
 | k :: ks, _, r => by
   rw[xP]at r
   cases r with
   | cons h t=>show .cons (oG h) (MY t)
abbrev KT(H:Hp):List (List aV×V)->List (List aV×Addr×Value)->Prop:=Paired λp q=>p.1=q.1/\H q.2.1=!.tup (p.1.map kV)/\RelV p.2 q.2.2
def KT.val{aj:List (List aV×V)}{xs:List (List aV×Addr×Value)}(r:KT H aj xs)(k:List aV):RelO (bP aj k) ((atKey xs k).map (·.2)):=by
 induction r with
 | nil=>show True.intro
 | @cons p q ps qs h t ih =>
   let⟨h1,_,h2⟩:=h
   by_cases e:p.1=k
   · let e':q.1=k:=h1.symm.trans e
     let b:atKey (q::qs) k=!q.2:=by simp[atKey,List.find?_cons,e']
     rw[gF e,b];show h2
   · let e':¬q.1=k:=λz=>e (h1.trans z)
     let b:atKey (q::qs) k=atKey qs k:=by simp[atKey,List.find?_cons,e']
     rw[gG e,b];show ih
def KT.repl{aj:List (List aV×V)}{xs:List (List aV×Addr×Value)}(r:KT H aj xs)(k:List aV)(ry:RelV y u) :
  KT H (aj.map λkv=>if kv.1=k then(kv.1,y)else kv) (xs.map (putAt k u)):=by
 induction r with
 | nil=>show .nil
 | @cons p q ps qs h t ih =>
   rw[xP,xP]
   show .cons ?_ ih
   let⟨h1,h2,h3⟩:=h
   unfold putAt
   by_cases e:p.1=k
   · rw[qX e,qX (h1.symm.trans e)];show⟨h1,h2,ry⟩
   · rw[qY e,qY (λz=>e (h1.trans z))];show⟨h1,h2,h3⟩
def KT.put{aj:List (List aV×V)}{xs:List (List aV×Addr×Value)}(r:KT H aj xs)(k:List aV)(hb:H b=!.tup (k.map kV))(ry:RelV y u) :
  KT H (dz aj k y) (storedH xs k b u):=by
 let e:(aj.any λkv=>decide (kv.1=k))=(atKey xs k).isSome:=by
  rw[wq,(r.val k).isSome_eq,Option.isSome_map]
 unfold dz storedH;rw[e]
 by_cases q:(atKey xs k).isSome=true
 .rw[qX q,qX q];show r.repl k ry
 .rw[qY q,qY q];show Paired.snoc r ⟨O,hb,ry⟩
def KT.keeps{aj:List (List aV×V)}{xs:List (List aV×Addr×Value)}(r:KT H aj xs)(ht:∀b ys,H b=!.tup ys->H' b=!.tup ys):KT H' aj xs :=
 Paired.mapP r λ_ _ z=>⟨z.1,ht _ _ z.2.1,z.2.2⟩
section
variable{P:Program}{w:World}{H:Hp}{h:Heap}{a:Addr}
def MZ(ok:HOk P w H h)(e:Rd H a u):ObjOk P w H h a u:=e.ok ok
def wu{aj:List (aV×V)}(ok:HOk P w H h)(e:Rd H a (.dK aj)):aj⁻¹<=sizeLine/\(a == sysModules)=false/\∃vs,KV aj vs/\h.DictOf (eK P w) a vs :=
 show ObjOk P w H h a (.dK aj)from MZ ok e
def M1{aj:List (aV×V)}(ok:HOk P w H h)(e:H a=!.dK aj):aj⁻¹<=sizeLine/\(a == sysModules)=false/\∃vs,KV aj vs/\h.DictOf (eK P w) a vs:=wu ok (.inl e)
def By(ok:HOk P w H h)(e:H a=!.tup (ks.map kV)):(tupleKind (eK P w)).is h ks a:=by
 let⟨_,ah,r,o,h1,h2,n,h3⟩:=(show ObjOk P w H h a (.tup (ks.map kV))from ok a _ e);show⟨o,ah.toArray,n,h1,h2,h3,‹MY r›⟩
def Bz{aj:List (List aV×V)}(ok:HOk P w H h)(e:Rd H a (.dT aj)):aj⁻¹<=sizeLine/\(a == sysModules)=false /\
  ∃xs,KT H aj xs/\h.DictOfH (tupleKind (eK P w)) a xs:=by
 obtain⟨z,y,xs,r,o,es,ep,h1,h2,h3,h4,h5⟩:=(show ObjOk P w H h a (.dT aj)from MZ ok e);show⟨z,y,xs,r,o,es,ep,h1,h2,h3,h4,λx hx=>?_,h5⟩;let all:∀{l:List (List aV×V)} {m:List (List aV×Addr×Value)},KT H l m->∀x∈m,(tupleKind (eK P w)).is h x.1 x.2.1:=by
  intro l m q
  induction q with
  | nil=>intro x hx;show nomatch hx
  | @cons p q ps qs hq t ih =>
    intro x hx
    rcases qM.mp hx with e | hx
    · subst e
      show By ok (by rw[<-hq.1];show hq.2.1)
    · show ih x hx
 show all r x hx
def Ye{aj:List (List aV×V)}(ok:HOk P w H h)(e:H a=!.dT aj):aj⁻¹<=sizeLine/\(a == sysModules)=false /\
  ∃xs,KT H aj xs/\h.DictOfH (tupleKind (eK P w)) a xs:=Bz ok (.inl e)
end
def DGet(H:Hp)(a:Addr)(y:V)(r:Option V):Prop :=
 (∃aj k,Rd H a (.dK aj)/\y=kV k/\r=bP aj k)\/∃aj k b,Rd H a (.dT aj)/\y=.ref b/\H b=!.tup (k.map kV)/\r=bP aj k
def DPut(H:Hp)(a:Addr)(y v:V)(H':Hp):Prop :=
 (∃aj k,H a=!.dK aj/\y=kV k/\aj⁻¹<sizeLine/\H'=af H a (.dK (dz aj k v))) \/
 ∃aj k b,H a=!.dT aj/\y=.ref b/\H b=!.tup (k.map kV)/\aj⁻¹<sizeLine/\H'=af H a (.dT (dz aj k v))
def DGet.k{H:Hp}{a:Addr}{aj:List (aV×V)}{k:aV}(e:H a=!.dK aj):DGet H a (kV k) (bP aj k):=.inl ⟨aj,k,.inl e,O,O⟩
def DGet.t{H:Hp}{aj:List (List aV×V)}{k:List aV}(e:H a=!.dT aj)(eb:H b=!.tup (k.map kV)):DGet H a (.ref b) (bP aj k):=.inr ⟨aj,k,b,.inl e,O,eb,O⟩
def DPut.k{H:Hp}{a:Addr}{aj:List (aV×V)}{k:aV}{v:V}(e:H a=!.dK aj)(hl:aj⁻¹<sizeLine):DPut H a (kV k) v (af H a (.dK (dz aj k v))):=.inl ⟨aj,k,e,O,hl,O⟩
def DPut.t{H:Hp}{aj:List (List aV×V)}{k:List aV}{v:V}(e:H a=!.dT aj)(eb:H b=!.tup (k.map kV))(hl:aj⁻¹<sizeLine) :
  DPut H a (.ref b) v (af H a (.dT (dz aj k v))):=.inr ⟨aj,k,b,e,O,eb,hl,O⟩
section
variable{X:Cx}{aa:TF}{σ:St}{H:Hp}{s:Shared}{a:Addr}{y v:V}{u r:Value}{o:Option V}{A:Around}{E:TH}
def Inv.big(I:Inv X aa σ H s):sysModules< ~~~s:=by
 let h:mainGlobals< ~~~s:=(I.mod.glob.keeps I.bk).lt;show uH {} h
def Yf{Q:TH}(hu:A.units+1<cLine)(I:Inv X aa σ H s)(g:DGet H a y (!v))(ry:RelV y u)(h:∀w' s',Inv X aa σ H s'->RelV v w'->Q w' s') :
  wpAny (model X.prog X.w) A (getItem (.ref a) u) Q E s:=by
 rcases g with⟨aj,k,e,ey,l⟩ | ⟨aj,k,b,e,ey,eb,l⟩
 .subst ey;let⟨z,hd,vs,cK,dd⟩:=wu I.hok e;let⟨w',hw,jg⟩:=RelO.some_of (v:=v) (o:=valueAt vs k) (by rw[l];show cK.val k);show wpAny_getItem_of (oG ry) dd.mapOf hw (h w' _ (I.tok _) jg)
 .subst ey;cases(show u=Value.ref b from ry);let⟨z,hd,xs,cK,dd⟩:=Bz I.hok e;let⟨w',hw,jg⟩:=RelO.some_of (v:=v) (o:=(atKey xs k).map (·.2)) (by rw[l];show cK.val k);let⟨p,hp,fG⟩:=rP.mp hw;show wpAny_getItem_heap (tupleKind_room_in1 hu) (By I.hok eb) dd hp ?_;rw[fG];show h w' _ (I.tok _) jg
def Yg{Q:TH}(hu:A.units+1<cLine)(I:Inv X aa σ H s)(g:DGet H a y o)(ry:RelV y u)(h:∀s',Inv X aa σ H s'->Q (.bool o.isSome) s') :
  wpAny (model X.prog X.w) A (compareOp .In u (.ref a)) Q E s:=by
 rcases g with⟨aj,k,e,ey,l⟩ | ⟨aj,k,b,e,ey,eb,l⟩
 .subst ey;let⟨z,hd,vs,cK,dd⟩:=wu I.hok e;show wpAny_in_of (oG ry) hd dd.mapOf ?_;rw[<-(cK.val k).isSome_eq,<-l];show h _ (I.tok _)
 .subst ey;cases(show u=Value.ref b from ry);let⟨z,hd,xs,cK,dd⟩:=Bz I.hok e;show wpAny_in_heap (tupleKind_room_in1 hu) (By I.hok eb) hd dd ?_;let q:=(cK.val k).isSome_eq;rw[Option.isSome_map]at q;rw[<-q,<-l];show h _ (I.tok _)
def Fe{t':Nat}(I:Inv X aa σ H s)(mu:tz (H a))(hs:Heap.SameBut a s.heap h')(he:∃q,h'.get? a=!q)(new:ObjOk X.prog X.w (af H a ob) h' a ob) :
  Inv X aa σ (af H a ob) {s with heap:=h',toks:=t'} :=
 I.write (x:=a) (e:=a) mu (.inl O) (λb q hb z=>(hs.2 b hb).trans z) he new
def Ff{aj:List (aV×V)}{vs:List (aV×Value)}(z:aj⁻¹<=sizeLine)(hd:(a == sysModules)=false)(cK:KV aj vs)(dd:h'.DictOf (eK P w) a vs) :
  ObjOk P w H' h' a (.dK aj):=⟨z,hd,vs,cK,dd⟩
def Yh{Q:Unit->Shared->Prop}(hu:A.units+1<cLine)(I:Inv X aa σ H s)(g:DPut H a y v H')(ry:RelV y u)(rv:RelV v r)(h:∀s',Inv X aa σ H' s'->Q Unit.unit s') :
  wpAny (model X.prog X.w) A (setItem (.ref a) u r) Q E s:=by
 rcases g with⟨aj,k,e,ey,l,eH⟩ | ⟨aj,k,b,e,ey,eb,l,eH⟩
 .subst ey eH;let⟨z,hd,vs,cK,dd⟩:=M1 I.hok e;let hz:vs⁻¹<=sizeLine:=by rw[<-cK⁻¹];show z
  let hl:(dz aj k v)⁻¹<=sizeLine:=by have:=qk aj k v;omega
  show wpAny_setItem_pairs (hsz:=hz) (oG ry) dd λh' oH hs=>h _ ?_
  let he:∃q,h'.get? a=!q:=let⟨q,_,_,hq,_⟩:=oH;⟨q,hq⟩;show Fe I (by rw[e];show True.intro) hs he (Ff hl hd (cK.put k rv) oH)
 .subst ey eH;cases(show u=Value.ref b from ry);let⟨z,hd,xs,cK,dd⟩:=Ye I.hok e;let hz:xs⁻¹<=sizeLine:=by rw[<-qU cK];show z
  let hl:(dz aj k v)⁻¹<=sizeLine:=by have:=qk aj k v;omega
  show wpAny_setItem_heap (hsz:=hz) (tupleKind_room_in1 hu) (By I.hok eb) dd λh' oH hs=>h _ ?_
  let⟨q,es,ep,hq,h2,h3,h4,_,h5⟩:=oH;show Fe I (by rw[e];show True.intro) hs ⟨q,hq⟩ ⟨hl,hd,_,(cK.put k eb rv).keeps λc ys ec=>?_,q,es,ep,hq,h2,h3,h4,h5⟩;rw[aM (JP ec e (λz=>nomatch z))];show ec
end
def M2(i:Expr):=∀ov iv,subscripted i false ov iv=operate [ov,iv] (getItem ov iv)
def Yi{E:TH}{T id:String}{Q:TH}(hl:typeLookup (.type T) "__getitem__" = pure (!.builtin id))(hs:M2 kK)(h:wpAny (model prog w) A (eval value env) (λo a7=>wpAny (model prog w) A (eval kK env) (λi iI=>iI.TypeIs o T/\wpAny (model prog w) A (getItem o i) Q E iI) E a7) E s) :
  wpAny (model prog w) A (eval (.Subscript value kK pos) env) Q E s:=by
 show Subscript_ (xJ h (λo a7 Yj=>xJ Yj (λi iI Fg=>?_) λ_ _ x=>x) λ_ _ x=>x);let⟨hT,Fg⟩:=Fg;unfold subscriptTail;show qC ?_;rw[getitemInPython_of_ne hT.not_modules];show qC (wpAny_specialOf hT hl ?_);let fin:wpAny (model prog w) A (subscripted kK false o i) (λr AI=>wpAny (model prog w) A (letTemporaryGo value o r>>=λ_=>pure r) Q E AI) E iI:=by
  rw[hs o i];show wpAny_operating (xJ Fg (λr AI Yk=>qC (wpAny_letTemporaryGo (qL Yk))) λ_ _ x=>x)
 first
  | show qL (qC fin)
  | show qC (qL (qC fin))
  | show qC fin
def Yl{aa:TF}(I:Inv X aa σ H s)(g:DGet H a y o):s.TypeIs (.ref a) "dict":=by
 rcases g with⟨aj,k,e,_,_⟩ | ⟨aj,k,b,e,_,_,_⟩
 .let⟨_,_,vs,_,dd⟩:=wu I.hok e;show dd.typeIs
 .let⟨_,_,xs,_,dd⟩:=Bz I.hok e;show dd.typeIs
def Ym(td ty:TE):TE:=λσ H Q=>td σ H λx H1=>ty σ H1 λy H2=>∃a v,x=.ref a/\DGet H2 a y (!v)/\Q v H2
def Yn(ty td:TE):TE:=λσ H Q=>ty σ H λy H1=>td σ H1 λx H2=>∃a o,x=.ref a/\DGet H2 a y o/\Q (.bl o.isSome) H2
def Yo(td ty tv:TE):TS:=λD σ H=>tv σ H λv H1=>td σ H1 λx H2=>ty σ H2 λy H3=>∃a H4,x=.ref a/\DPut H3 a y v H4/\D.nx σ H4
section
variable{X:Cx}{o i e value:Expr}{pos eP U8:Pos}{td ty tv:TE}
def kZ(hu:X.A.units+1<cLine)(ho:PE X o td)(hi:PE X i ty)(hs:M2 i):PE X (.Subscript o i pos) (Ym td ty):=by
 intro aa s σ H Q I h;show Yi PySem.F.slot_dict_getitem.lookup hs (aR (ho aa s σ H _ I h) λu s1 ⟨x,H1,I1,rx,q1⟩=>aR (hi aa s1 σ H1 _ I1 q1) λiv s2 ⟨y,H2,I2,ry,a,v,ex,g,q2⟩=>?_);subst ex;obtain rfl:u=Value.ref a:=rx;show⟨Yl I2 g,Yf hu I2 g ry λw' s3 I3 jg=>⟨v,H2,I3,jg,q2⟩⟩
def M3(hu:X.A.units+1<cLine)(hi:PE X i ty)(ho:PE X o td):PC X .In i o (Yn ty td):=by
 intro aa s σ H Q I h;show aR (hi aa s σ H _ I h) λiv s1 ⟨y,H1,I1,ry,q1⟩=>aR (ho aa s1 σ H1 _ I1 q1) λu s2 ⟨x,H2,I2,rx,a,ov,ex,g,q2⟩=>?_
 subst ex;obtain rfl:u=Value.ref a:=rx;show Yg hu I2 g ry λs3 I3=>⟨.bl ov.isSome,H2,I3,O,q2⟩
def Fh(hu:X.A.units+1<cLine)(ho:PE X o td)(hi:PE X i ty)(hv:PE X value tv)(hs:swapsWith value (!.Subscript o i eP) pos.line X.env=pure false) :
  PS X (.Assign [.Subscript o i eP] value pos) (Yo td ty tv):=by
 intro aa s σ H D I h;show wpAny_Assign_Subscript (aR (hv aa s σ H _ I h) λr s1 ⟨v,H1,I1,rv,q1⟩=>aR (ho aa s1 σ H1 _ I1 q1) λu s2 ⟨x,H2,I2,rx,q2⟩=>aR (hi aa s2 σ H2 _ I2 q2) λiv s3 ⟨y,H3,I3,ry,a,H4,ex,g,q3⟩=>?_) hs;subst ex;obtain rfl:u=Value.ref a:=rx;show Yh hu I3 g ry rv λs4 I4=>⟨σ,H4,I4,q3⟩
end
def M4(h:Heap)(hb:sysModules<h.objs.size):ObjOk P w H (h.push {cls:=.type "dict",data:=.dict #[]}) h.objs.size (.dK []) :=
 ⟨rO _,beq_eq_false_iff_ne.mpr (rV (rD hb)),[],.nil,Heap.DictOf.new h⟩
def Yp(h:Heap)(hb:sysModules<h.objs.size):ObjOk P w H (h.push {cls:=.type "dict",data:=.dict #[]}) h.objs.size (.dT []) :=
 ⟨rO _,beq_eq_false_iff_ne.mpr (rV (rD hb)),[],.nil,_,#[],0,qQ _ O,⟨O,O,O⟩,O,O,vT⟩
def Yq:TE:=λ_ H Q=>∀p,H p=none->Q (.ref p) (af H p (.dK []))
def Yr:TE:=λ_ H Q=>∀p,H p=none->Q (.ref p) (af H p (.dT []))
section
variable{X:Cx}{pos:Pos}
def Ys:PE X (.Dict [] [] pos) Yq:=λaa s σ H Q I h =>
 wpAny_Dict_empty ⟨.ref (~~~s),_,I.laid (a:= ~~~s) (o:=.dK []) (t':=s.toks) (λ_ _ q=>qF _ q) (qG _) (M4 s.heap I.big),O,h _ (I.hok.fresh (qG _))⟩
def Yt:PE X (.Dict [] [] pos) Yr:=λaa s σ H Q I h =>
 wpAny_Dict_empty ⟨.ref (~~~s),_,I.laid (a:= ~~~s) (o:=.dT []) (t':=s.toks) (λ_ _ q=>qF _ q) (qG _) (Yp s.heap I.big),O,h _ (I.hok.fresh (qG _))⟩
end
end L2
namespace Gd
open L2 Gen
structure Pl where
 r:Nat
 c:Nat
 s:Nat
 d:Nat
def Pl.vs(p:Pl):List V:=[.int p.r,.int p.c,.int p.s,.int p.d]
def ql(p q:Pl):Bool:=decide (q.r<p.r+p.d/\p.r<q.r+q.d/\q.c<p.c+p.s/\p.c<q.c+q.s)
def free(ps:List Pl)(q:Pl):Bool:=ps.all λp=>(Bool.not (ql p q))
def iS(p:Pl)(x:Nat×Nat):Bool:=decide (p.r<=x.1/\x.1<p.r+p.d/\p.c<=x.2/\x.2<p.c+p.s)
def mJ(p:Pl)(i:Nat):List (Nat×Nat):=(List.range p.s).map λj=>(p.r+i,p.c+j)
def jS(p:Pl)(n:Nat):List (Nat×Nat):=((List.range n).map (mJ p)).flatten
def gd(p:Pl):List (Nat×Nat):=jS p p.d
def M5(p:Pl)(n:Nat):jS p (n+1)=jS p n++mJ p n:=by simp[jS,List.range_succ]
def Fi(p:Pl)(i:Nat):(mJ p i)⁻¹=p.s:=by simp[mJ]
theorem M6(p:Pl):∀n,(jS p n)⁻¹=n*p.s
 | 0=>by simp[jS]
 | n+1=>by rw[M5,qJ,M6 p n,Fi,Nat.succ_mul]
def Fj{n:Nat}(hn:n<=4)(hs:p.s<=6):(jS p n)⁻¹<=24:=by
 rw[M6];have:=Nat.mul_le_mul hn hs;omega
def Fk{x:Nat×Nat}:x∈gd p↔iS p x=true:=by
 constructor
 .intro h;unfold gd jS at h;let⟨l,hl,hx⟩:=List.mem_flatten.mp h;let⟨i,hi,rfl⟩:=qP.mp hl;let⟨j,hj,rfl⟩:=qP.mp hx;let h1:=xC.mp hi;let h2:=xC.mp hj;show qR ⟨by show p.r<=p.r+i;omega,by show p.r+i<p.r+p.d;omega,by show p.c<=p.c+j;omega,by show p.c+j<p.c+p.s;omega⟩
 .intro h;let⟨h1,h2,h3,h4⟩:=rF h;show List.mem_flatten.mpr ⟨mJ p (x.1-p.r),qP.mpr ⟨_,xC.mpr (),O⟩,qP.mpr ⟨x.2-p.c,xC.mpr (),?_⟩⟩;let⟨a,b⟩:=x;simp only at h1 h2 h3 h4⊢;rw[Prod.mk.injEq];omega
def Yu:(∀p∈ps,1<=p.s/\1<=p.d)->1<=q.s->1<=q.d->((gd q).any λx=>ps.any λp=>iS p x)=(Bool.not (free ps q)):=by
 intro hp hs hd;rw[yZ];constructor
 .intro h;let⟨x,hx,h⟩:=vB.mp h;let⟨p,iN,hc⟩:=vB.mp h;let⟨a1,a2,a3,a4⟩:=rF (Fk.mp hx);let⟨b1,b2,b3,b4⟩:=rF hc;let m:ql p q=true:=qR ⟨(),(),(),()⟩;cases e:free ps q with
  | false=>rfl
  | true =>
    have:=uI.mp e p iN
    rw[m]at this
    cases this
 .intro h;let h':free ps q=false:=‹h›
  let nz:¬∀p∈ps,((Bool.not (ql p q)))=true:=λz=>by
   rw[show free ps q=true from uI.mpr z]at h';cases h'
  let⟨p,hz⟩:=Classical.not_forall.mp nz;let⟨iN,hm⟩:=Classical.not_imp.mp hz;let BA:ql p q=true:=‹hm›
  let⟨m1,m2,m3,m4⟩:=rF BA;let⟨s1,d1⟩:=hp p iN;show vB.mpr ⟨(max p.r q.r,max p.c q.c),Fk.mpr (qR ?_),vB.mpr ⟨p,iN,qR ?_⟩⟩
  .show q.r<=max p.r q.r/\max p.r q.r<q.r+q.d/\q.c<=max p.c q.c/\max p.c q.c<q.c+q.s;omega
  .show p.r<=max p.r q.r/\max p.r q.r<p.r+p.d/\p.c<=max p.c q.c/\max p.c q.c<p.c+p.s;omega
structure First(ps:List Pl)(cols s d:Nat)(q:Pl):Prop where
 es:q.s=s
 ed:q.d=d
 ec:q.c+s<=cols
 fr:free ps q=true
 lc:∀c,c<q.c->free ps ⟨q.r,c,s,d⟩=false
 lr:∀r,r<q.r->∀c,c+s<=cols->free ps ⟨r,c,s,d⟩=false
def First.eta{cols s d:Nat}(a:First ps cols s d q):q=⟨q.r,q.c,s,d⟩:=by
 let h1:=a.es;let h2:=a.ed;subst h1 h2;rfl
def First.uniq{cols s d:Nat}(a:First ps cols s d p)(b:First ps cols s d q):p=q:=by
 let fa:=a.fr;let fb:=b.fr;rw[a.eta]at fa;rw[b.eta]at fb;let hr:p.r=q.r:=by
  rcases Nat.lt_trichotomy p.r q.r with h | h | h
  .rw[b.lr p.r h p.c a.ec]at fa;cases fa
  .show h
  .rw[a.lr q.r h q.c b.ec]at fb;cases fb
 let hc:p.c=q.c:=by
  rcases Nat.lt_trichotomy p.c q.c with h | h | h
  .rw[hr,b.lc p.c h]at fa;cases fa
  .show h
  .rw[<-hr,a.lc q.c h]at fb;cases fb
 rw[a.eta,b.eta,hr,hc]
def PsOk(cols:Nat)(ps:List Pl):=∀p∈ps,1<=p.s/\1<=p.d/\p.d<=4/\p.s<=6/\p.r+p.d<=4*ps⁻¹/\p.c+p.s<=cols
def PsOk.one{cols:Nat}(ok:PsOk cols ps):∀p∈ps,1<=p.s/\1<=p.d:=λp hp=>⟨(ok p hp).1,(ok p hp).2.1⟩
def M7{cols:Nat}(ok:PsOk cols ps){r c s d:Nat}(h:4*ps⁻¹<=r):free ps ⟨r,c,s,d⟩=true:=by
 show uI.mpr λp hp=>?_
 let h1:=ok p hp;have:ql p ⟨r,c,s,d⟩=false:=qV λz=>by
  let z1:r<p.r+p.d:=z.1;omega
 rw[this];rfl
def First.row{cols s d:Nat}(a:First ps cols s d q)(ok:PsOk cols ps)(hs:s<=cols):q.r<=4*ps⁻¹:=by
 show xQ λz=>?_
 let h1:=a.lr _ z 0 ();rw[M7 ok (qG _)]at h1;cases h1
def PsOk.snoc{cols s d:Nat}(ok:PsOk cols ps)(a:First ps cols s d q)(s1:1<=s)(s2:s<=cols)(s3:cols<=6)(d1:1<=d)(d2:d<=4):PsOk cols (ps++[q]):=by
 intro p hp;rw[qJ,uM];rcases rG.mp hp with h | h
 .have:=ok p h;omega
 .let e:p=q:=‹h›
  let h1:=a.row ok s2;let h2:=a.es;let h3:=a.ed;let h4:=a.ec;subst e;omega
def wv(cs:List (Nat×Nat)):=∀c∈cs,1<=c.1/\c.1<=6/\1<=c.2/\c.2<=4
inductive Placed(cols:Nat):List (Nat×Nat)->List Pl->Prop
 | nil:Placed cols [] []
 | snoc {cs:List (Nat×Nat)} {ps:List Pl} {x:Nat×Nat} {q:Pl}:Placed cols cs ps->First ps cols (min x.1 cols) x.2 q->Placed cols (cs++[x]) (ps++[q])
def Placed.uniq{cols:Nat}{cs:List (Nat×Nat)}(a:Placed cols cs ps):∀{qs:List Pl},Placed cols cs qs->ps=qs:=by
 induction a with
 | nil =>
   intro qs b
   generalize e:([]:List (Nat×Nat))=z at b
   cases b with
   | nil=>rfl
   | snoc _ _=>simp at e
 | @snoc cs ps x q a1 a2 ih =>
   intro qs b
   generalize e:cs++[x]=z at b
   cases b with
   | nil=>simp at e
   | @snoc cs' ww x' q' b1 b2 =>
     let⟨e1,e2⟩:=List.append_inj' e O
     let e3:x=x':=‹e2›
     subst e1 e3
     have:=ih b1
     subst this
     rw[a2.uniq b2]
def Placed.len{cols:Nat}{cs:List (Nat×Nat)}(a:Placed cols cs ps):ps⁻¹=cs⁻¹:=by
 induction a with
 | nil=>rfl
 | snoc _ _ ih=>rw[qJ,qJ,ih];rfl
section
variable{X:Cx}
open PySem Spec PyProof.Rows in
def Yv(hc:X.calm=true):eB X (.builtin "any") (λxs H Q=>∃(p:Addr) (bs:List Bool),xs=[.ref p]/\SqL X.K H p (bs.map V.bl)/\Q (.bl (bs.any id)) H):=by
 intro aa s σ H xs us Q I r h;let⟨p,bs,rfl,hp,q⟩:=h;let⟨u,rfl,rx⟩:=vals1 r;cases rx;let⟨ah,rv,pl,hz⟩:=I.list hp;let hh:=I.ok.hd hc;show call_any_walk (xU pl.isList ?_);let lp:p< ~~~s:=by
  let⟨o,e,_⟩:=pl.isList;show qK e
 have Yw:∀(i:Nat) (v:Value),ah.toArray[i]?=!v->v=.bool (bs.getD i false):=λi v e=>by
  let e':ah[i]?=!v:=‹e›
  cases z:bs[i]? with
  | none =>
    let h1:=rv⁻¹
    rw[qA]at h1
    let h2:=(qE.mp e').1
    let h3:=List.getElem?_eq_none_iff.mp z
    omega
  | some b =>
    let⟨u,e2,r2⟩:=rv.get (i:=i) (x:=.bl b) (by rw[qH,z];rfl)
    rw[e']at e2
    cases e2
    cases r2
    rw[qW,z]
    rfl
 show⟨~~~s,_,_,_,_,_,λi=>bs.getD i false,O,Walks.list ‹hh› (~~~s) p (rD lp) ah.toArray,⟨⟨_,qQ _ O,O,O⟩,pl.isList.push _⟩,λi v s' Q' E' e hq=>?_,λh' tk k=>?_⟩
 .rw[Yw i v e];show yL hq
 .let ev:(List.range ah.toArray.size).any (λi=>bs.getD i false)=bs.any id:=by
   let hl:ah.toArray.size=bs⁻¹:=by rw[rC,<-rv⁻¹,qA]
   rw[hl];rw[yZ];simp only[List.any_eq_true,List.mem_range,id];constructor
   .ext⟨i,hi,z⟩;rw[qW,qB hi]at z;show⟨_,rJ hi,z⟩
   .ext⟨x,hx,z⟩;let⟨i,hi,e⟩:=xA.mp hx;show⟨i,hi,?_⟩;rw[qW,qB hi,e];show z
  rw[ev];show⟨.bl (bs.any id),H,I.kept λb o e=>k b o ‹rD (qK e)› (qF _ e),O,q⟩
end
def TupAt(H:Hp)(a:Addr)(x:Nat×Nat):=H a=!.tup [.int x.1,.int x.2]
def PlAt(H:Hp)(a:Addr)(p:Pl):=H a=!.tup p.vs
def LstAt{β:Type}(F:Hp->Addr->β->Prop)(H:Hp)(L:Addr)(xs:List β):=∃as:TQ,H L=!.lst ↑as/\Paired (F H) as xs
def Tups(H H':Hp):=∀b xs,H b=!.tup xs->H' b=!.tup xs
def Tups.of(s:Same H H'):Tups H H':=λb _ e=>s b _ e
def Tups.trans(a:Tups H H1)(b:Tups H1 H2):Tups H H2:=λc xs e=>b c xs (a c xs e)
def Tups.lst(h:H L=!.lst ys):Tups H (af H L o):=λb xs e=>by
 rw[aM (λz=>by rw[z,h]at e;cases e)];show e
def Tups.dct{aj:List (List aV×V)}(h:H L=!.dT aj):Tups H (af H L o):=λb xs e=>by
 rw[aM (λz=>by rw[z,h]at e;cases e)];show e
def PlAt.keep(t:Tups H H')(h:PlAt H a x):PlAt H' a x:=t _ _ h
def qo(t:Tups H H'){xs:List (Nat×Nat)}(h:Paired (TupAt H) as xs):Paired (TupAt H') as xs:=h.mono λ_ _ z=>t _ _ z
def M8(t:Tups H H')(h:Paired (PlAt H) as xs):Paired (PlAt H') as xs:=h.mono λ_ _ z=>t _ _ z
def LstAt.tup(s:Same H H'){xs:List (Nat×Nat)}(h:LstAt TupAt H L xs):LstAt TupAt H' L xs:=by
 let⟨as,e,p⟩:=h;show⟨as,s _ _ e,qo (.of s) p⟩
def Tk(H:Hp)(a:Addr)(ps:List Pl)(n:Nat):=∃aj,H a=!.dT aj/\aj⁻¹<=n/\∀x:Nat×Nat,(bP aj [.inl x.1,.inl x.2]).isSome=ps.any λp=>iS p x
inductive BB:List V->Hp->VK->XK->Prop
|m (t:Addr) (p:Pl):vs=[.ref t]->PlAt H t p->p.d<=4->p.s<=6->p.r<=1000->p.c<=1000->(∀(L:Addr) (H':Hp),H L=none->Same H H'->LstAt TupAt H' L (gd p)->Q (.ref L) H')->BB vs H Q E
inductive Fm:List V->Hp->VK->XK->Prop
|m (tk:Addr) (cols s d n:Nat) (ps:List Pl):vs=[.int cols,.ref tk,.int s,.int d]->Tk H tk ps n->PsOk cols ps->ps⁻¹<=100->1<=s->s<=cols->cols<=6->1<=d->d<=4->(∀(t:Addr) (H':Hp) (q:Pl),First ps cols s d q->PlAt H' t q->Same H H'->Q (.ref t) H')->Fm vs H Q E
inductive BC:List V->Hp->VK->XK->Prop
|m (cl:Addr) (cols:Nat) (cs:List (Nat×Nat)):vs=[.int cols,.ref cl]->LstAt TupAt H cl cs->wv cs->cs⁻¹<=100->1<=cols->cols<=6->(∀(L:Addr) (H':Hp) (ps:List Pl),H L=none->Same H H'->LstAt PlAt H' L ps->Placed cols cs ps->PsOk cols ps->Q (.ref L) H')->BC vs H Q E
structure qp(mg:TJ):Prop where
 isinstance:mg "isinstance" = none
 len:mg "len" = none
 range:mg "range" = none
 int:mg "int" = none
 bool:mg "bool" = none
 list:mg "list" = none
 tuple:mg "tuple" = none
 any:mg "any" = none
 min:mg "min" = none
 max:mg "max" = none
 sum:mg "sum" = none
 zip:mg "zip" = none
structure BD(mg:TJ):Prop where
 row:∃t,mg "ROW" = !.int 0 t
 column:∃t,mg "COLUMN" = !.int 1 t
 span:∃t,mg "SPAN" = !.int 2 t
 deep:∃t,mg "DEEP" = !.int 3 t
def Yx:bootBuiltins "any" = !.builtin "any":=by ac_rfl
def mK:bootBuiltins "min" = !.builtin "min":=by ac_rfl
def dU:bootBuiltins "max" = !.builtin "max":=by ac_rfl
def fJ:bootBuiltins "sum" = !.builtin "sum":=by ac_rfl
end Gd
namespace L2
open PyProof.Rows
def Yy{P:Program}{w:World}{K:W.Frag}{tg:Expr}(x:Str)(t:Tok)(it:Addr):jK P w K tg (Et x) [it] it (λi h=>h.IsStrIter it "str_ascii_iterator" x t i) where
 mem:=∅
 obj:=λi h st b hb=>by
  let e:b=it:=‹hb›
  subst e;let⟨o,e,c,d⟩:=st;show⟨o,e,λv z=>by rw[d]at z;cases z⟩
 keep:=λi h h' st k=>by
  let⟨o,ho,r⟩:=st;show⟨o,k it ∅ o ho,r⟩
 item:=by
  intro X hP hw hK hc i aa s σ H E I hf st hg;subst hP hw hK;let Fn:i<x.cps.size:=hg;let⟨f0,f1,f2,f3,f4,f5⟩:=hf it ∅;let hx:x.cps[i]?=!x.cps[i]:=by simp[Fn]
  show wpAny_pyNext_ascii_item st hx λh' aQ sb=>?_
  let I1:Inv X aa σ H {s with heap:=h',toks:=s.toks+1}:=I.turned (t':=s.toks+1) (λb o hb e=>(sb.2 b hb).trans e) f0 f1 f3 f4 f5;let⟨o,e,c,d⟩:=id aQ;show-⟨AM (s:={s with heap:=h',toks:=s.toks+1}) e c d {} ⟨.str ⟨#[x.cps[i]]⟩,H,I1,⟨_,O⟩,⟨O,_,hx,O⟩,aQ,λb hb=>(hf b hb).1⟩⟩
 done:=by
  intro X hP hw hK hc i aa s σ H E I hf st hg;subst hP hw hK;let Fn:x.cps.size<=i:=hg;let⟨f0,f1,f2,f3,f4,f5⟩:=hf it ∅;show wpAny_pyNext_ascii_end (I.ok.hd hc) st (by simp[Fn]) λh' eb=>⟨O,I.turned (t':=s.toks) (λb o hb e=>eb b o hb e) f0 f1 f3 f4 f5⟩
 self:=λ_ _ _ _ _ st h=>wpAny_pyIter_striter_ascii st h
inductive M'(R:It->Hp->Prop):V->Hp->Prop
|m {x H1} z:x=.str z->z.cps.all (·< 128)=true->R (Et z) H1->M' R x H1
def Yz(tl:TE):TI:=λσ H R=>tl σ H (M' R)
section
variable{X:Cx}{tg:Expr}
def Na{l:Expr}{tl:TE}(hl:PE X l tl):PI X tg l (Yz tl):=by
 intro aa s σ H R I h;show aR (hl aa s σ H _ I h) λv s1 ⟨x,H1,I1,r1,q1⟩=>?_
 let⟨z,rfl,ha,q⟩:=q1;let⟨t,rfl⟩:=r1;show wpAny_pyIter_ascii ha ?_;show⟨~~~s1,[~~~s1],_,_,H1,O,I1.kept (t':=s1.toks) λb o e=>qF _ e,Yy z t _,⟨_,qQ _ O,O,O⟩,λb hb=>?_,q⟩;let e:b= ~~~s1:=‹hb›
 subst e;show I1.fpOk (qG _) (I1.hok.fresh (qG _))
end
def Nb{own:Nat}{ix:TM}(Pv:Nat->List V->St->Hp->Prop)(hz:x.cps.size<sizeLine)(h0:Pv 0 [] (iM own ix σ) H)(hs:∀i c ys ae H',x.cps[i]?=!c->Pv i ys ae H'->g (.str ⟨#[c]⟩) ae H' λa0 H3=>tt a0 H3 λb H4=>if b=true then te a0 H4 λv H5=>Pv (i+1) (ys++[v]) a0 H5 else Pv (i+1) ys a0 H4)(hd:∀ys ae H',Pv x.cps.size ys ae H'->∀D,H' D=none->Q (.ref D) (af H' D (.lst ys))):p7 own ix g tt te (Et x) σ H Q:=by
 show⟨λi m ys σ H=>m=x.cps.size-i/\i<=x.cps.size/\Pv i ys σ H,⟨x.cps.size,∅,rO _,h0⟩,?_⟩;ext i m ys σ H ⟨rfl,hi,p⟩ hy;show⟨(),?_⟩
 by_cases aZ:i<x.cps.size
 .show .inr ⟨aZ,Pv (i+1),λzs ae H' p'=>⟨x.cps.size-(i+1),(),O,aZ,p'⟩,λv H' y=>?_⟩;let⟨e,c,hc,e2⟩:=y;subst e e2;show hs i c ys σ _ hc p
 .let e:i=x.cps.size:=()
  subst e;show .inl ⟨qG _,hd ys σ H p⟩
def BE{K:W.Frag}{a:Addr}{xs:List V}{g:TG}{tb:TS}{D:iH}{σ:St}{H:Hp}(Pv:Nat->St->Hp->Prop)(h0:Pv 0 σ H)(hl:∀i σ H,i<=xs⁻¹->Pv i σ H->SqL K H a xs)(hs:∀i x σ H T,xs[i]?=!x->H T=none->Pv i σ H->g (.ref T) σ (af H T (.tup [.int (i:Nat),x])) λa0 H2=>tb {D with nx:=Pv (i+1),ct:=Pv (i+1),bk:=D.nx} a0 H2)(hd:∀σ H,Pv xs⁻¹ σ H->D.nx σ H) :
  ∃W:Nat->Nat->St->Hp->Prop,(∃m,W 0 m σ H)/\∀i m σ H,W i m σ H ->
   ((p9 K a).stop i H/\D.nx σ H)\/((p9 K a).go i H/\∃N:St->Hp->Prop,(∀ae H',N ae H'->∃m',m'<m/\W (i+1) m' ae H')/\∀x H',(p9 K a).yld i H x H'->g x σ H' λa0 H2=>tb {D with nx:=N,ct:=N,bk:=D.nx} a0 H2):=by
 show⟨λi m σ H=>m=xs⁻¹-i/\i<=xs⁻¹/\Pv i σ H,⟨xs⁻¹,∅,rO _,h0⟩,?_⟩;ext i m σ H ⟨rfl,hi,p⟩;let q:=hl i σ H hi p
 by_cases aZ:i<xs⁻¹
 .show .inr ⟨⟨xs,xs[i],q,by simp[aZ]⟩,Pv (i+1),λae H' p'=>⟨xs⁻¹-(i+1),(),O,aZ,p'⟩,λx H' y=>?_⟩;let⟨T,z,hT,e1,e2,y⟩:=y;subst e1 e2;show hs i z σ _ T (y xs q) hT p
 .let e:i=xs⁻¹:=()
  subst e;show .inl ⟨⟨xs,q,qG _⟩,hd σ H p⟩
section
variable{X:Cx}
def YA:eB X (.type "range") (λxs H Q=>∃n:Nat,xs=[.int n]/\n<=1000000/\∀r,H r=none->Q (.ref r) (af H r (.rng 0 n))):=by
 intro aa s σ H xs us Q I r h;let⟨n,rfl,hn,q⟩:=h;let⟨u,rfl,t,rfl⟩:=vals1 r;show call_range_1 ⟨.ref (~~~s),af H (~~~s) (.rng 0 n),I.laid (λb o e=>qF _ e) (qG _) ?_,O,q _ (I.hok.fresh (qG _))⟩;show⟨_,_,_,qQ _ O⟩
def Fo(K:W.Frag)(a b:Addr):It :=
 ⟨λi H=>∃xs ys x y,SqL K H a xs/\SqL K H b ys/\xs[i]?=!x/\ys[i]?=!y,
  λi H v H'=>∃T x y,H T=none/\v=.ref T/\H'=af H T (.tup [x,y])/\∀xs ys,SqL K H a xs->SqL K H b ys->xs[i]?=!x/\ys[i]?=!y,
  λi H=>∃xs ys,SqL K H a xs/\SqL K H b ys/\(xs⁻¹<=i\/ys⁻¹<=i)⟩
structure YB(h:Heap)(z TI TO i1 i2 l1 l2:Addr)(i:Nat):Prop where
 hz:IsZip h z TI TO .none
 ti:IsPair h TI (.ref i1) (.ref i2)
 to:∃a b,IsPair h TO a b
 it1:h.IsListIter i1 l1 i
 it2:h.IsListIter i2 l2 i
def dO{h:Heap}{l b:Addr}{xs:Array Value}{o:Obj}(hl:h.IsList l xs)(hb:h.get? b=!o)(hc:o.cls≠.type "list"):l≠b:=by
 ext rfl;let⟨o',e,c,_⟩:=hl;rw[hb]at e;cases e;show hc c
def YC{P:Program}{w:World}{K:W.Frag}{ji:TW}{k1:Nat}{tp:Pos}(l1 l2 z TI TO i1 i2:Addr)(d1:TI≠z)(d2:TO≠z)(d3:i1≠z)(d4:i2≠z)(d5:TI≠TO)(d6:TI≠i1)(d7:TI≠i2)(d8:TO≠i1)(d9:TO≠i2)(Fp:i1≠i2) :
  jK P w K (.Tuple ji k1 tp) (Fo K l1 l2) [z,TI,TO,i1,i2] z (λi h=>YB h z TI TO i1 i2 l1 l2 i) where
 mem:=∅
 obj:=λi h st b hb=>by
  let c1:=st.hz;let c2:=st.ti;let⟨a,b',c3⟩:=st.to;let⟨o4,e4,_,g4⟩:=st.it1;let⟨o5,e5,_,g5⟩:=st.it2;rcases qM.mp hb with rfl | hb
  .show⟨_,c1,λv z=>by cases z⟩
  rcases qM.mp hb with rfl | hb
  .show⟨_,c2,λv z=>by cases z⟩
  rcases qM.mp hb with rfl | hb
  .show⟨_,c3,λv z=>by cases z⟩
  rcases qM.mp hb with rfl | hb
  .show⟨_,e4,λv z=>by rw[g4]at z;cases z⟩
  .have:b=i2:=‹hb›
   subst this;show⟨_,e5,λv z=>by rw[g5]at z;cases z⟩
 keep:=λi h h' st k=>by
  let⟨a,b',c3⟩:=st.to;show⟨k z ∅ _ st.hz,k TI ∅ _ st.ti,⟨a,b',k TO ∅ _ c3⟩,st.it1.at λo e=>k i1 ∅ o e,st.it2.at λo e=>k i2 ∅ o e⟩
 item:=by
  intro X hP hw hK hc i aa s σ H E I hf st hg;subst hP hw hK;let⟨xs,ys,x,y,qq,qt,hx,hy⟩:=hg;let⟨wz,k9,p1,Nc⟩:=I.list qq;let⟨gu,lq,p2,oI⟩:=I.list qt;let⟨u1,cV,Fq⟩:=k9.get hx;let⟨u2,Fs,Ft⟩:=lq.get hy;let⟨ta,tb,to⟩:=st.to;let⟨o4,e4,c4,g4⟩:=id st.it1;let⟨o5,e5,c5,g5⟩:=id st.it2;let nz:Value.type "zip" ≠ Value.type "list":={}
  let nt:Value.type "tuple" ≠ Value.type "list":={}
  let n4:o4.cls≠.type "list":=by rw[c4];decide
  let n5:o5.cls≠.type "list":=by rw[c5];decide
  let D:ZipApart z TI TO i1 i2 l1 l2:=⟨d1,d2,d3,d4,d5,d6,d7,d8,d9,Fp,dO p1.isList st.hz nz,dO p1.isList to nt,dO p1.isList e4 n4,dO p1.isList e5 n5,dO p2.isList st.hz nz,dO p2.isList to nt,dO p2.isList e4 n4,dO p2.isList e5 n5⟩;show wpAny_pyNext_zip_item D st.hz st.ti to st.it1 st.it2 p1.isList p2.isList (x:=u1) (y:=u2) ‹cV› ‹Fs› λh' xa Fv Fy Fz hT hsz hk=>?_
  show-⟨wpAny_letOwnedTupleGo_zip xa λh2 oI sb=>?_⟩;let oJ:z< ~~~s:=qK st.hz;let YE:TO< ~~~s:=qK to;let Eg:i1< ~~~s:=qK e4;let blt:i2< ~~~s:=qK e5;let Es:TI< ~~~s:=qK st.ti;let k2:∀b o,b∉[z,TI,TO,i1,i2]->s.heap.get? b=!o->h2.get? b=!o:=λb o hb e=>(sb.2 b (λq=>hb (by simp[q]))).trans (hk b o (λq=>hb (by simp[q])) (λq=>hb (by simp[q])) (λq=>hb (by simp[q])) (λq=>hb (by simp[q])) e)
  let gT:h2.get? (~~~s)=!{cls:=.type "tuple",data:=.seq #[u1,u2]}:=(sb.2 _ (yJ oJ)).trans hT;let I1:Inv X aa σ H {s with heap:=h2,toks:=s.toks}:=I.moved hf k2;let hn:H (~~~s)=none:=I.hok.fresh (qG _);show⟨.ref (~~~s),af H (~~~s) (.tup [x,y]),I1.track ?_ hn (yJ I.lt) (λy c ec z=>?_) (λq hq z=>?_) ?_,O,⟨~~~s,x,y,hn,O,O,λYF YG h1 h2=>by rw[I.list_inj h1 qq,I.list_inj h2 qt];show⟨hx,hy⟩⟩,?_,λb hb=>?_⟩
  .cases z:X.s₀.heap.get? (~~~s) with
   | none=>rfl
   | some u=>show qT (rB (qK z) I.sz) (rQ _)
  .let⟨v,q⟩:=I.cell y c ec;show qT q.lt (by rw[z];show rQ _)
  .show qT (qK (I.pin q hq).1) (by rw[z];show rQ _)
  .show⟨by show 2<=sizeLine;decide,[u1,u2],.cons Fq (.cons Ft .nil),_,gT,O,_,O⟩
  .let FB:h'.get? TI=!_:=hk TI _ d1 d5 d6 d7 st.ti;show⟨oI,(sb.2 _ d1).trans FB,⟨_,_,(sb.2 _ d2).trans Fv⟩,Fy.at λo e=>(sb.2 _ d3).trans e,Fz.at λo e=>(sb.2 _ d4).trans e⟩
  .have blt':b< ~~~s:=by
    rcases qM.mp hb with rfl | hb
    .show oJ
    rcases qM.mp hb with rfl | hb
    .show Es
    rcases qM.mp hb with rfl | hb
    .show YE
    rcases qM.mp hb with rfl | hb
    .show Eg
    .have:b=i2:=‹hb›
     rw[this];show blt
   rw[aM (rD blt')];show(hf b hb).1
 done:=by
  intro X hP hw hK hc i aa s σ H E I hf st hg;subst hP hw hK;let⟨xs,ys,qq,qt,hx⟩:=hg;let⟨wz,k9,p1,Nc⟩:=I.list qq;let⟨gu,lq,p2,oI⟩:=I.list qt;let qu:=k9⁻¹;let fD:=lq⁻¹;let⟨ta,tb,to⟩:=st.to;let⟨o4,e4,c4,g4⟩:=id st.it1;let⟨o5,e5,c5,g5⟩:=id st.it2;let nz:Value.type "zip" ≠ Value.type "list":={}
  let nt:Value.type "tuple" ≠ Value.type "list":={}
  let n4:o4.cls≠.type "list":=by rw[c4];decide
  let n5:o5.cls≠.type "list":=by rw[c5];decide
  let D:ZipApart z TI TO i1 i2 l1 l2:=⟨d1,d2,d3,d4,d5,d6,d7,d8,d9,Fp,dO p1.isList st.hz nz,dO p1.isList to nt,dO p1.isList e4 n4,dO p1.isList e5 n5,dO p2.isList st.hz nz,dO p2.isList to nt,dO p2.isList e4 n4,dO p2.isList e5 n5⟩;show wpAny_pyNext_zip_end (I.ok.hd hc) D st.hz st.ti to st.it1 st.it2 p1.isList p2.isList ?_ λh' eb=>⟨O,I.moved (t':=s.toks) hf λb o hb e=>eb b o (λq=>hb (by simp[q])) (λq=>hb (by simp[q])) (λq=>hb (by simp[q])) (λq=>hb (by simp[q])) e⟩
  rcases hx with hx | hx
  .show .inl (by simp;omega)
  .show .inr (by simp;omega)
 self:=λ_ _ _ _ _ st h=>wpAny_pyIter_zip st.hz h
def Nf:bootBuiltins "zip" = !.type "zip":=by ac_rfl
inductive Ng(K:W.Frag)(R:It->Hp->Prop):List V->Hp->Prop
|m {vs H1} a b:vs=[.ref a,.ref b]->(∃xs,SqL K H1 a xs)->(∃ys,SqL K H1 b ys)->R (Fo K a b) H1->Ng K R vs H1
def YH(K:W.Frag)(ta:TA):TI:=λσ H R=>ta σ H (Ng K R)
def FC{ji:TW}{k1:Nat}(hg:Gl X "zip")(hm:X.mg "zip" = none)(ha:PA X [a,b] ta)(hs:starEach [a,b] X.env=[(false,eval a X.env),(false,eval b X.env)]:=by rfl)(fA:starEach [b] X.env=[(false,eval b X.env)]:=by rfl) :
  PI X (.Tuple ji k1 tp) (.Call (.Name "zip" p) [a,b] [] pos) (YH X.K ta):=by
 intro aa s σ H R I h;show Call_ (jG I hg hm Nf (xV (aR (ha pos aa s σ H _ I h) λus s1 ⟨vs,H1,I1,r1,q1⟩=>?_) (by rw[hs,fA]) (by rw[fA];rfl)));let⟨l1,l2,e,⟨xs,qq⟩,⟨ys,qt⟩,q⟩:=q1;subst e;cases r1 with
 | cons r rr =>
   cases rr with
   | cons r' FD =>
     cases FD
     cases r
     cases r'
     let⟨wz,k9,p1,Nc⟩:=I1.list qq
     let⟨gu,lq,p2,oI⟩:=I1.list qt
     show call_zip_2 p1.isList p2.isList λh' hz BF BG it1 it2 hsz hk=>?_
     let I2:Inv X aa σ H1 {s1 with heap:=h'}:=I1.kept (t':=s1.toks) hk
     show wpAny_pyIter_zip hz ⟨~~~s1+4,[~~~s1+4,~~~s1+2,~~~s1+3,~~~s1,~~~s1+1],_,_,H1,O,I2,
       YC l1 l2 (~~~s1+4) (~~~s1+2) (~~~s1+3) (~~~s1) (~~~s1+1) (show(~~~s1+2:Nat)≠~~~s1+4 by omega) (show(~~~s1+3:Nat)≠~~~s1+4 by omega) (show(~~~s1  : Nat)≠~~~s1+4 by omega) (show(~~~s1+1:Nat)≠~~~s1+4 by omega) (show(~~~s1+2:Nat)≠~~~s1+3 by omega) (show(~~~s1+2:Nat)≠~~~s1  by omega) (show(~~~s1+2:Nat)≠~~~s1+1 by omega) (show(~~~s1+3:Nat)≠~~~s1  by omega) (show(~~~s1+3:Nat)≠~~~s1+1 by omega) (show(~~~s1  : Nat)≠~~~s1+1 by omega),⟨hz,BF,⟨_,_,BG⟩,it1,it2⟩,λb hb=>?_,q⟩
     have hb': ~~~s1<=b:=by
       rcases qM.mp hb with rfl | hb
       · show yX _ _
       rcases qM.mp hb with rfl | hb
       · show yX _ _
       rcases qM.mp hb with rfl | hb
       · show yX _ _
       rcases qM.mp hb with rfl | hb
       · show qG _
       · have:b= ~~~s1+1:=‹hb›
         rw[this];show yX _ _
     show I1.fpOk hb' (I1.hok.fresh hb')
theorem BH(ns:TN):∀j,preSum (λi=>ns.getD i 0) j=(ns.take j).sum
 | 0=>by simp[preSum]
 | j + 1 => by
   rw[preSum,BH ns j,qO,List.sum_append,qW]
   cases ns[j]?<;>simp
theorem BI{B:Int}(hB:0<=B):∀{ns:TN},(∀x∈ns,0<=x/\x<=B)->0<=ns.sum/\ns.sum<=ns⁻¹*B
 | [],_=>∅
 | x :: l, h => by
   let h1:=h x rE
   let h2:=BI hB (λy hy=>h y (qS _ hy)) (ns:=l)
   rw[List.sum_cons,rH]
   let e:(((l⁻¹+1:Nat)):Int)*B=l⁻¹*B+B:=by rw[Int.natCast_add,Int.add_mul];simp
   rw[e]
   omega
def YI(K:W.Frag):List V->Hp->VK->Prop:=λxs H Q=>∃(p:Addr) (ns:TN),xs=[.ref p]/\SqL K H p ⇑ns/\ns⁻¹<=1000/\(∀x∈ns,0<=x/\x<=1000000)/\Q (.int ns.sum) H
def YJ(K:W.Frag):List V->Hp->VK->Prop:=λxs H Q=>∃(p:Addr) (ns:TN) (m:Int),xs=[.ref p]/\SqL K H p ⇑ns/\m∈ns/\(∀x∈ns,x<=m)/\Q (.int m) H
def lA{ns:TN}(rv:Vals ⇑ns ah):∀(i:Nat) (v:Value),ah.toArray[i]?=!v->∃t,v=.int (ns.getD i 0) t:=λi v e=>by
 let e':ah[i]?=!v:=‹e›
 cases z:ns[i]? with
 | none =>
   let h1:=rv⁻¹
   rw[qA]at h1
   let h2:=(qE.mp e').1
   let h3:=List.getElem?_eq_none_iff.mp z
   omega
 | some n =>
   let⟨u,e2,r2⟩:=rv.get (i:=i) (x:=.int n) (by rw[qH,z];rfl)
   rw[e']at e2
   cases e2
   let⟨t,r3⟩:=r2
   rw[qW,z]
   show⟨t,r3⟩
def YK(hc:X.calm=true):eB X (.builtin "sum") (YI X.K):=by
 intro aa s σ H xs us Q I r h;let⟨p,ns,rfl,hp,hl,hb,q⟩:=h;let⟨u,rfl,rx⟩:=vals1 r;cases rx;let⟨ah,rv,pl,hz⟩:=I.list hp;let hh:=I.ok.hd hc;let lp:p< ~~~s:=by
  let⟨o,e,_⟩:=pl.isList;show qK e
 let hn:ah.toArray.size=ns⁻¹:=by rw[rC,<-rv⁻¹,qA]
 let sb:∀j,0<=(ns.take j).sum/\(ns.take j).sum<=1000000000:=λj=>by
  let h1:=BI (B:=1000000) {} (ns:=ns.take j) λx hx=>hb x (x8 hx)
  let h2:(ns.take j)⁻¹<=1000:=rK (by rw[yC];show Nat.min_le_right _ _) hl;let h3:((ns.take j)⁻¹:Int)*1000000<=1000*1000000:=Int.mul_le_mul_of_nonneg_right () {};omega
 let mem:∀j,0<=ns.getD j 0/\ns.getD j 0<=1000000:=λj=>by
  rw[qW];cases e:ns[j]? with
  | none=>show⟨∅,∅⟩
  | some x=>show hb x (qN e)
 show call_sum_walk (xU pl.isList ?_);show⟨~~~s,_,_,_,_,_,λi=>ns.getD i 0,O,Walks.list ‹hh› (~~~s) p (rD lp) ah.toArray,⟨⟨_,qQ _ O,O,O⟩,pl.isList.push _⟩,λb hb'=>?_,lA rv,λj _=>⟨?_,?_⟩,λh' tk t' k=>?_⟩
 .rw[rM];rcases qM.mp hb' with rfl | hb'
  .show xB _
  .rcases qM.mp hb' with rfl | hb'
   .show xT lp
   .cases hb'
 .have:=mem j;show⟨by show -(2 ^ 63)<=ns.getD j 0;omega,by show ns.getD j 0<2 ^ 63;omega⟩
 .rw[BH];have:=sb (j+1);constructor<;>omega
 .rw[hn,BH,yD];show⟨.int ns.sum,H,I.kept λb o e=>k b o ‹rD (qK e)› (qF _ e),⟨t',O⟩,q⟩
def FE(K:W.Frag)(hK:X.K=K):DT X (pY K):=by
 subst hK;show mw
def Nh{ns:TN}{m:Int}{n:Nat}(hn:n=ns⁻¹)(hm:m∈ns)(le:∀x∈ns,x<=m):ns.getD (argBest (λi j=>decide (ns.getD i 0>ns.getD j 0)) (n-1)) 0=m:=by
 let⟨h1,h2⟩:=argBest_gt (λi=>ns.getD i 0) (n-1);let⟨j,hj,e⟩:=xA.mp hm;let h3:=h2 j ();let e1:ns.getD j 0=m:=by rw[qW,qB hj,e];rfl
 let h4:argBest (λi j=>decide (ns.getD i 0>ns.getD j 0)) (n-1)<ns⁻¹:=()
 let h5:=le _ (rJ h4);let e2:ns.getD (argBest (λi j=>decide (ns.getD i 0>ns.getD j 0)) (n-1)) 0=ns[argBest (λi j=>decide (ns.getD i 0>ns.getD j 0)) (n-1)]:=by
  rw[qW,qB h4];rfl
 rw[e2]at h3⊢;rw[e1]at h3;omega
def oK(hc:X.calm=true):eB X (.builtin "max") (YJ X.K):=by
 intro aa s σ H xs us Q I r h;let⟨p,ns,m,rfl,hp,hm,le,q⟩:=h;let⟨u,rfl,rx⟩:=vals1 r;cases rx;let⟨ah,rv,pl,hz⟩:=I.list hp;let hh:=I.ok.hd hc;let lp:p< ~~~s:=by
  let⟨o,e,_⟩:=pl.isList;show qK e
 let hn:ah.toArray.size=ns⁻¹:=by rw[rC,<-rv⁻¹,qA]
 let h0:0<ah.toArray.size:=by rw[hn];show List.length_pos_of_mem hm
 show call_max_walk (xU pl.isList ?_);show⟨~~~s,_,_,_,_,_,_,O,Walks.list ‹hh› (~~~s) p (rD lp) ah.toArray,⟨⟨_,qQ _ O,O,O⟩,pl.isList.push _⟩,λb hb'=>?_,h0,CmpOf.ints_gt (λi=>ns.getD i 0) (lA rv),λv h' tk hP k=>?_⟩
 .rw[rM];rcases qM.mp hb' with rfl | hb'
  .show xB _
  .rcases qM.mp hb' with rfl | hb'
   .show xT lp
   .cases hb'
 .let⟨t,rfl⟩:=lA rv _ _ hP;rw[Nh hn hm le];show⟨.int m,H,I.kept λb o e=>k b o ‹rD (qK e)› (qF _ e),⟨t,O⟩,q⟩
end
abbrev Ni(prog:Program)(w:World)(A:Around)(Q:TH)(E:TH)(r:Result)(s:Shared):Prop :=
 match r with
 | .ok (.ret v)=>Q v s
 | .ok _=>False
 | .error e=>E e s
section
variable{prog:Program}{w:World}{A:Around}{E:TH}{s:Shared}
def YM{id:String}{kw:List (Str×Value)}{Q:TH}(hk:builtinKind id=none)(hp:plainId id=true)(hb:entryFor table id=!b)(ha:argsOk id ⟨args,kw⟩)(hc:wpAny (model prog w) A.in1 (b ⟨args,kw⟩) (λfin s'=>match fin with
   | .done f=>Ni prog w A Q E (.ok f) s'
   | .again c=>c.quiet=true/\codeAny (model prog w) A c (Ni prog w A Q E) s') E s):wpAny (model prog w) A (call (.builtin id) args kw) Q E s:=by
 show wpAny_call (codeAny_call_builtin hp hb ?_);simp only[checkBuiltinCall,hk];cases sg:Manifest.signature? id with
 | none=>show qL hc
 | some YN =>
   let z:Bind.checkArgs id YN ⟨args,kw⟩=pure Unit.unit:=by simpa only[argsOk,sg]using ha
   simp only[z]
   show qL hc
variable{I:Addr}{fp wr:TQ}{n:Nat}{P:Nat->Value->Prop}{St:Nat->Heap->Prop}{R:Result->Shared->Prop}{kw:List (Str×Value)}
end
def FF{K:W.Frag}{a b:Addr}{xs ys:List V}{own:Nat}{ix:TM}{g:TG}{tt:TT}{te:TE}{σ:St}{H:Hp}{Q:VK}(bT:xs⁻¹=ys⁻¹)(Pv:Nat->List V->St->Hp->Prop)(hz:xs⁻¹<sizeLine)(h0:Pv 0 [] (iM own ix σ) H)(hl:∀i zs ae H',i<=xs⁻¹->Pv i zs ae H'->SqL K H' a xs/\SqL K H' b ys)(hs:∀i x y zs ae H' T,xs[i]?=!x->ys[i]?=!y->H' T=none->Pv i zs ae H'->g (.ref T) ae (af H' T (.tup [x,y])) λa0 H3=>tt a0 H3 λb H4=>if b=true then te a0 H4 λv H5=>Pv (i+1) (zs++[v]) a0 H5 else Pv (i+1) zs a0 H4)(hd:∀zs ae H',Pv xs⁻¹ zs ae H'->∀D,H' D=none->Q (.ref D) (af H' D (.lst zs))):p7 own ix g tt te (Fo K a b) σ H Q:=by
 show⟨λi m zs σ H=>m=xs⁻¹-i/\i<=xs⁻¹/\Pv i zs σ H,⟨xs⁻¹,∅,rO _,h0⟩,?_⟩;ext i m zs σ H ⟨rfl,hi,p⟩ hy;let⟨q1,q2⟩:=hl i zs σ H hi p;show⟨(),?_⟩
 by_cases aZ:i<xs⁻¹
 .show .inr ⟨⟨xs,ys,xs[i],ys[i],q1,q2,by simp[aZ],by simp[<-bT,aZ]⟩,Pv (i+1),λws ae H' p'=>⟨xs⁻¹-(i+1),(),O,aZ,p'⟩,λx H' y=>?_⟩;let⟨T,x1,y1,hT,e1,e2,y⟩:=y;subst e1 e2;let⟨z1,z2⟩:=y xs ys q1 q2;show hs i x1 y1 zs σ _ T z1 z2 hT p
 .let e:i=xs⁻¹:=()
  subst e;show .inl ⟨⟨xs,ys,q1,q2,.inl (qG _)⟩,hd zs σ H p⟩
end L2
namespace Gen
open L2 Bk
structure bY(mg:TJ):Prop extends Bn mg where
 any:mg "any" = none
 min:mg "min" = none
 max:mg "max" = none
 sum:mg "sum" = none
 zip:mg "zip" = none
end Gen
namespace L2
open PyProof.Rows
section
variable{prog:Program}{w:World}{A:Around}{E:TH}{s:Shared}
def YO{a:Addr}{o:Obj}{ah:Array Value}{n:Nat}{ks:TV}{x:Str}{t:Tok}{j:Nat}{Q:TH}(ho:s.heap.get? a=!o)(hc:o.cls=.type "tuple")(hd:o.data=.seq ah n)(hl:ah.size=ks⁻¹)(hk:∀(i:Nat) (y:Str),ks[i]?=!y->∃u,ah[i]?=!Value.str y u)(hj:ks[j]?=!x)(aZ:∀i:Nat,i<j->ks[i]?≠!x)(h:∀t',Q (.int j t') {s with toks:=s.toks+1}):wpAny (model prog w) A (call (.builtin "tuple.index") [.ref a,.str x t]) Q E s:=by
 show uK PySem.F.slot_tuple_index ⟨o,ho,hc⟩ PySem.F.entry_tuple_index ?_ (PySem.F.args_tuple_index_2 _ _);unfold Builtin.«tuple.index»;show qC (wpAny_of_eq (show selfAndSome "tuple.index" "index" 1 3 ⟨[.ref a,.str x t],[]⟩=pure (.ref a,[.str x t])from rfl) ?_);show qC (wpAny_tupleItemsOf ho hd ?_);show qC (qL (qC (qL ?_)));dsimp only;rw[Nat.min_self,Std.Legacy.Range.forIn_eq_forIn_range'];show qC (wpAny_forIn_list _ (λrest b s'=>b.1=none/\s'=s/\∃i,i<=j/\rest=List.range' i (ah.size-i)) _ ?_ ?_ _ _ ⟨O,O,0,rO _,?_⟩)
 .rintro i rest b s' ⟨hb,rfl,i',hi,er⟩;let jl:j<ah.size:=by rw[hl];show(qE.mp hj).1
  obtain⟨k,ek⟩:∃k,ah.size-i'=k+1:=⟨ah.size-i'-1,()⟩;rw[ek,List.range'_succ]at er;let⟨rfl,er⟩:=vU er;let il:i<ks⁻¹:=()
  let⟨u,eu⟩:=hk i ks[i] (qB il);rw[eu];show qC (wpAny_eqBool_str ?_)
  by_cases e:ks[i]=x
  .let ij:i=j:=by
    show vF hi (xQ λz=>aZ i z ?_);rw[qB il,e]
   subst ij;rw[qR e];show qC (qC (wpAny_mkInt (qL (qL ?_))));show qL ⟨_,O,h _⟩
  .rw[qV e];let ne:i≠j:=λz=>e (by subst z;rw[qB il]at hj;show qZ hj)
   show qL ⟨O,O,i+1,(),?_⟩;rw[er,show ah.size-(i+1)=k by omega]
 .ext b s' ⟨hb,rfl,i',hi,er⟩;let jl:j<ah.size:=by rw[hl];show(qE.mp hj).1
  have:=xH List.length er;rw[List.length_range']at this;simp at this;omega
 .simp[Std.Legacy.Range.size]
end
inductive Nj(K:W.Frag):V->List V->Hp->VK->Prop
|m (a:Addr) (ks:TV) (y:Str) (j:Nat):x=.ref a->vs=[.str y]->SqT K H a (ks.map V.str)->ks[j]?=!y->(∀i:Nat,i<j->ks[i]?≠!y)->Q (.int j) H->Nj K x vs H Q
section
variable{X:Cx}
def YQ:uf X "tuple.index" (Nj X.K):=by
 intro aa s σ H x xs v us Q I rx rv h;let⟨a,ks,y,j,rfl,rfl,hq,hj,aZ,q⟩:=h;cases rx;let⟨u,rfl,ru⟩:=Vals.one rv;let⟨t,rfl⟩:=ru;let⟨ah,Nk,pl,hz⟩:=I.tuple hq;let hl:ah.toArray.size=ks⁻¹:=by rw[rC,<-Nk.length,qA]
 let⟨o,ho,hc,n,hd⟩:=pl;show YO (ks:=ks) ho hc hd hl (λi z e=>?_) hj aZ λt'=>⟨.int j,H,I.tok _,⟨t',O⟩,q⟩
 let⟨u,e2,r2⟩:=Nk.get (i:=i) (x:=.str z) (by rw[qH,e];rfl);let⟨t2,rfl⟩:=r2;show⟨t2,‹e2›⟩
end
def qv(hi:Int)(n:Nat):It:=⟨λi _=>i<n,λi H x H'=>H'=H/\x=.int (hi-i),λi _=>n<=i⟩
def YR{P:Program}{w:World}{K:W.Frag}{tg:Expr}(it:Addr)(hi:Int)(n:Nat):jK P w K tg (qv hi n) [it] it (λi h=>IsRangeIter h it (hi+(i:Nat)*(-1)) ((n:Int)-(i:Nat)) (-1)) where
 mem:=∅
 obj:=λi h st b hb=>by
  obtain rfl:b=it:=‹hb›
  show⟨_,st,λv z=>?_⟩;let z':Data.fields _=Data.cell v:=z;cases z'
 keep:=λi h h' st k=>k it ∅ _ st
 item:=by
  intro X hP hw hK hc i aa s σ H E I hf st hg;subst hP hw hK;let⟨f0,f1,f2,f3,f4,f5⟩:=hf it ∅;show(Walks.range (prog:=X.prog) (w:=X.w) (I.ok.hd hc) it hi (-1) n).item i s _ _ hg st λv h' tk hv aQ kk=>?_
  let⟨t,rfl⟩:=hv;let I1:Inv X aa σ H {s with heap:=h',toks:=tk}:=I.turned (λb o hb e=>kk b o ‹hb› e) f0 f1 f3 f4 f5;show-⟨AM (s:={s with heap:=h',toks:=tk}) (n := "range_iterator") aQ O O {} ⟨.int (hi-i),H,I1,⟨t,?_⟩,⟨O,O⟩,aQ,λb hb=>(hf b hb).1⟩⟩;rw[show hi+(i:Int)*(-1)=hi-i by omega]
 done:=by
  intro X hP hw hK hc i aa s σ H E I hf st hg;subst hP hw hK;let⟨f0,f1,f2,f3,f4,f5⟩:=hf it ∅;show wpAny_pyNext_range_end (I.ok.hd hc) st (by let z:n<=i:=hg;omega) λh' eb=>⟨O,I.turned (t':=s.toks) (λb o hb e=>eb b o hb e) f0 f1 f3 f4 f5⟩
 self:=λ_ _ _ _ _ st h=>wpAny_pyIter_rangeiter st h
def Nl(a b:Int):Builtin.Range.rangeSize a b (-1)=if a>b then a-b else 0:=by
 unfold Builtin.Range.rangeSize;rw[qY {}]
 split
 .rw[show -(-1:Int)=1 by decide,Int.ediv_one];omega
 .rfl
def small_down{a b:Int}(ha:-(2 ^ 62)<=a)(mL:a<2 ^ 62)(hb:-(2 ^ 62)<=b)(hb':b<2 ^ 62):Builtin.Range.small a b (-1)=true:=by
 unfold Builtin.Range.small;rw[Nl];rw[qY (show¬((-1:Int)>0) by decide)];simp only[Builtin.Range.rangeFitsLong,Bool.and_eq_true,Bool.or_eq_true,decide_eq_true_eq,beq_iff_eq]
 split<;>omega
inductive Nm(R:It->Hp->Prop):List V->Hp->Prop
|m {vs H1} (i j:Int):vs=[.int i,.int j,.int (-1)]->(-(2 ^ 62)<=i/\i<2 ^ 62/\-(2 ^ 62)<=j/\j<2 ^ 62)->R (qv i (i-j).toNat) H1->Nm R vs H1
def YS(ta:TA):TI:=λσ H R=>ta σ H (Nm R)
section
variable{X:Cx}{tg:Expr}
def YT{aa:TF}{R:It->Hp->Prop}{E:TH}{lo hi:Int}{tk:Nat}(I:Inv X aa σ H s)(h1:-(2 ^ 62)<=lo)(h2:lo<2 ^ 62)(h3:-(2 ^ 62)<=hi)(h4:hi<2 ^ 62)(q:R (qv lo (lo-hi).toNat) H) :
  wpAny (model X.prog X.w) X.A (pyIter (.ref (~~~s))) (DI X aa σ tg R) E {s with heap:=s.heap.push {cls:=.type "range",data:=.fields #[.int lo t,.int hi u,.int (-1) v]},toks:=tk}:=by
 show wpAny_pyIter_range (IsRange.new ..) (small_down h1 h2 h3 h4) ?_;let I1:Inv X aa σ H {s with heap:=s.heap.push {cls:=.type "range",data:=.fields #[.int lo t,.int hi u,.int (-1) v]},toks:=tk}:=I.kept λb o e=>qF _ e
 show⟨(s.heap.push {cls:=.type "range",data:=.fields #[.int lo t,.int hi u,.int (-1) v]}).objs.size,[(s.heap.push {cls:=.type "range",data:=.fields #[.int lo t,.int hi u,.int (-1) v]}).objs.size],_,_,H,O,I1.kept (t':=tk) λb o e=>qF _ e,YR _ lo (lo-hi).toNat,?_,λb hb=>?_,q⟩
 .let e1:lo+((0:Nat):Int)*(-1)=lo:=∅
  let e2:(((lo-hi).toNat:Nat):Int)-((0:Nat):Int)=Builtin.Range.rangeSize lo hi (-1):=by rw[Nl];split<;>omega
  show IsRangeIter _ _ (lo+((0:Nat):Int)*(-1)) ((((lo-hi).toNat:Nat):Int)-((0:Nat):Int)) (-1);rw[e1,e2];show qQ _ O
 .obtain rfl:b=(s.heap.push {cls:=.type "range",data:=.fields #[.int lo t,.int hi u,.int (-1) v]}).objs.size:=‹hb›
  show I1.fpOk (qG _) (I1.hok.fresh (qG _))
def FG(hg:Gl X "range")(hm:X.mg "range" = none)(ha:PA X [a,b,c] ta)(hs:starEach [a,b,c] X.env=[(false,eval a X.env),(false,eval b X.env),(false,eval c X.env)]:=by rfl)(fA:starEach [b,c] X.env=[(false,eval b X.env),(false,eval c X.env)]:=by rfl) :
  PI X tg (.Call (.Name "range" p) [a,b,c] [] pos) (YS ta):=by
 intro aa s σ H R I h;show Call_ (jG I hg hm boot_range (xV (aR (ha pos aa s σ H _ I h) λus s1 ⟨vs,H1,I1,r1,q1⟩=>?_) (by rw[hs,fA]) (by rw[fA];rfl)));let⟨i,j,e,⟨q1,q2,q3,q4⟩,q⟩:=q1;subst e;cases r1 with
 | cons r rr => cases rr with
   | cons r' rr => cases rr with
     | cons FH rr =>
       cases rr
       let⟨t,rfl⟩:=r
       let⟨t',rfl⟩:=r'
       let⟨t'',rfl⟩:=FH
       show call_range_3 {} (YT I1 q1 q2 q3 q4 q) (.inl (PyProof.noPylong_small {}))
end
def FI{hi:Int}{n:Nat}{g:TG}{tb:TS}{D:iH}{σ:St}{H:Hp}(Pv:Nat->St->Hp->Prop)(h0:Pv 0 σ H)(hs:∀i σ H,i<n->Pv i σ H->g (.int (hi-i)) σ H λa0 H2=>tb {D with nx:=Pv (i+1),ct:=Pv (i+1),bk:=D.nx} a0 H2)(hd:∀σ H,Pv n σ H->D.nx σ H) :
  ∃W:Nat->Nat->St->Hp->Prop,(∃m,W 0 m σ H)/\∀i m σ H,W i m σ H ->
   ((qv hi n).stop i H/\D.nx σ H)\/((qv hi n).go i H/\∃N:St->Hp->Prop,(∀ae H',N ae H'->∃m',m'<m/\W (i+1) m' ae H')/\∀x H',(qv hi n).yld i H x H'->g x σ H' λa0 H2=>tb {D with nx:=N,ct:=N,bk:=D.nx} a0 H2):=by
 show⟨λi m σ H=>m=n-i/\i<=n/\Pv i σ H,⟨n,∅,rO _,h0⟩,λi m σ H ⟨em,cC,p⟩=>?_⟩;subst em
 by_cases aZ:i<n
 .show .inr ⟨aZ,Pv (i+1),λae H' p'=>⟨n-(i+1),(),O,aZ,p'⟩,λx H' ⟨e,y⟩=>?_⟩;subst e y;show hs i σ _ aZ p
 .obtain rfl:i=n:=()
  show .inl ⟨qG _,hd σ H p⟩
def xb(K:W.Frag):List V->Hp->VK->Prop:=λxs H Q=>∃(p:Addr) (ns:TN),xs=[.ref p]/\SqL K H p ⇑ns/\Q (.int ns.sum) H
section
variable{X:Cx}
def ir(hc:X.calm=true):eB X (.builtin "sum") (xb X.K):=by
 intro aa s σ H xs us Q I r h;let⟨p,ns,rfl,hp,q⟩:=h;let⟨u,rfl,rx⟩:=vals1 r;cases rx;let⟨ah,rv,pl,hz⟩:=I.list hp;let hh:=I.ok.hd hc;let lp:p< ~~~s:=by
  let⟨o,e,_⟩:=pl.isList;show qK e
 let hn:ah.toArray.size=ns⁻¹:=by rw[rC,<-rv⁻¹,qA]
 show call_sum_walkAnyS (xU pl.isList ?_);show⟨~~~s,_,_,_,_,_,_,λi=>ns.getD i 0,O,(Walks.list ‹hh› (~~~s) p (rD lp) ah.toArray).toS,⟨⟨_,qQ _ O,O,O⟩,pl.isList.push _⟩,λb hb'=>?_,lA rv,λs' t' mv=>?_⟩
 .rw[rM];rcases qM.mp hb' with rfl | hb'
  .show xB _
  .rcases qM.mp hb' with rfl | hb'
   .show xT lp
   .cases hb'
 .rw[hn,BH,yD];let⟨h',g',dd,kQ,kI⟩:=s';obtain rfl:g'=s.gens:=mv.gens;obtain rfl:dd=s.drawn:=mv.drawn;obtain rfl:kI=s.os:=mv.os;show⟨.int ns.sum,H,I.kept λb o e=>mv.heap b o ‹rD (qK e)› (qF _ e),⟨t',O⟩,q⟩
end
end L2
namespace Bk
open L2 Gen
end Bk
namespace Gen
open L2 Bk
end Gen
namespace Bk
open L2 Gen
def qw(n:Int)(d:Nd):Bool:=decide (d.e=n)
def kk(l:List Nd)(n:Int):List Kd:=(l.filter (qw n)).map (·.k)
def FJ(a b:List Nd)(n:Int):kk (a++b) n=kk a n++kk b n:=by unfold kk;rw[rS,qD]
def BJ{n:Int}(h:∀d∈l,d.e≠n):kk l n=[]:=by
 unfold kk;rw[List.filter_eq_nil_iff.mpr λd hd=>by simp[qw,h d hd]];rfl
def FK(d:Nd)(l:List Nd)(n:Int):kk (d::l) n=(if d.e=n then[d.k]else[])++kk l n:=by
 unfold kk;rw[uV]
 by_cases h:d.e=n
 .simp[qw,h]
 .simp[qw,h]
structure YU(e i:Nat)(l:List Nd)(ks:List Kd):Prop where
 el:∀d∈l,d.e=(e:Int)\/((i:Int)<=d.e/\d.e<i+l⁻¹)
 top:kk l e=ks
 each:∀k d,l[k]?=!d->Holds d.k (kk l ((i+k:Nat):Int)) d.st/\d.k≠.body
def Forest.all{e i lv:Nat}(x:Forest e i lv l ks):e<i->YU e i l ks:=by
 induction x with
 | nil=>intro _;show⟨(λd hd=>nomatch hd),O,(λk d h=>nomatch h)⟩
 | @cons e i lv d sub rest ks ca h1 h2 h3 f1 h4 f2 mF iO =>
   intro he
   let A:=mF ()
   let B:=iO ()
   let Nn:∀c∈rest,c.e=(e:Int)\/((i+1+sub⁻¹:Nat):Int)<=c.e:=λc hc=>(B.el c hc).imp id And.left
   show⟨λc hc=>?_,?_,λk c hk=>?_⟩
   · rw[List.length_cons,qJ]
     rcases qM.mp hc with rfl | hc
     · show .inl h1
     · rcases rG.mp hc with hc | hc
       · rcases A.el c hc with z | z<;>right<;>omega
       · rcases B.el c hc with z | z
         · show .inl z
         · right;omega
   · rw[FK,qX h1,FJ,BJ (l:=sub) λc hc=>by rcases A.el c hc with z | z<;>omega,B.top]
     rfl
   · rw[FK,FJ,qY ()]
     cases k with
     | zero =>
       cases hk
       rw[show((i+0:Nat):Int)=(i:Int) by simp,A.top,BJ (l:=rest) λc hc=>by rcases Nn c hc with z | z<;>omega,rZ]
       show⟨h4,h3⟩
     | succ k =>
       rw[rW]at hk
       by_cases hs:k<sub⁻¹
       · rw[xE hs]at hk
         let⟨q1,q2⟩:=A.each k c hk
         rw[BJ (l:=rest) λc hc=>by rcases Nn c hc with z | z<;>omega,rZ,show i+(k+1)=i+1+k by omega]
         show⟨q1,q2⟩
       · rw[rL ()]at hk
         let⟨q1,q2⟩:=B.each _ c hk
         rw[BJ (l:=sub) λc hc=>by rcases A.el c hc with z | z<;>omega,show i+(k+1)=i+1+sub⁻¹+(k-sub⁻¹) by omega]
         show⟨q1,q2⟩
def Forest.lev{e i lv:Nat}(x:Forest e i lv l ks):e<i->(∀k d,l[k]?=!d->ds[i+k]?=!d)->(∃u,lv=u+1/\Lev ds e u)->∀k,k<l⁻¹->∃u,u<=6/\Lev ds (i+k) u:=by
 induction x with
 | nil=>intro _ _ _ k hk;show qT hk (xS _)
 | @cons e i lv d sub rest ks ca h1 h2 h3 f1 h4 f2 mF iO =>
   ext he hp ⟨u,rfl,le⟩ k hk
   let ld:Lev ds i (u+1):=.up (hp 0 d O) h1 he le
   let oM:∀k c,sub[k]?=!c->ds[i+1+k]?=!c:=λk c hc=>by
     let jQ:k<sub⁻¹:=(qE.mp hc).1
     have:=hp (k+1) c (by rw[rW,xE jQ];show hc)
     rw[show i+1+k=i+(k+1) by omega];show this
   let fA:∀k c,rest[k]?=!c->ds[i+1+sub⁻¹+k]?=!c:=λk c hc=>by
     have:=hp (sub⁻¹+k+1) c (by rw[rW,rL ()];rw[show sub⁻¹+k-sub⁻¹=k by omega];show hc)
     rw[show i+1+sub⁻¹+k=i+(sub⁻¹+k+1) by omega];show this
   cases k with
   | zero=>show⟨u+1,h2,ld⟩
   | succ k =>
     rw[rH,qJ]at hk
     by_cases hs:k<sub⁻¹
     · let⟨v,v1,v2⟩:=mF () oM ⟨u+1,O,ld⟩ k hs
       show⟨v,v1,by rw[show i+(k+1)=i+1+k by omega];show v2⟩
     · let⟨v,v1,v2⟩:=iO () fA ⟨u,O,le⟩ (k-sub⁻¹) ()
       show⟨v,v1,by rw[show i+(k+1)=i+1+sub⁻¹+(k-sub⁻¹) by omega];show v2⟩
inductive Up(ds:List Nd):Nat->Nat->Nat->Prop
 | here {a:Nat}:Up ds a a 0
 | step {a b j m:Nat} {d:Nd}:ds[a]?=!d->d.e=(j:Int)->Up ds j b m->Up ds a b (m+1)
def Up.trans{a b m:Nat}(x:Up ds a b m):∀{c n:Nat},Up ds b c n->∃k,Up ds a c k:=by
 induction x with
 | here=>intro c n y;show⟨n,y⟩
 | step h1 h2 _ ih =>
   intro c n y
   let⟨k,z⟩:=ih y
   show⟨k+1,.step h1 h2 z⟩
def Forest.up{e i lv:Nat}(x:Forest e i lv l ks):e<i->(∀k d,l[k]?=!d->ds[i+k]?=!d)->(∃m,Up ds (i-1) e m) ->
  (∀k d,l[k]?=!d->∃j m:Nat,d.e=(j:Int)/\Up ds (i+k-1) j m)/\∃m,Up ds (i+l⁻¹-1) e m:=by
 induction x with
 | nil=>ext _ _ hu;show⟨(λk d h=>nomatch h),hu⟩
 | @cons e i lv d sub rest ks ca h1 h2 h3 f1 h4 f2 mF iO =>
   ext he hp hu
   let oM:∀k c,sub[k]?=!c->ds[i+1+k]?=!c:=λk c hc=>by
     let jQ:k<sub⁻¹:=(qE.mp hc).1
     have:=hp (k+1) c (by rw[rW,xE jQ];show hc)
     rw[show i+1+k=i+(k+1) by omega];show this
   let fA:∀k c,rest[k]?=!c->ds[i+1+sub⁻¹+k]?=!c:=λk c hc=>by
     have:=hp (sub⁻¹+k+1) c (by rw[rW,rL ()];rw[show sub⁻¹+k-sub⁻¹=k by omega];show hc)
     rw[show i+1+sub⁻¹+k=i+(sub⁻¹+k+1) by omega];show this
   let⟨a1,m1,a2⟩:=mF () oM ⟨0,by rw[show i+1-1=i by omega];show .here⟩
   let ie:Up ds i e 1:=.step (hp 0 d O) h1 .here
   let⟨m2,u2⟩:=a2.trans ie
   let⟨b1,m3,b2⟩:=iO () fA ⟨m2,u2⟩
   show⟨λk c hk=>?_,m3,?_⟩
   · cases k with
     | zero =>
       cases hk
       let⟨m,u⟩:=hu
       show⟨e,m,h1,u⟩
     | succ k =>
       rw[rW]at hk
       by_cases hs:k<sub⁻¹
       · rw[xE hs]at hk
         let⟨j,m,q1,q2⟩:=a1 k c hk
         show⟨j,m,q1,by rw[show i+(k+1)-1=i+1+k-1 by omega];show q2⟩
       · rw[rL ()]at hk
         let⟨j,m,q1,q2⟩:=b1 _ c hk
         show⟨j,m,q1,by rw[show i+(k+1)-1=i+1+sub⁻¹+(k-sub⁻¹)-1 by omega];show q2⟩
   · rw[rH,qJ,show i+(sub⁻¹+rest⁻¹+1)-1=i+1+sub⁻¹+rest⁻¹-1 by omega]
     show b2
structure YV(ds:List Nd)(n:Nat)(d:Nd):Prop where
 kids:Holds d.k (kk ds n) d.st
 body:d.k=.body↔n=0
 lev:∃u,u<=6/\Lev ds n u
 up:(n=0/\d.e=-1)\/(0<n/\∃j m:Nat,d.e=(j:Int)/\j<n/\Up ds (n-1) j m)
def Book.each(b:Book ds){n:Nat}(h:ds[n]?=!d):YV ds n d:=by
 let⟨d0,sub,ks,rfl,e0,k0,f,hh⟩:=b.tree;let A:=f.all {};let hp:∀k c,sub[k]?=!c->(d0::sub)[1+k]?=!c:=λk c hc=>by rw[Nat.add_comm,rW];show hc
 let l0:Lev (d0::sub) 0 0:=.top O e0;let kc:∀n:Nat,kk (d0::sub) n=kk sub n:=λn=>by rw[FK,qY ()];rfl
 cases n with
 | zero =>
   cases h
   show⟨?_,by simp[k0],⟨0,{},l0⟩,.inl ⟨O,e0⟩⟩
   rw[k0,kc,show((0:Nat):Int)=((0:Nat):Int)from rfl,A.top]
   show hh
 | succ k =>
   rw[rW]at h
   let⟨q1,q2⟩:=A.each k d h
   let hk:k<sub⁻¹:=(qE.mp h).1
   let⟨u,u1,u2⟩:=f.lev {} hp ⟨0,O,l0⟩ k hk
   let⟨c1,_⟩:=f.up (ds:=d0::sub) {} hp ⟨0,.here⟩
   let⟨j,m,ej,uj⟩:=c1 k d h
   let⟨j',oN,lt⟩:=f.elds {} k d h
   have:j=j':=()
   subst this
   show⟨?_,⟨λz=>qT z q2,λz=>qT z ()⟩,⟨u,u1,by rw[Nat.add_comm];show u2⟩,.inr ⟨(),j,m,ej,(),?_⟩⟩
   · rw[kc,show((k+1:Nat):Int)=((1+k:Nat):Int) by omega]
     show q1
   · rw[show k+1-1=1+k-1 by omega]
     show uj
end Bk
namespace Gen
open L2 Bk
end Gen
namespace Bk
open L2
def xc:TV:=Yb.map (·.1)
end Bk
namespace L2
open PyProof.Rows
section
variable{X:Cx}
def YW{T name id:String}{r:V->List V->Hp->VK->Prop}(K:W.Frag)(hK:X.K=K)(pa:PlainAttrs T)(slot:Slot T name id)(D3:typeOf (.builtin id)=pure (.type "method_descriptor"))(hm:uf X id r)(ho:PE X o to)(ha:PA X (e::es) t)(uk:attributeBase o name X.env (eval o X.env)=eval o X.env:=by rfl)(um:((backTo eZ (starEach (e::es) X.env)).all (λx=>(Bool.not (x.1))) && (backToKw eZ (keywordEach [] X.env)).all (λx=>x.1.isSome)
   && decide ((e::es)⁻¹+([]:List Keyword)⁻¹+(if([]:List Keyword).isEmpty then 0 else 1)<30))=true:=by rfl)(uq:(nZ.endLine == eZ.line)=true:=by rfl)(hs:starEach (e::es) X.env=(false,eval e X.env)::starEach es X.env:=by rfl)(ur:(backTo eZ (starEach es X.env)).any (·.1)=false:=by rfl) :
  PE X (.Call (.Attribute o name nZ) (e::es) [] eZ) (D1 K T r to t):=by
 subst hK;show jM pa slot D3 hm ho ha uk um uq hs ur
end
end L2
namespace Gen
open L2 Bk
end Gen
namespace Bd
open L2 Bk Gen Gd
structure Un where
 w:Int
 b:Int
 h:Int
 k:Int
def aB(ls:TB)(n i:Nat):Int:=((ls[n]?).getD []).getD i 0
def aJ(bs:TC)(n:Nat):Int×Int:=(bs[n]?).getD (0,0)
def bg(us:List (List Un))(n:Nat):List Un:=(us[n]?).getD []
def bC:TN->Int
 | []=>0
 | x::l=>l.foldl max x
def aw(ds:List Nd)(n:Nat):TM:=(List.range ds⁻¹).filter λj=>decide (ds[j]?.map Nd.e=!(n:Int))
def cD(ls:TB)(bs:TC)(m:Nat):Int:=max (aJ bs m).1 (aB ls m 5)
def ge(ls:TB)(bs:TC)(m:Nat):Int:=max (aB ls m 6) (cD ls bs m)
def mM(ls:TB)(bs:TC)(m:Nat):Int:=min (max (aJ bs m).2 (cD ls bs m)) (ge ls bs m)
def dA(l s:Int):Int:=-(-l / s)
def lB(ls:TB)(cols:Int)(zs:List (Nat×Int)):Int:=cols*bC (zs.map λx=>dA x.2 (min (aB ls x.1 8) cols))
def iT(d:Nd):Int:=match d.st with
 | .int a::_=>a
 | _=>0
def cX(ds:List Nd)(ls:TB)(bs:TC)(m:Nat):Int×Int:=if ds[m]?.map Nd.k=!Kd.aside then(aB ls m 11,aB ls m 11)else aJ bs m
def lD(us:List Un):Int:=bC (us.map Un.w)
def iU(us:List Un):Int:=(us.map Un.w).sum+(us.dropLast.map Un.b).sum
def jo(ds:List Nd)(ls:TB)(us:List (List Un))(bs:TC)(n:Nat)(d:Nd):Int×Int :=
 match d.k with
 | .text | .head | .note=>(lD (bg us n),iU (bg us n))
 | .shelf=>(((aw ds n).map (cD ls bs)).sum,((aw ds n).map (mM ls bs)).sum)
 | .grid=>(lB ls (aB ls n 7) ((aw ds n).map λm=>(m,(aJ bs m).1)),lB ls (aB ls n 7) ((aw ds n).map λm=>(m,(aJ bs m).2)))
 | _=>(bC ((aw ds n).map λm=>(cX ds ls bs m).1),bC ((aw ds n).map λm=>(cX ds ls bs m).2))
def fe(ds:List Nd)(ls:TB)(us:List (List Un))(bs:TC)(n:Nat):Int×Int :=
 match ds[n]? with
 | none=>(0,0)
 | some d=>if d.k=.picture then(iT d,iT d)else((jo ds ls us bs n d).1+2*aB ls n 3,(jo ds ls us bs n d).2+2*aB ls n 3)
def eE(ds:List Nd)(ls:TB)(us:List (List Un)):Nat->List (Int×Int)
 | 0=>List.replicate ds⁻¹ (0,0)
 | k+1=>(eE ds ls us k).set (ds⁻¹-1-k) (fe ds ls us (eE ds ls us k) (ds⁻¹-1-k))
def xg(ds:List Nd)(ls:TB)(us:List (List Un)):TC:=eE ds ls us ds⁻¹
section
variable{ds:List Nd}{ls:TB}{us:List (List Un)}
theorem qx:∀k,(eE ds ls us k)⁻¹=ds⁻¹
 | 0=>by simp[eE]
 | k+1=>by rw[eE,u7,qx k]
def FL{bs:TC}{i m:Nat}{v:Int×Int}(h:i≠m):aJ (bs.set i v) m=aJ bs m:=by
 unfold aJ;rw[uR h]
def FM{bs:TC}{i:Nat}{v:Int×Int}(h:i<bs⁻¹):aJ (bs.set i v) i=v:=by
 unfold aJ;rw[u6 h];rfl
def cO{n m:Nat}(h:m∈aw ds n):m<ds⁻¹:=xC.mp (rY.mp h).1
def fK{n m:Nat}(h:m∈aw ds n):∃d,ds[m]?=!d/\d.e=(n:Int):=by
 let h2:=rF (rY.mp h).2;let⟨d,e1,e2⟩:=rP.mp h2;show⟨d,e1,e2⟩
def Behind(ds:List Nd):=∀(m:Nat) (d:Nd),ds[m]?=!d->d.e<(m:Int)
end
theorem FN:∀(l:TN) (a:Int),a<=l.foldl max a/\∀x∈l,x<=l.foldl max a
 | [],a=>⟨xF _,λx hx=>nomatch hx⟩
 | y :: l, a => by
   let⟨h1,h2⟩:=FN l (max a y)
   rw[xG]
   show⟨(),λx hx=>?_⟩
   rcases qM.mp hx with rfl | hx
   · omega
   · show h2 x hx
theorem No:∀(l:TN) (a:Int),l.foldl max a∈a::l
 | [],a=>∅
 | y :: l, a => by
   rw[xG]
   rcases qM.mp (No l (max a y))with e | h
   · rw[e]
     by_cases z:a<=y
     · rw[Int.max_eq_right z];simp
     · rw[Int.max_eq_left ()];simp
   · show qS _ (qS _ h)
def jT{l:TN}(h:l≠[]):bC l∈l:=by
 cases l with
 | nil=>show qT O h
 | cons x l=>show No l x
def jU{l:TN}:∀x∈l,x<=bC l:=by
 cases l with
 | nil=>intro x hx;cases hx
 | cons y l =>
   intro x hx
   rcases qM.mp hx with rfl | hx
   · show(FN l x).1
   · show(FN l y).2 x hx
def mN{l:TN}(h:∀x∈l,0<=x):0<=bC l:=by
 cases l with
 | nil=>show xF _
 | cons x l=>show h _ (jT ∅)
def YX(ds:List Nd)(n:Nat):mI ds n ds⁻¹=(aw ds n).map λ(j:Nat)=>(j:Int):=rfl
def mO(ds:List Nd)(n:Nat):(aw ds n)⁻¹<=ds⁻¹:=rK (yG _ _) ∅
def dP{α β:Type}{F:α->β->Prop}{l1:List α}{l2:List β}(h:Paired F l1 l2){i:Nat}{b:β}(e:l2[i]?=!b):∃a,l1[i]?=!a/\F a b:=by
 induction h generalizing i with
 | nil=>cases e
 | @cons a b l1 l2 q t ih =>
   cases i with
   | zero=>cases e;show⟨a,O,q⟩
   | succ i=>show ih ‹e›
def _root_.PySem.Paired.set{α β:Type}{F:α->β->Prop}{l1:List α}{l2:List β}(h:Paired F l1 l2){a:α}{b:β}(q:F a b):∀i,Paired F (l1.set i a) (l2.set i b):=by
 induction h with
 | nil=>intro i;show .nil
 | cons q' t ih =>
   intro i
   cases i with
   | zero=>show .cons q t
   | succ i=>show .cons q' (ih i)
def PrAt(H:Hp)(a:Addr)(x:Int×Int):=H a=!.tup [.int x.1,.int x.2]
def LkAt(H:Hp)(a:Addr)(l:TN):=H a=!.lst ⇑l
def PrAt.same(s:Same H H'){x:Int×Int}(h:PrAt H a x):PrAt H' a x:=s _ _ h
def LkAt.same(s:Same H H'){x:TN}(h:LkAt H a x):LkAt H' a x:=s _ _ h
def gH{β:Type}{F:Hp->Addr->β->Prop}(hF:∀a x,F H a x->F H' a x)(s:Same H H'){xs:List β}(h:LstAt F H L xs):LstAt F H' L xs:=by
 let⟨as,e,p⟩:=h;show⟨as,s _ _ e,p.mono hF⟩
def dg(s:Same H H'){ls:TB}(h:LstAt LkAt H p ls):LstAt LkAt H' p ls:=gH (λ_ _=>LkAt.same s) s h
def gf(s:Same H H'){bs:TC}(h:LstAt PrAt H p bs):LstAt PrAt H' p bs:=gH (λ_ _=>PrAt.same s) s h
structure LkOk(l:TN):Prop where
 len:l⁻¹=13
 ins:0<=l.getD 3 0
 least:0<=l.getD 5 0
 most:0<=l.getD 6 0
 cols:1<=l.getD 7 0/\l.getD 7 0<=6
 span:1<=l.getD 8 0/\l.getD 8 0<=6
 wide:0<=l.getD 11 0
structure Ctx(ds:List Nd)(ls:TB)(us:List (List Un)):Prop where
 le:ds⁻¹<=100
 ll:ls⁻¹=ds⁻¹
 ul:us⁻¹=ds⁻¹
 lk:∀l∈ls,LkOk l
 pos:∀r∈us,r⁻¹<=100/\∀u∈r,0<=u.w/\0<=u.b
 un:∀(n:Nat) (d:Nd),ds[n]?=!d->(d.k=.text\/d.k=.head\/d.k=.note)->bg us n≠[]
 pic:∀(n:Nat) (d:Nd),ds[n]?=!d->d.k=.picture->∃a b:Int,d.st=[.int a,.int b]/\0<=a
 gr:∀(n:Nat) (d:Nd),ds[n]?=!d->d.k=.grid->aw ds n≠[]
 bh:Behind ds
def Ctx.look{ls:TB}(c:Ctx ds ls us){n:Nat}(h:n<ds⁻¹):∃l,ls[n]?=!l/\LkOk l/\∀i,aB ls n i=l.getD i 0:=by
 let hl:n<ls⁻¹:=by rw[c.ll];show h
 show⟨ls[n],qB hl,c.lk _ (rJ hl),λi=>?_⟩;unfold aB;rw[qB hl];rfl
def iV(y:Str)(j:Nat):Prop:=xc[j]?=!y/\∀i:Nat,i<j->xc[i]?≠!y
structure Np(K:W.Frag)(a:Addr):Prop where
 tup:∀H:Hp,SqT K H a (xc.map V.str)
 ob:∃o,K.lookup a=!o/\o.cls=.type "tuple" /\ o.dict=none
inductive fL:List V->Hp->VK->XK->Prop
|m (p:Addr) (n j:Nat) (y:Str) (ls:TB):vs=[.ref p,.int n,.str y]->LstAt LkAt H p ls->n<ls⁻¹->(∀l∈ls,l⁻¹=13)->j<13->iV y j->Q (.int (aB ls n j)) H->fL vs H Q E
inductive FO:List V->Hp->VK->XK->Prop
|m (p:Addr) (n:Nat) (a b:Int) (ls:TB):vs=[.ref p,.int n,.int a,.int b]->LstAt LkAt H p ls->n<ls⁻¹->(∀l∈ls,l⁻¹=13)->(∀(t:Addr) (H':Hp),Same H H'->PrAt H' t (a+2*aB ls n 3,b+2*aB ls n 3)->Q (.ref t) H')->FO vs H Q E
inductive jp(f:TB->List (Int×Int)->Nat->Int):List V->Hp->VK->XK->Prop
|m (p L:Addr) (m:Nat) (ls:TB) (bs:TC):vs=[.ref p,.ref L,.int m]->LstAt LkAt H p ls->LstAt PrAt H L bs->m<ls⁻¹->m<bs⁻¹->(∀l∈ls,l⁻¹=13)->Q (.int (f ls bs m)) H->jp f vs H Q E
inductive FP:List V->Hp->VK->XK->Prop
|m (l s:Int):vs=[.int l,.int s]->1<=s->s<=6->Q (.int (dA l s)) H->FP vs H Q E
inductive FQ:List V->Hp->VK->XK->Prop
|m (p a b:Addr) (c:Int) (ls:TB) (zs:List (Nat×Int)):vs=[.ref p,.int c,.ref a,.ref b]->LstAt LkAt H p ls->H a=!.lst (zs.map λx=>.int (x.1:Nat))->H b=!.lst (zs.map λx=>.int x.2)->zs≠[]->zs⁻¹<=100->1<=c->c<=6->(∀l∈ls,LkOk l)->(∀x∈zs,x.1<ls⁻¹)->(∀H',Same H H'->Q (.int (lB ls c zs)) H')->FQ vs H Q E
inductive FR:List V->Hp->VK->XK->Prop
|m (B p L:Addr) (m:Nat) (ds:List Nd) (ls:TB) (bs:TC):vs=[.ref B,.ref p,.ref L,.int m]->cM (λ_=>True) H B ds->LstAt LkAt H p ls->LstAt PrAt H L bs->m<ds⁻¹->m<ls⁻¹->m<bs⁻¹->(∀l∈ls,l⁻¹=13)->(∀(t:Addr) (H':Hp),Same H H'->PrAt H' t (cX ds ls bs m)->Q (.ref t) H')->FR vs H Q E
structure NumsB(mg:TJ):Prop where
 kind:∃t,mg "KIND" = !.int 1 t
 stuff:∃t,mg "STUFF" = !.int 4 t
 uw:∃t,mg "UNIT_WIDE" = !.int 0 t
 ub:∃t,mg "UNIT_BLANK" = !.int 1 t
 low:∃t,mg "LOW" = !.int 0 t
 great:∃t,mg "GREAT" = !.int 1 t
end Bd
namespace L2
def YY:typeLookup (.type "list") "keys" = pure none:=am_miss_of_fast (by kernel_rfl)
def Nq:entryFor table "dict.update.loop" = some Builtin.«dict.update.loop»:=entryFor_of_tree (by kernel_rfl)
def BK:plainId "dict.update.loop" = true:=by ac_rfl
section
variable{prog:Program}{w:World}{A:Around}{E:TH}{s:Shared}
def YZ{k:Nat}{Q:Option Value->Shared->Prop}(hA:A.handled=none)(hx:s.heap.get? a=!{cls:=.type "list",dict:=none,data:=.seq xs k,slots:=sl})(q:∀h' tk,(∀b o,s.heap.get? b=!o->h'.get? b=!o)->Q none {s with heap:=h',toks:=tk}):wpAny (model prog w) A (getAttr? (.ref a) "keys") Q E s:=by
 let⟨hp,g,d,tk,os⟩:=s;let hT:∀kQ,(⟨hp,g,d,kQ,os⟩:Shared).TypeIs (.ref a) "list":=λ_=>⟨_,hx,O⟩
 let f1:=sub_AttributeError;let f3:=F.slot_list_getattribute.lookup;let f4:=F.slot_list_getattribute.bind (.ref a);let f5:=am_list_getattr_none;let f6:=YY;unfold getAttr? getAttrBy?
 repeat (any_goals (first | assumption | show hT _ | ((with_reducible show wpAny _ _ (call (Value.builtin "list.__getattribute__") _ _) _ _ _);show v4 F.slot_list_getattribute (hT _) am_entry_list_getattribute (F.args_list_getattribute_2 _ _) (meets_getattribute_miss_list a xs k sl "keys" _ f6 (by ac_rfl) (by ac_rfl)) ⟨hx,hA,λh' kQ e AZ=>?_⟩) | wp_step))
 let⟨t',u',he⟩:=AZ.there;show wpAny _ _ (getattributeRaised _ _ _ _ _ _ _) _ _ _;unfold getattributeRaised
 repeat (any_goals (first | assumption | wp_step))
 show q _ _ AZ.keeps
end
section
variable{κ:Type}[DecidableEq κ]
def oO(key:Nat->κ)(vv:Nat->Value):Nat->List (κ×Value)
 | 0=>[]
 | i+1=>stored (oO key vv i) (key i) (vv i)
def Y0(l:List (κ×Value))(k:κ)(v:Value):(stored l k v)⁻¹<=l⁻¹+1:=by
 unfold stored
 split
 .rw[qA];show yR _
 .rw[qJ];show qG _
theorem FS(key:Nat->κ)(vv:Nat->Value):∀n,(oO key vv n)⁻¹<=n
 | 0=>qG _
 | n+1=>rK (Y0 _ _ _) (yO (FS key vv n))
end
def BL(h:Heap)(b:Addr)(k v:Value):=∃(o:Obj) (m:Nat),h.get? b=!o/\o.cls=.type "tuple" /\ o.data=.seq #[k,v] m
section
variable{prog:Program}{w:World}{A:Around}{R:Result->Shared->Prop}{J:Addr}{fp wr:TQ}{G:Array GenState->Array GenState->Prop}{n:Nat}{P:Nat->Value->Prop}{St:Nat->Shared->Prop}{κ:Type}[DecidableEq κ]{knd:KeyKind prog w κ}
def Y1(W:WalksS prog w A.in1 J fp wr G n P St)(d:Addr)(nd:d∉fp)(tup:Nat->Addr)(key:Nat->κ)(kv vv:Nat->Value)(hP:∀i v,P i v->v=.ref (tup i))(hk:∀i,i<n->knd.is (key i) (kv i)=true)(nt:∀i,i<n->tup i∉d::wr)(hn:n<=sizeLine) :
  ∀(k i:Nat) (j:Int) (s:Shared),n-i=k->i<=n->St i s->s.heap.DictOf knd d (oO key vv i)->(∀i,i<n->BL s.heap (tup i) (kv i) (vv i)) ->
   (∀s',Moved (d::wr) G s s'->s'.heap.DictOf knd d (oO key vv n)->R (.ok (.ret .none)) s') ->
   codeAny (model prog w) A (.builtin "dict.update.loop" ⟨[.ref d,.ref J,rawInt j,.none],[]⟩) R s:=by
 let Nr:d∉wr:=λq=>nd (W.sub _ q)
 let sub:∀b∈wr,b∈d::wr:=λb q=>qS _ q
 intro k
 induction k with
 | zero =>
   intro i j s jQ hi st x tw fin
   obtain rfl:i=n:=()
   show xX Nq ?_
   rw[xL BK _]
   show wpAny (model prog w) A.in1 (pyNext (.ref J)>>=_) _ _ s
   show qC (W.done s _ _ st λs1 mv=>?_)
   show wpAny (model prog w) A.in1 (Builtin.Dict.addKeywords d []>>=_) _ _ s1
   show qC (qL (qL (fin s1 (mv.mono sub) (x.at λo e=>mv.heap d _ Nr e))))
 | succ k ih =>
   intro i j s jQ hi st x tw fin
   let lt:i<n:=()
   show xX Nq ?_
   rw[xL BK _]
   show wpAny (model prog w) A.in1 (pyNext (.ref J)>>=_) _ _ s
   show qC (W.item i s _ _ lt st λv s1 hv cU mv=>?_)
   obtain rfl:=hP i v hv
   let x1:s1.heap.DictOf knd d (oO key vv i):=x.at λo e=>mv.heap d _ Nr e
   let Nt:∀i,i<n->BL s1.heap (tup i) (kv i) (vv i):=λi hi=>by
     let⟨o,m,e,r⟩:=tw i hi
     show⟨o,m,mv.heap _ _ (λz=>nt i hi (sub _ z)) e,r⟩
   show wpAny (model prog w) A.in1 (holding [Value.ref (tup i)] _>>=_) _ _ s1
   show qC (xY ?_)
   let⟨o,m,e,hc,hd⟩:=Nt i lt
   show qC (wpAny_tryCatch ?_)
   unfold Builtin.Dict.pairItems
   show qC (wpAny_typeOf (T := "tuple") ⟨o,e,hc⟩ ?_)
   rw[qX {}]
   show qC (yN e hd (qL ?_))
   show wpAny (model prog w) A.in1 (holding [kv i,vv i] (dictSet d (kv i) (vv i))) _ _ s1
   show xY ?_
   show wpAny_dictSet_pairs (hk i lt) x1 (λh' x2 sb=>?_) (rK (FS _ _ _) ())
   show qL ⟨yU BK _,ih (i+1) (j+1) _ () lt (W.frame _ s1 _ _ cU (yR _) λb hb o e=>?_) x2 ?_ λs2 Ez x4=>?_⟩
   · rw[sb.2 b (λz:b=d=>nd (by rw[<-z];show hb))];show e
   · intro i' cC
     let⟨o,m,e,r⟩:=Nt i' cC
     show⟨o,m,by rw[sb.2 _ (λz:tup i'=d=>nt i' cC (by rw[z];show rE))];show e,r⟩
   · show fin s2 (Moved.trans W.gtrans ((mv.mono sub).then_heap (yR _) λb o hb e=>?_) Ez) x4
     rw[sb.2 b (λz:b=d=>hb (by rw[z];show rE))];show e
end
section
variable{prog:Program}{w:World}{A:Around}{E:TH}{s:Shared}{κ:Type}[DecidableEq κ]{knd:KeyKind prog w κ}
def Y2{nl:Nat}{tup:Nat->Addr}{key:Nat->κ}{kv vv:Nat->Value}{Q:TH}(hA:A.handled=none)(hl:s.heap.get? l=!{cls:=.type "list",dict:=none,data:=.seq ah nl,slots:=sl})(hv:∀(i:Nat) (v:Value),ah[i]?=!v->v=.ref (tup i))(hk:∀i,i<ah.size->knd.is (key i) (kv i)=true)(tw:∀i,i<ah.size->BL s.heap (tup i) (kv i) (vv i))(hn:ah.size<=sizeLine)(fin:∀(h':Heap) (tk:Nat),h'.DictOf knd (~~~s) (oO key vv ah.size)->(∀b o,b< ~~~s->s.heap.get? b=!o->h'.get? b=!o)->Q (.ref (~~~s)) {s with heap:=h',toks:=tk}) :
  wpAny (model prog w) A (call (.type "dict") [.ref l]) Q E s:=by
 show callType_codes (Q₁:=λobj a7=>obj=.ref (~~~s)/\a7={s with heap:=s.heap.push {cls:=.type "dict",data:=.dict #[]}}) F.kt_called_dict (F.kt_typeCall_dict_1 _) F.entry_dict_init (kt_code_dict_new _ ⟨O,O⟩) ?_;ext obj a7 ⟨rfl,rfl⟩;let FT:(s.heap.push {cls:=.type "dict",data:=.dict #[]}).DictOf knd (~~~s) []:=Heap.DictOf.new s.heap;let qu:(s.heap.push {cls:=.type "dict",data:=.dict #[]}).get? l=!{cls:=.type "list",dict:=none,data:=.seq ah nl,slots:=sl}:=qF _ hl;show⟨FT.typeIs,F.args_dict_init_2 _ _,?_⟩;unfold Builtin.«dict.__init__»;show qC ?_;unfold Builtin.Dict.selfAndRest;show qC (wpAny_notOrdered_dict FT.typeIs ?_);show wpAny _ _ (pure (~~~s,[Value.ref l])) _ _ _;show qL ?_;show wpAny _ _ (Builtin.Dict.updateFrom "dict.__init__" s.heap.objs.size (.ref l) [] .none) _ _ _;unfold Builtin.Dict.updateFrom;show qC (wpAny_typeOf (T := "list") ⟨_,qu,O⟩ ?_);rw[qX {}];show qC (YZ (by simp[hA]) qu λh1 tk1 kp=>?_);rw[qX (show(none:Option Value).isNone=true from rfl)];let il:h1.IsList l ah:=⟨_,kp _ _ qu,O,nl,O⟩;let Y3:h1.DictOf knd (~~~s) []:=FT.keep kp;let d1: ~~~s<h1.objs.size:=qK (kp _ _ (qQ _ O));let l0:l< ~~~s:=qK hl;dsimp only;generalize EB:pyIter=PI;show qC ?_
 wp_step
 subst EB;show qC (xU il ?_);let fD:h1.get? l=!{cls:=.type "list",dict:=none,data:=.seq ah nl,slots:=sl}:=kp _ _ qu;let nI:l≠h1.objs.size:=rD (qK fD);let h2:A.in1.in1.handled=none:=by simp[hA]
 let nS: ~~~s∉[h1.objs.size,l]:=by
  intro z;rcases qM.mp z with z | z
  .show qT z (rD d1)
  .rcases qM.mp z with z | z
   .show qT z.symm (rD l0)
   .cases z
 let tl:∀i,i<ah.size->tup i< ~~~s:=λi hi=>by
  let⟨o,m,e,_⟩:=tw i hi;show qK e
 show qL ⟨yU BK _,?_⟩;show Y1 (knd:=knd) (A:=A.in1) ((Walks.list h2 _ l nI ah).toS) (~~~s) nS tup key kv vv hv hk ?nt hn (ah.size-0) 0 0 _ O (rO _) ⟨⟨_,qQ _ O,O,O⟩,(il.push _)⟩ (Y3.push _) ?tw ?fin
 case nt =>
  intro i hi z;have:=tl i hi;rcases qM.mp z with z | z
  .show qT z (rD this)
  .let z':tup i=h1.objs.size:=‹z›
   show qT z' (rD (uH this d1))
 case tw =>
  intro i hi;let⟨o,m,e,r⟩:=tw i hi;show⟨o,m,qF _ (kp _ _ (qF _ e)),r⟩
 case fin =>
  intro s' mv x;let⟨h',g',d',kQ,kI⟩:=s';obtain rfl:g'=s.gens:=mv.gens;obtain rfl:d'=s.drawn:=mv.drawn;obtain rfl:kI=s.os:=mv.os;show⟨O,fin h' kQ x λb o hb e=>?_⟩;show mv.heap b o (λz=>?_) (qF _ (kp _ _ (qF _ e)));rcases qM.mp z with z | z
  .show qT z (rD hb)
  .let z':b=h1.objs.size:=‹z›
   omega
end
def pairAt{α β:Type}{F:α->β->Prop}{l1:List α}{l2:List β}(h:Paired F l1 l2){i:Nat}{a:α}{b:β}(e:l1[i]?=!a)(e':l2[i]?=!b):F a b:=by
 induction h generalizing i with
 | nil=>cases e
 | cons q _ ih =>
   cases i with
   | zero=>cases e;cases e';show q
   | succ i=>show ih e e'
def jq(aj:List (aV×V)):List (aV×V):=aj.foldl (λacc kv=>dz acc kv.1 kv.2) []
def Nu{aj:List (aV×V)}{i:Nat}{p:aV×V}(e:aj[i]?=!p):jq (aj.take (i+1))=dz (jq (aj.take i)) p.1 p.2:=by
 unfold jq;rw[qO,e,List.foldl_append];rfl
def Nv{aj:List (aV×V)}(h:(aj.map Prod.fst).Nodup):jq aj=aj:=by
 have all:∀i,i<=aj⁻¹->jq (aj.take i)=aj.take i:=by
  intro i
  induction i with
  | zero=>intro _;rfl
  | succ i ih =>
    intro hi
    let e:aj[i]?=!aj[i]:=qB hi
    rw[Nu e,ih (),qO,e]
    show Yd _ ?_
    cases ev:bP (aj.take i) aj[i].1 with
    | none=>rfl
    | some v =>
      exfalso
      unfold bP at ev
      let⟨q,eq,_⟩:=rP.mp ev
      let q1:=List.find?_some eq
      let q2:=List.mem_of_find?_eq_some eq
      let⟨j,hj,ej⟩:=List.getElem_of_mem q2
      let jl:j<i:=by rw[yC]at hj;omega
      rw[List.getElem_take]at ej
      let n1:=(List.pairwise_iff_getElem.mp h) j i (by rw[qA];omega) (by rw[qA];show hi) jl
      show n1 ?_
      rw[List.getElem_map,List.getElem_map,ej]
      simpa using q1
 have:=all aj⁻¹ (qG _)
 rwa [yD]at this
section
variable{X:Cx}
def Nw(hc:X.calm=true):eB X (.type "dict") (λxs H Q=>∃(p:Addr) (as:TQ) (aj:List (aV×V)),xs=[.ref p]/\SqL X.K H p ↑as/\Paired (λ(a:Addr) (kv:aV×V)=>SqT X.K H a [kV kv.1,kv.2]) as aj /\
  ∀d,H d=none->Q (.ref d) (af H d (.dK (jq aj)))):=by
 intro aa s σ H xs us Q I r h;let⟨p,as,aj,rfl,hp,pr,q⟩:=h;let⟨u,rfl,rx⟩:=vals1 r;cases rx;let⟨ah,rv,pl,hz⟩:=I.list hp;let hh:=I.ok.hd hc;let la:as⁻¹=aj⁻¹:=qU pr;let li:ah.toArray.size=aj⁻¹:=by rw[rC,<-rv⁻¹,qA,la]
 rw[List.length_map,la]at hz;let sk:∀i:Nat,∃u:Value×Value,∀(a:Addr) (kv:aV×V),as[i]?=!a->aj[i]?=!kv->BL s.heap a u.1 u.2/\RelV (kV kv.1) u.1/\RelV kv.2 u.2:=by
  intro i
  by_cases hi:i<aj⁻¹
  .have ek:aj[i]?=!aj[i]:=qB hi;let ea:as[i]?=!as[i]:=qB ();let⟨vs,rt,⟨o,eo,eO,m,Du⟩,_⟩:=I.tuple (pairAt pr ea ek);cases rt with
   | cons r1 rt =>
     cases rt with
     | cons r2 rt =>
       cases rt
       show⟨(_,_),λa kv e e'=>by
         rw[ea]at e
         rw[ek]at e'
         cases e
         cases e'
         show⟨⟨o,m,eo,eO,Du⟩,r1,r2⟩⟩
  .show⟨(.none,.none),λa kv _ e=>by rw[xN ()]at e;cases e⟩
 let⟨f,hf⟩:=Classical.skolem.mp sk;let FU:∀i,i<aj⁻¹->aj[i]?=!(aj[i]?).getD (.inl 0,.int 0):=λi hi=>by rw[qB hi];rfl
 let BM:∀i,i<aj⁻¹->as[i]?=!(as[i]?).getD 0:=λi hi=>by rw[qB (by omega:i<as⁻¹)];rfl
 have cK:∀i,i<=aj⁻¹->KV (jq (aj.take i)) (oO (λi=>((aj[i]?).getD (.inl 0,.int 0)).1) (λi=>(f i).2) i):=by
  intro i
  induction i with
  | zero=>intro _;show .nil
  | succ i ih =>
    intro hi
    let e:=FU i hi
    rw[Nu e]
    show(ih ()).put _ (hf i _ _ (BM i hi) e).2.2
 let rl:=cK aj⁻¹ (qG _);rw[yD]at rl;let ll:(jq aj)⁻¹<=sizeLine:=by
  rw[rl⁻¹];show rK (FS _ _ _) hz
 let⟨o,n,eo,oc,od,Nx⟩:=pl;let⟨z1,z2,z3,z4⟩:=o;simp only at oc od Nx;subst oc od Nx;show Y2 (knd:=eK X.prog X.w) (tup:=λi=>(as[i]?).getD 0) (key:=λi=>((aj[i]?).getD (.inl 0,.int 0)).1) (kv:=λi=>(f i).1) (vv:=λi=>(f i).2) hh eo ?_ ?_ ?_ (by rw[li];show hz) ?_
 .intro i v ev;let hi:i<aj⁻¹:=by
   rw[<-li];show(Array.getElem?_eq_some_iff.mp ev).1
  let Y4:ah[i]?=!v:=‹ev›
  have:RelV (.ref ((as[i]?).getD 0)) v:=pairAt rv (by rw[qH,BM i hi];rfl) Y4;show this
 .intro i hi;rw[li]at hi;show oG (hf i _ _ (BM i hi) (FU i hi)).2.1
 .intro i hi;rw[li]at hi;show(hf i _ _ (BM i hi) (FU i hi)).1
 .intro h' tk dd kp;rw[li]at dd;show⟨.ref (~~~s),_,I.laid (a:= ~~~s) (o:=.dK (jq aj)) (t':=tk) (λb o z=>kp b o (qK z) z) (qG _) (Ff ll (beq_eq_false_iff_ne.mpr (rV (rD I.big))) rl dd),O,q _ (I.hok.fresh (qG _))⟩
def Ny:uf X "dict.get" (λx xs H Q=>∃(a:Addr) (aj:List (aV×V)) (k:aV) (df:V),x=.ref a/\xs=[kV k,df]/\Rd H a (.dK aj)/\Q ((bP aj k).getD df) H):=by
 intro aa s σ H x xs v us Q I rx r h;let⟨a,aj,k,df,rfl,rfl,e,q⟩:=h;obtain rfl:=(show v=.ref a from rx);cases r with
 | cons r1 r =>
   cases r with
   | cons r2 r =>
     cases r
     let⟨z,hd,vs,cK,dd⟩:=wu I.hok e
     show call_meetsIn PySem.F.slot_dict_get dd.typeIs PySem.F.entry_dict_get (PySem.F.args_dict_get_3 _ _ _) (meets_dict_get_default (eK X.prog X.w) a (oG r1) hd _) ⟨_,dd.mapOf,⟨_,_,I.tok _,(cK.val k).getD r2,q⟩⟩
end
def Nz:bootBuiltins "dict" = !.type "dict":=by ac_rfl
end L2
namespace Fc
open L2 Bk Gen Gd Bd
structure BnD(mg:TJ):Prop extends bY mg where
 dict:mg "dict" = none
structure cY where
 hi:Int
 bl:Int
 wi:Int
 odd:List (Str×Int)
def OdAt(H:Hp)(a:Addr)(p:Str×Int):=H a=!.tup [.str p.1,.int p.2]
def FcAt(H:Hp)(a:Addr)(f:cY):=∃L,H a=!.tup [.int f.hi,.int f.bl,.int f.wi,.ref L]/\LstAt OdAt H L f.odd
def OdAt.same{p:Str×Int}(s:Same H H')(h:OdAt H a p):OdAt H' a p:=s _ _ h
def FcAt.same(s:Same H H')(h:FcAt H a f):FcAt H' a f:=by
 let⟨L,e,as,hL,pr⟩:=h;show⟨L,s _ _ e,as,s _ _ hL,pr.mono λ_ _ q=>OdAt.same s q⟩
def fg(odd:List (Str×Int)):List (aV×V):=odd.map λp=>(.inr p.1,V.int p.2)
def gI(f:cY)(c:Str):Int:=((f.odd.find? λp=>decide (p.1=c)).map Prod.snd).getD f.wi
def mP(f:cY)(x:Str):Int:=(x.cps.toList.map λc=>gI f ⟨#[c]⟩).sum
structure oP(f:cY):Prop where
 un:(f.odd.map Prod.fst).Nodup
 len:f.odd⁻¹<=1000
 wi:0<=f.wi/\f.wi<=1000000
 od:∀p∈f.odd,0<=p.2/\p.2<=1000000
def Y5{odd:List (Str×Int)}(h:(odd.map Prod.fst).Nodup):jq (fg odd)=fg odd:=by
 show Nv ?_;let e:(fg odd).map Prod.fst=(odd.map Prod.fst).map (Sum.inr:Str->aV):=by
  unfold fg;rw[xO,xO];rfl
 rw[e];show List.Pairwise.map _ (λa b n z=>n (Sum.inr.inj z)) h
theorem NA(c:Str):∀odd:List (Str×Int),bP (fg odd) (.inr c)=⇑((odd.find? λp=>decide (p.1=c)).map Prod.snd)
 | []=>rfl
 | p :: r => by
   by_cases e:p.1=c
   · rw[show fg (p::r)=(Sum.inr p.1,V.int p.2)::fg r from rfl,gF (by show(Sum.inr p.1:aV)=_;rw[e]),List.find?_cons_of_pos ‹e›]
     rfl
   · rw[show fg (p::r)=(Sum.inr p.1,V.int p.2)::fg r from rfl,gG (λz=>e (Sum.inr.inj z)),List.find?_cons_of_neg ‹e›,NA c r]
def Y6(f:cY)(c:Str):(bP (fg f.odd) (.inr c)).getD (V.int f.wi)=V.int (gI f c):=by
 rw[NA];unfold gI;cases(f.odd.find? λp=>decide (p.1=c)).map Prod.snd<;>rfl
def Y7(ok:oP f)(c:Str):0<=gI f c/\gI f c<=1000000:=by
 unfold gI;cases e:f.odd.find? λp=>decide (p.1=c)with
 | none=>show ok.wi
 | some p=>show ok.od p (List.mem_of_find?_eq_some e)
theorem NB:∀{as:TQ} {odd:List (Str×Int)},Paired (OdAt H) as odd->Paired (λ(a:Addr) (kv:aV×V)=>SqT K H a [kV kv.1,kv.2]) as (fg odd)
 | _,_,.nil=>.nil
 | _,_,.cons q t=>.cons (aC q) (NB t)
inductive FV:List V->Hp->VK->XK->Prop
|m (a:Addr) (f:cY) (x:Str):vs=[.ref a,.str x]->FcAt H a f->oP f->x.cps.size<=1000->x.cps.all (·< 128)=true->(∀H',Same H H'->Q (.int (mP f x)) H')->FV vs H Q E
inductive FW:List V->Hp->VK->XK->Prop
|m (F:Addr) (n:Int) (fs:List cY):vs=[.ref F,.int n]->LstAt FcAt H F fs->fs≠[]->fs⁻¹<=1000->(∀(t:Addr) (H':Hp) (f:cY),fs[(n % (fs⁻¹:Int)).toNat]?=!f->Same H H'->FcAt H' t f->H t=none->Q (.ref t) H')->FW vs H Q E
def ShAt(H:Hp)(a:Addr)(p:Str×Str):=H a=!.tup [.str p.1,.str p.2]
def fh(sh:TK):List (aV×V):=sh.map λp=>(.inr p.1,V.str p.2)
def unshown:Str:=s!"?"
def mQ(sh:TK)(x:Str):Str:=((sh.find? λp=>decide (p.1=x)).map Prod.snd).getD unshown
def jV(sh:TK)(s:So)(x:Str):Str:=if s=.page then mQ sh x else x
def ShAt.same{p:Str×Str}(s:Same H H')(h:ShAt H a p):ShAt H' a p:=s _ _ h
def Y8{sh:TK}(h:(sh.map Prod.fst).Nodup):jq (fh sh)=fh sh:=by
 show Nv ?_;let e:(fh sh).map Prod.fst=(sh.map Prod.fst).map (Sum.inr:Str->aV):=by
  unfold fh;rw[xO,xO];rfl
 rw[e];show List.Pairwise.map _ (λa b n z=>n (Sum.inr.inj z)) h
theorem NC(c:Str):∀sh:TK,bP (fh sh) (.inr c)=((sh.find? λp=>decide (p.1=c)).map Prod.snd).map V.str
 | []=>rfl
 | p :: r => by
   by_cases e:p.1=c
   · rw[show fh (p::r)=(Sum.inr p.1,V.str p.2)::fh r from rfl,gF (by show(Sum.inr p.1:aV)=_;rw[e]),List.find?_cons_of_pos ‹e›]
     rfl
   · rw[show fh (p::r)=(Sum.inr p.1,V.str p.2)::fh r from rfl,gG (λz=>e (Sum.inr.inj z)),List.find?_cons_of_neg ‹e›,NC c r]
def Y9(sh:TK)(c:Str):(bP (fh sh) (.inr c)).getD (V.str unshown)=V.str (mQ sh c):=by
 rw[NC];unfold mQ;cases(sh.find? λp=>decide (p.1=c)).map Prod.snd<;>rfl
theorem ND:∀{as:TQ} {sh:TK},Paired (ShAt H) as sh->Paired (λ(a:Addr) (kv:aV×V)=>SqT K H a [kV kv.1,kv.2]) as (fh sh)
 | _,_,.nil=>.nil
 | _,_,.cons q t=>.cons (aC q) (ND t)
def Wd(x:Str):Prop:=x.cps.size<=1000/\x.cps.all (·< 128)=true
structure oQ(sh:TK):Prop where
 un:(sh.map Prod.fst).Nodup
 len:sh⁻¹<=1000
 wd:∀p∈sh,Wd p.2
def Y'{sh:TK}(ok:oQ sh)(x:Str):Wd (mQ sh x):=by
 unfold mQ;cases e:sh.find? λp=>decide (p.1=x)with
 | none=>show⟨by ac_rfl,by ac_rfl⟩
 | some p=>show ok.wd p (List.mem_of_find?_eq_some e)
def Za{sh:TK}(ok:oQ sh)(h:Wd x):Wd (jV sh s x):=by
 unfold jV
 split
 .show Y' ok x
 .show h
def NE(H:Hp)(a:Addr)(s:So)(x:Str)(t:Int):=H a=!.tup [.str s.s,.str x,.int t]
inductive FX:List V->Hp->VK->XK->Prop
|m (a p:Addr) (s:So) (x:Str) (t:Int) (sh:TK):vs=[.ref a,.ref p]->NE H a s x t->LstAt ShAt H p sh->oQ sh->(∀H',Same H H'->Q (.str (jV sh s x)) H')->FX vs H Q E
def Zb:Str:=s!"0123456789"
def Zc(f:cY):TN:=Zb.cps.toList.map λc=>mP f ⟨#[c]⟩
def iu(f:cY)(sh:TK)(held:Bool)(s:So)(x:Str):Int :=
 if held=true/\s=.page then max (mP f (jV sh s x)) (4*bC (Zc f))else mP f (jV sh s x)
inductive FY:List V->Hp->VK->XK->Prop
|m (a p fa:Addr) (held:Bool) (s:So) (x:Str) (t:Int) (sh:TK) (f:cY):vs=[.ref a,.ref fa,.ref p,.bl held]->NE H a s x t->Wd x->LstAt ShAt H p sh->oQ sh->FcAt H fa f->oP f->(∀H',Same H H'->Q (.int (iu f sh held s x)) H')->FY vs H Q E
end Fc
namespace L2
def Zd:TS:=λ_ _ _=>False
def NF:PSs X ss Zd:=λ_ _ _ _ _ _ h=>h.elim
end L2
namespace Bd
open L2 Bk Gen
inductive mR:List V->Hp->VK->XK->Prop
|m (p:Addr) (n:Nat) (ds:List Nd) (N:Addr->Prop):vs=[.ref p,.int n]->cM N H p ds->ds⁻¹<=1000->n<ds⁻¹->(∀l H',H l=none->Same H H'->H' l=!.lst ⇑((aw ds n).map λ(j:Nat)=>(j:Int))->Q (.ref l) H')->mR vs H Q E
end Bd
namespace L2
def fal(i:Nat)(sp:Sp):Sp:=λvs H Q E=>vs[i]?=!.bl false/\sp vs H Q E
end L2
namespace K33
open L2 Bk Gen Gd Bd Fc
structure BN(mg:TJ):Prop where
 high:∃t,mg "HIGH" = !.int 0 t
 blank:∃t,mg "BLANK" = !.int 1 t
 wide:∃t,mg "WIDE_faces" = !.int 2 t
 odd:∃t,mg "ODD" = !.int 3 t
structure BO(mg:TJ):Prop extends BN mg where
 sort:∃t,mg "SORT" = !.int 0 t
 thing:∃t,mg "THING" = !.int 1 t
 tone:∃t,mg "TONE" = !.int 2 t
 unshown:∃t,mg "UNSHOWN" = !.str (s!"?") t
 figheld:∃t,mg "FIGURES_HELD" = !.int 4 t
 figures:∃t,mg "FIGURES" = !.str (s!"0123456789") t
abbrev NG:=top 24
abbrev NH:=top 25
abbrev NI:=top 36
abbrev NJ:=top 35
def Ze(F:Fu K "word_width" NG f fd)(T:BnD mg)(U:BN mg):(~~~0) 1 f fd ["face", "word"] FV:=by
 rcases F.go ["face", "word", "odd"] with⟨a,fc,x,rfl,⟨L,ha,as,hL,pr⟩,ok,xl,lo,q⟩;let⟨_,FZ⟩:=U.wide;let⟨_,F0⟩:=U.odd;show⟨_,(ax (sv 2 (iL (Nw (by rfl)) (by rfl) T.dict Nz (a1 (px aF '0' (gi F0)))))
  (aA (aH (cb (YK (by rfl)) T.sum fJ (a1 (cm ["sign"] ["odd", "face"] [2,0] (Na '1') (nv 0) br (YW K (by rfl) PySem.F.plainAttrs_dict PySem.F.slot_dict_get PySem.F.type_dict_get Ny '1' (a2 '0' (px (r:=bZ K) aF '2' (gi FZ)))))))))),?_⟩
 show-⟨a,_,_,_,O,O,aC ha,O,L,as,fg fc.odd,O,ag hL,NB pr,λd hd=>?_⟩;rw[Y5 ok.un];let s1:=ay hd (.dK (fg fc.odd));let hD:af H d (.dK (fg fc.odd)) d=!.dK (fg fc.odd):=ar;let xh:=s1 _ _ ha;generalize af H d (.dK (fg fc.odd))=H1 at s1 hD xh⊢;show-⟨x,O,lo,Nb (λi ys ae H'=>H'=H1/\ys=⇑((x.cps.toList.take i).map λc=>gI fc ⟨#[c]⟩)/\∃z,ae=[z,!.ref d,!.ref a]) (aW xl) ⟨O,O,none,O⟩ ?_ ?_⟩
 .ext i c ys ae H' hc ⟨rfl,rfl,z,rfl⟩;show-⟨.inr (.inr (.inl ⟨O,.inl ⟨_,hD⟩⟩)),_,O,_,O,a,_,_,_,O,O,aC xh,O,d,fg fc.odd,.inr ⟨#[c]⟩,_,O,O,.inl hD,O,?_,_,O⟩;rw[Y6,xO,xO,Xb (V.int∘λc=>gI fc ⟨#[c]⟩) ‹hc›];rfl
 .ext ys ae H' ⟨rfl,rfl,_⟩ D Zf;let eT:x.cps.toList.take x.cps.size=x.cps.toList:=qI ∅;rw[eT];show⟨D,_,O,ag ar,by rw[qA];simpa using xl,?_,?_⟩
  .intro y hy;let⟨c,_,rfl⟩:=qP.mp hy;show Y7 ok _
  .show q _ (s1.trans (ay Zf _))
def Zg(F:Fu K "face_at" NH f fd)(T:BnD mg)(U:BN mg):(~~~0) 1 f fd ["faces", "number"] FW:=by
 rcases F.go ["faces", "number", "face"] with⟨FA,n,fs,rfl,⟨as,hF,pr⟩,ne,l1000,q⟩;let⟨_,F1⟩:=U.high;let⟨_,F2⟩:=U.blank;let⟨_,FZ⟩:=U.wide;let⟨_,F0⟩:=U.odd;let la:=qU pr;let pos:0<fs⁻¹:=List.length_pos_iff.mpr ne;let el:(((↑as)⁻¹:Nat):Int)=(fs⁻¹:Int):=by rw[qA,la]
 let m0:=uE n (by omega:(fs⁻¹:Int)≠0);let m1:=uX n (by omega:(0:Int)<fs⁻¹);obtain⟨k,ek⟩:∃k:Nat,n % (fs⁻¹:Int)=(k:Int):=⟨(n % (fs⁻¹:Int)).toNat,()⟩;let kl:k<fs⁻¹:=()
 let ef:fs[k]?=!fs[k]:=qB kl;let⟨c,ec,L,hc,NK,hL,qy⟩:=dP pr ef;show⟨_,(ax (sv 2 (px aK '0' (aG mq '1' (ln T.len '0'))))
  (aA (aH (bR (aO (px aF '2' (gi F1)) (a3 (px aF '2' (gi F2)) (px aF '2' (gi FZ)) (iL DZ (by rfl) T.list EI (a1 (px aF '2' (gi F0)))))))))),?_⟩
 show¬⟨_,O,FA,_,O,.inl (ag hF),_,_,O,O,(),FA,_,_,_,O,O,ag hF,by rw[el,ek];show aX ec,_,O,c,_,_,_,O,O,aC hc,O,_,O,c,_,_,_,O,O,aC hc,O,_,O,c,_,_,_,O,O,aC hc,O,_,O,c,_,_,_,O,O,aC hc,O,L,_,O,.inl (ag hL),λL' F3=>?_⟩;let s1:=ay F3 (.lst (NK.map V.ref));show⟨aT,λt ht=>?_⟩;let s2:=ay ht (.tup [.int fs[k].hi,.int fs[k].bl,.int fs[k].wi,.ref L']);show q t _ fs[k] (by rw[ek];show ef) (s1.trans s2) ⟨L',ar,NK,s2 _ _ ar,qy.mono λ_ _ h=>OdAt.same (s1.trans s2) h⟩ (s1.free ht)
def Zh(F:Fu K "printed" NI f fd)(T:BnD mg)(U:BO mg):(~~~0) 1 f fd ["piece", "shown"] FX:=by
 rcases F.go ["piece", "shown"] with⟨a,p,so,x,t,sh,rfl,ha,⟨as,hp,pr⟩,ok,q⟩;let⟨_,xi⟩:=U.sort;let⟨_,BP⟩:=U.thing;let⟨_,Zi⟩:=U.unshown;show⟨_,(ax (ba (tc bv (px aF '0' (gi xi)) aU) (aA (aH (jM PySem.F.plainAttrs_dict PySem.F.slot_dict_get PySem.F.type_dict_get Ny (iL (Nw (by rfl)) (by rfl) T.dict Nz (a1 '1')) (a2 (px aF '0' (gi BP)) (gs Zi))))) bi)
  (aA (aH (px aF '0' (gi BP))))),?_⟩
 show-⟨a,_,_,_,O,O,aC ha,O,O,_,O,?_⟩;rw[show decide (V.str so.s=V.str (s!"page"))=decide (so=.page)from MT so .page];unfold jV at q
 by_cases hs:so=.page
 .show eS hs ?_;rw[qX hs]at q;show-⟨p,as,fh sh,O,ag hp,ND pr,λd hd=>?_⟩;rw[Y8 ok.un];let s1:=ay hd (.dK (fh sh));let hD:af H d (.dK (fh sh)) d=!.dK (fh sh):=ar;let xh:=s1 _ _ ha;generalize af H d (.dK (fh sh))=H1 at s1 hD xh⊢;show⟨.inr (.inr (.inl ⟨O,.inl ⟨_,hD⟩⟩)),_,O,a,_,_,_,O,O,aC xh,O,d,fh sh,.inr x,V.str unshown,O,O,.inl hD,?_⟩;rw[Y9];show q _ s1
 .show dM hs ?_;rw[qY hs]at q;show-⟨a,_,_,_,O,O,aC ha,O,q _ (Same.refl _)⟩
def Zj(F:Fu K "piece_width" NJ f fd)(T:BnD mg)(U:BO mg)(Zk:⋯ 1 "word_width" ["face", "word"] FV)(Zl:⋯ 1 "printed" ["piece", "shown"] FX):(~~~0) 2 f fd ["piece", "face", "shown", "held"] (fal 3 FY):=by
 rcases F.go ["piece", "face", "shown", "held", "wide"] with⟨hv,a,p,fa,held,so,x,t,sh,fc,rfl,ha,wx,hp,ok,hf,fok,q⟩;obtain rfl:held=false:=V.bl.inj (qZ hv);let⟨_,xi⟩:=U.sort;show⟨_,(ax (sv 4 (cF Zk hr (a2 '1' (cF Zl hr (a2 '0' '2')))))
  (ax (ba (PW.pt (gX (kE '3') (i9 (tc bv (px aF '0' (gi xi)) aU)))) NF bi)
  (aA (aH '4')))),?_⟩
 show¬⟨_,O,a,p,so,x,t,sh,O,ha,hp,ok,λH1 s1=>?_⟩;let pw:=Za ok (s:=so) wx;show⟨fa,fc,jV sh so x,O,hf.same s1,fok,pw.1,pw.2,λH2 s2=>?_⟩;unfold iu at q;rw[qY (λz=>nomatch z.1)]at q;show¬⟨bj (bj ⟨_,O,q _ (s1.trans s2)⟩)⟩
end K33
namespace Bd
open L2 Bk Gen Gd
def Zm{l s:Int}(hl:0<=l)(hs:1<=s):0<=dA l s:=by
 unfold dA;have:-l / s<=0:=by
  show Int.le_of_lt_add_one (Int.lt_of_not_ge λz=>?_);let h1:=(Int.le_ediv_iff_mul_le (by omega:0<s)).mp z;omega
 omega
theorem xj:∀{l:TN},(∀x∈l,0<=x)->0<=l.sum
 | [],_=>∅
 | x :: l, h => by
   rw[List.sum_cons]
   let h1:=h x rE
   let h2:=xj (l:=l) λy hy=>h y (qS _ hy)
   omega
section
variable{ds:List Nd}{ls:TB}{us:List (List Un)}
def Zn(cx:Ctx ds ls us){bs:TC}(hb:∀m,0<=(aJ bs m).1/\0<=(aJ bs m).2){n:Nat}(hn:n<ds⁻¹):0<=(fe ds ls us bs n).1/\0<=(fe ds ls us bs n).2:=by
 let⟨l,el,cQ,lv⟩:=cx.look hn;let hi:0<=aB ls n 3:=by rw[lv];show cQ.ins
 let nu:n<us⁻¹:=by rw[cx.ul];show hn
 let eu:bg us n=us[n]:=by unfold bg;rw[qB nu];rfl
 let up:=(cx.pos _ (rJ nu)).2;let kl:∀m∈aw ds n,m<ds⁻¹:=λm hm=>cO hm
 let NL:∀m∈aw ds n,0<=aB ls m 11:=λm hm=>by
  let⟨l',_,oR,oT⟩:=cx.look (kl m hm);rw[oT];show oR.wide
 let fl:∀m,0<=cD ls bs m:=λm=>by
  unfold cD;have:=(hb m).1;omega
 have ed:ds[n]?=!ds[n]:=qB hn;let xk:ds[n].k≠.picture->0<=(jo ds ls us bs n ds[n]).1/\0<=(jo ds ls us bs n ds[n]).2:=λhp=>by
  have oF:0<=lD (bg us n)/\0<=iU (bg us n):=by
   rw[eu];show⟨mN λx hx=>?_,?_⟩
   .let⟨u,hu,rfl⟩:=qP.mp hx;show(up u hu).1
   .unfold iU;let h1:=xj (l:=us[n].map Un.w) λx hx=>by
     let⟨u,hu,rfl⟩:=qP.mp hx;show(up u hu).1
    let h2:=xj (l:=us[n].dropLast.map Un.b) λx hx=>by
     let⟨u,hu,rfl⟩:=qP.mp hx;show(up u (by rw[List.dropLast_eq_take]at hu;show x8 hu)).2
    omega
  let pile:∀m∈aw ds n,0<=(cX ds ls bs m).1/\0<=(cX ds ls bs m).2:=λm hm=>by
   unfold cX
   split
   .show⟨NL m hm,NL m hm⟩
   .show hb m
  let Zo:0<=bC ((aw ds n).map λm=>(cX ds ls bs m).1)/\0<=bC ((aw ds n).map λm=>(cX ds ls bs m).2):=by
   show⟨mN λx hx=>?_,mN λx hx=>?_⟩
   .let⟨m,hm,rfl⟩:=qP.mp hx;show(pile m hm).1
   .let⟨m,hm,rfl⟩:=qP.mp hx;show(pile m hm).2
  let shelf:0<=((aw ds n).map (cD ls bs)).sum/\0<=((aw ds n).map (mM ls bs)).sum:=by
   show⟨xj λx hx=>?_,xj λx hx=>?_⟩
   .let⟨m,hm,rfl⟩:=qP.mp hx;show fl m
   .let⟨m,hm,rfl⟩:=qP.mp hx;unfold mM ge;let h1:=fl m;let h2:=(hb m).2;omega
  let grid:∀g:Nat->Int,(∀m,0<=g m)->0<=lB ls (aB ls n 7) ((aw ds n).map λm=>(m,g m)):=λg hg=>by
   unfold lB;let c1:=cQ.cols;rw[<-lv]at c1;show Int.mul_nonneg () (mN λx hx=>?_);let⟨z,hz,rfl⟩:=qP.mp hx;let⟨m,hm,rfl⟩:=qP.mp hz;let⟨l',_,oR,oT⟩:=cx.look (kl m hm);let sp:=oR.span;rw[<-oT]at sp;show Zm (hg m) (by show 1<=min (aB ls m 8) (aB ls n 7);omega)
  unfold jo
  split
  .show oF
  .show oF
  .show oF
  .show shelf
  .show⟨grid (λm=>(aJ bs m).1) λm=>(hb m).1,grid (λm=>(aJ bs m).2) λm=>(hb m).2⟩
  .show Zo
 unfold fe;rw[ed]
 by_cases hp:ds[n].k=.picture
 .let⟨a,b,e,h0⟩:=cx.pic n _ ed hp;simp only[hp,if_true];have:iT ds[n]=a:=by unfold iT;rw[e]
  rw[this];show⟨h0,h0⟩
 .simp only[hp,if_false];have:=xk hp;omega
theorem F4(cx:Ctx ds ls us):∀k,k<=ds⁻¹->∀m,0<=(aJ (eE ds ls us k) m).1/\0<=(aJ (eE ds ls us k) m).2
 | 0, _, m => by
   have:aJ (eE ds ls us 0) m=(0,0):=by
     unfold aJ eE
     rw[List.getElem?_replicate]
     split<;>rfl
   rw[this]
   show⟨xF _,xF _⟩
 | k + 1, h, m => by
   let ih:=F4 cx k ()
   rw[eE]
   by_cases e:ds⁻¹-1-k=m
   · subst e
     rw[FM (by rw[qx];omega)]
     show Zn cx ih ()
   · rw[FL e]
     show ih m
end
def mS(b:Book ds):Behind ds:=λm d h=>by
 rcases(Bk.Book.each b h).up with⟨rfl,e⟩ | ⟨pos,j,x,ej,lt,_⟩
 .omega
 .omega
def Zp(b:Book ds){n:Nat}(h:ds[n]?=!d)(hk:d.k=.grid):aw ds n≠[]:=by
 let h1:=(Bk.Book.each b h).kids.2.1 (by rw[hk];rfl);intro z;show h1 ?_;unfold kk;rw[uT,List.filter_eq_nil_iff];intro c hc;let⟨i,hi,rfl⟩:=xA.mp hc;let h2:i∉aw ds n:=by rw[z];simp
 intro e;show h2 (rY.mpr ⟨xC.mpr hi,qR ?_⟩);rw[qB hi];show some (ds[i].e)=!(n:Int);rw[rF e]
def NM(b:Book ds){n:Nat}(h:ds[n]?=!d)(hk:d.k=.picture):∃a c:Int,d.st=[.int a,.int c]/\0<=a:=by
 let h1:=(b.form d (qN h)).st;rw[hk]at h1;let⟨a,c,e,h2,_⟩:=h1;show⟨a,c,e,()⟩
def Zq(N:Addr->Prop)(H:Hp)(a:Addr)(l:TN):=N a/\H a=!.lst ⇑l
end Bd
namespace Fc
open L2 Bk Gen Gd Bd
structure dG where
 w:Int
 b:Int
 h:Int
 k:Int
 ns:TN
def UtAt(H:Hp)(p:Addr×Addr)(u:dG):=H p.1=!.tup [.int u.w,.int u.b,.int u.h,.int u.k,.ref p.2]/\H p.2=!.lst ⇑u.ns
def UtAt.same{p:Addr×Addr}(s:Same H H')(h:UtAt H p u):UtAt H' p u:=⟨s _ _ h.1,s _ _ h.2⟩
def UsAt(H0 H:Hp)(L:Addr)(us:List dG):=H0 L=none/\∃ps:List (Addr×Addr),H L=!.lst ↑(ps.map Prod.fst)/\Paired (λp u=>UtAt H p u/\H0 p.1=none/\H0 p.2=none/\p.2≠L) ps us/\(ps.map Prod.snd).Nodup
def UsAt.same(s:Same H H')(h:UsAt H0 H L us):UsAt H0 H' L us:=by
 let⟨n,ps,e,pr,nd⟩:=h;show⟨n,ps,s _ _ e,pr.mono λ_ _ q=>⟨q.1.same s,q.2⟩,nd⟩
def UsAt.nil(n:H0 L=none)(e:H L=!.lst []):UsAt H0 H L []:=⟨n,[],e,.nil,.nil⟩
def UsAt.push{ps:List (Addr×Addr)}(n:H0 L=none)(e:H L=!.lst ↑(ps.map Prod.fst))(pr:Paired (λp u=>UtAt H p u/\H0 p.1=none/\H0 p.2=none/\p.2≠L) ps us)(nd:(ps.map Prod.snd).Nodup)(s:Same H H1)(h0:Same H0 H)(oU:H nl=none)(ha:H a=none)(ut:UtAt H1 (a,nl) u):UsAt H0 (af H1 L (.lst (↑(ps.map Prod.fst)++[.ref a]))) L (us++[u]):=by
 let aL:a≠L:=λz=>by rw[z,e]at ha;cases ha
 let nL:nl≠L:=λz=>by rw[z,e]at oU;cases oU
 show⟨n,ps++[(a,nl)],by rw[ar,qD,qD];rfl,?_,?_⟩
 .let old:Paired (λp u=>UtAt (af H1 L (.lst (↑(ps.map Prod.fst)++[.ref a]))) p u/\H0 p.1=none/\H0 p.2=none/\p.2≠L) ps us:=pr.mono λp v q=>by
   show⟨⟨?_,?_⟩,q.2⟩
   .rw[aM (λz=>by have:=q.1.1;rw[z,e]at this;cases this)];show s _ _ q.1.1
   .rw[aM q.2.2.2];show s _ _ q.1.2
  show old.snoc ⟨⟨?_,?_⟩,h0.free ha,h0.free oU,nL⟩
  .rw[aM aL];show ut.1
  .rw[aM nL];show ut.2
 .rw[qD];show vJ.mpr ⟨nd,∅,?_⟩;intro x hx y hy z;let Zr:y=nl:=‹hy›
  let⟨p,hp,rfl⟩:=qP.mp hx;let⟨i,hi⟩:=List.getElem?_of_mem hp;let⟨v,_,q⟩:=bW pr hi;have:=q.1.2;rw[z,Zr,oU]at this;cases this
theorem NO{α β:Type}{F:α->β->Prop}{u:β}:∀{l:List β} {ps:List α},Paired F ps (l++[u])->∃ww p,ps=ww++[p]/\Paired F ww l/\F p u
 | [],_,.cons q .nil=>⟨[],_,O,.nil,q⟩
 | _ :: l, _, .cons q t => by
   let⟨ww,p,e,pr,f⟩:=NO (l:=l) t
   show⟨_::ww,p,by rw[e];rfl,.cons q pr,f⟩
def UsAt.note(v:Int)(h:UsAt H0 H L (us++[u])):∃(ps:List (Addr×Addr)) (a nl:Addr),H L=!.lst ↑((ps++[(a,nl)]).map Prod.fst)/\UtAt H (a,nl) u/\H0 nl=none/\UsAt H0 (af H nl (.lst (⇑u.ns++[.int v]))) L (us++[{u with ns:=u.ns++[v]}]):=by
 let⟨n,ps0,e,pr,nd⟩:=h;let⟨ps,⟨a,nl⟩,rfl,Zs,ut,n1,n2,n3⟩:=NO pr;show⟨ps,a,nl,e,ut,n2,n,ps++[(a,nl)],by rw[aM (rV n3)];show e,?_,nd⟩;let apart:∀p∈ps,p.2≠nl:=λp hp z=>by
  rw[qD]at nd;show(vJ.mp nd).2.2 p.2 (qP.mpr ⟨p,hp,O⟩) nl ∅ z
 let tn:∀{q:Addr×Addr} {x:dG},UtAt H q x->q.1≠nl:=λh z=>by
  let h1:=h.1;let h2:H nl=_:=ut.2;rw[z,h2]at h1;cases h1
 have old:∀{l:List (Addr×Addr)} {us:List dG},(∀p∈l,p.2≠nl)->Paired (λp u=>UtAt H p u/\H0 p.1=none/\H0 p.2=none/\p.2≠L) l us->Paired (λp x=>UtAt (af H nl (.lst (⇑u.ns++[.int v]))) p x/\H0 p.1=none/\H0 p.2=none/\p.2≠L) l us:=by
  intro l us ap q
  induction q with
  | nil=>show .nil
  | cons q t ih =>
    show .cons ⟨⟨?_,?_⟩,q.2⟩ (ih λp hp=>ap p (qS _ hp))
    · rw[aM (tn q.1)];show q.1.1
    · rw[aM (ap _ rE)];show q.1.2
 show(old apart Zs).snoc ⟨⟨?_,?_⟩,n1,n2,n3⟩
 .rw[aM (tn ut)];show ut.1
 .show af H nl _ nl=_;rw[ar,qD];rfl
def eF(fs:List cY)(n:Int):cY:=(fs[(n % (fs⁻¹:Int)).toNat]?).getD ⟨0,0,0,[]⟩
def lE(acc:List dG)(v:Int):List dG:=match acc.getLast? with
 | none=>acc
 | some u=>acc.dropLast++[{u with ns:=u.ns++[v]}]
def jW(fs:List cY)(sh:TK)(held:Bool)(num:Int)(kids:TN)(i:Nat)(acc:List dG):Th->List dG
 | .tri .note (.inr j) _=>lE acc ((kids[j.toNat]?).getD 0)
 | .tri s (.inl x) t=>acc++[⟨iu (eF fs (num+t)) sh held s x,(eF fs (num+t)).bl,(eF fs (num+t)).hi,i,[]⟩]
 | _=>acc
def dh(fs:List cY)(sh:TK)(held:Bool)(num:Int)(kids:TN)(st:List Th):Nat->List dG
 | 0=>[]
 | i + 1 => match st[i]? with
   | some x=>jW fs sh held num kids i (dh fs sh held num kids st i) x
   | none=>dh fs sh held num kids st i
def BQ(h:acc≠[])(v:Int):∃us u,acc=us++[u]/\lE acc v=us++[{u with ns:=u.ns++[v]}]:=by
 show⟨acc.dropLast,acc.getLast h,(List.dropLast_concat_getLast h).symm,?_⟩;unfold lE;rw[List.getLast?_eq_some_getLast h]
theorem F5{sh:TK}{held:Bool}{num:Int}{kids:TN}(ok:∀x∈st,ii x)(hd:∃x r,st=x::r/\ig x=false):∀i,i<st⁻¹->dh fs sh held num kids st (i+1)≠[]
 | 0, h => by
   let⟨x,r,rfl,nx⟩:=hd
   let o:=ok x rE
   unfold dh
   show jW fs sh held num kids 0 [] x≠[]
   cases x with
   | int n=>show o.elim
   | tri s y t=>cases s<;>cases y<;>first | show o.elim | (cases nx;done) | simp[jW]
 | i + 1, h => by
   let ih:=F5 (fs:=fs) (sh:=sh) (held:=held) (num:=num) (kids:=kids) ok hd i ()
   rw[dh,qB h]
   show jW fs sh held num kids (i+1) _ st[i+1]≠[]
   let o:=ok _ (rJ h)
   generalize st[i+1]=x at o
   cases x with
   | int n=>show o.elim
   | tri s y t =>
     cases s<;>cases y<;>first
       | show o.elim
       | (simp[jW];done)
       | (show lE _ _≠[]
          let⟨us,u,_,e⟩:=BQ ih _
          rw[e]
          simp)
def NP{x:Str}(h:∀c∈x.cps.toList,c<128):x.cps.all (·< 128)=true:=by
 rw[<-Array.all_toList,uI];show λc hc=>qR (h c hc)
def Zt{x:Str}(h:Eo x):Wd x:=⟨by have:=h.2.1;unfold Str.length at this;omega,NP λc hc=>(show∀c∈ve,c<128 by ac_rfl) c (h.2.2 c hc)⟩
def Zu{x:Str}(h:Name x):Wd x:=⟨by have:=h.2.1;unfold Str.length at this;omega,NP λc hc=>by have:=(h.2.2 c hc).2;omega⟩
structure F6(ds:List Nd)(fs:List cY)(sh:TK):Prop where
 le:ds⁻¹<=100
 fne:fs≠[]
 fl:fs⁻¹<=1000
 fok:∀f∈fs,oP f
 sok:oQ sh
 pcs:∀(n:Nat) (d:Nd),ds[n]?=!d->(d.k=.text\/d.k=.head\/d.k=.note)->(∀x∈d.st,ii x)/\(∃x r,d.st=x::r/\ig x=false)/\d.st⁻¹<=60/\∀(t j:Int),Th.tri .note (.inr j) t∈d.st->j.toNat<(aw ds n)⁻¹
def mT(ds:List Nd)(fs:List cY)(sh:TK)(held:Bool)(num:Int)(n:Nat):List dG:=match ds[n]? with
 | some d=>if d.k=.text\/d.k=.head\/d.k=.note then dh fs sh held num ((aw ds n).map λ(j:Nat)=>(j:Int)) d.st d.st⁻¹ else[]
 | none=>[]
def UsAt.base(s:Same H H0)(h:UsAt H0 H1 L us):UsAt H H1 L us:=by
 let⟨n,ps,e,pr,nd⟩:=h;show⟨s.free n,ps,e,pr.mono λ_ _ q=>⟨q.1,s.free q.2.1,s.free q.2.2.1,q.2.2.2⟩,nd⟩
inductive F7:List V->Hp->VK->XK->Prop
|m (B F p:Addr) (num:Int) (held:Bool) (n:Nat) (ds:List Nd) (fs:List cY) (sh:TK):vs=[.ref B,.int num,.ref F,.ref p,.bl held,.int n]->cM (λ_=>True) H B ds->LstAt FcAt H F fs->LstAt ShAt H p sh->n<ds⁻¹->F6 ds fs sh->(∀(L:Addr) (H':Hp),Same H H'->UsAt H H' L (mT ds fs sh held num n)->Q (.ref L) H')->F7 vs H Q E
def NQ(s:Same H H')(h:LstAt FcAt H p fs):LstAt FcAt H' p fs:=gH (λ_ _=>FcAt.same s) s h
def NR(s:Same H H'){sh:TK}(h:LstAt ShAt H p sh):LstAt ShAt H' p sh:=gH (λ_ _=>ShAt.same s) s h
def Zv{n:Int}(e:fs[(n % (fs⁻¹:Int)).toNat]?=!f):eF fs n=f:=by unfold eF;rw[e];rfl
def Zw{sh:TK}{held:Bool}{num:Int}{kids:TN}{i:Nat}(h:∀u∈acc,u.ns⁻¹<=i)(x:Th):∀u∈jW fs sh held num kids i acc x,u.ns⁻¹<=i+1:=by
 have note:∀v,∀u∈lE acc v,u.ns⁻¹<=i+1:=λv u hu=>by
  by_cases e:acc=[]
  .rw[e]at hu;cases hu
  .let⟨us,w,e1,e2⟩:=BQ e v;rw[e2]at hu;rcases rG.mp hu with q | q
   .show yS (h u (by rw[e1];show uP _ q))
   .have:u={w with ns:=w.ns++[v]}:=‹q›
    let hw:=h w (by rw[e1];simp);rw[this];show(w.ns++[v])⁻¹<=i+1;rw[qJ];show yO hw
 let same:∀u∈acc,u.ns⁻¹<=i+1:=λu hu=>yS (h u hu)
 let more:∀(a b c d:Int),∀u∈acc++[(⟨a,b,c,d,[]⟩:dG)],u.ns⁻¹<=i+1:=λa b c d u hu=>by
  rcases rG.mp hu with q | q
  .show same u q
  .have:u=⟨a,b,c,d,[]⟩:=‹q›
   rw[this];show rO _
 cases x with
 | int n=>show same
 | tri s y t=>cases s<;>cases y<;>first | show note _ | show more _ _ _ _ | show same
theorem F9{sh:TK}{held:Bool}{num:Int}{kids:TN}:∀i,∀u∈dh fs sh held num kids st i,u.ns⁻¹<=i
 | 0=>λu hu=>by cases hu
 | i + 1 => by
   unfold dh
   cases st[i]? with
   | none=>show λu hu=>yS (F9 i u hu)
   | some x=>show Zw (F9 i) x
def jX(ds:List Nd)(fs:List cY)(sh:TK)(held:Bool)(ls:TB):List (List dG):=(List.range ds⁻¹).map λn=>mT ds fs sh held (aB ls n 0) n
end Fc
namespace K33
open L2 Bk Gen Gd Bd Fc
abbrev NS:=top 14
abbrev NT:=top 18
abbrev NU:=top 34
def pieceKinds:TV:=[s!"text",s!"head",s!"note"]
def xn(k:Kd):mz (.str k.s) (pieceKinds.map V.str)=decide (k=.text\/k=.head\/k=.note):=by
 rw[Ya];cases k<;>ac_rfl
def Zx{n:Nat}(h:0<n):fW n (-1)=!n-1:=by
 unfold fW;rw[qY {},qX ()]
 congr 1
 omega
def atI_last(as:TQ)(al:Addr):bO ↑(as++[al]) (-1)=!.ref al:=by
 unfold bO;rw[Zx ∅];simp
def Zy(F:Fu K "holds" NS f fd)(T:Bn mg)(tE:∃t,mg "ELDER" = !.int 0 t):(~~~0) 1 f fd ["book", "node"] mR:=by
 rcases F.go ["book", "node"] with⟨p,n,ds,N,rfl,⟨as,hp,nd⟩,le,hn,q⟩;let⟨tE,qz⟩:=tE;show⟨_,(ax (ba (tM (Vq tX jd ao '1' (ln T.len '0'))) NF bi)
  (aA (aH (cm ["number", "other"] ["node"] [1] (qa (by rfl) T.enumerate (a1 '0')) (mH K (n:=2) (by rfl) (by rfl) (bF (nv 0) (bF (nv 1) dZ))) (h9 (tc bv (px (r:=bZ K) aF '1' (gi qz)) '2')) '0')))),?_⟩
 let kW:as⁻¹=ds⁻¹:=nd⁻¹;show-⟨_,_,O,O,_,O,?_⟩;show eS (show(0:Int)<=(n:Int) by omega) ⟨_,O,p,_,O,.inl (ag hp),_,_,O,O,_,O,?_⟩;rw[qR (show(n:Int)<(((↑as)⁻¹:Nat):Int) by rw[qA];omega)];show bj ?_;show-⟨p,O,⟨_,ag hp⟩,L8 (xs:=↑as) (λi ys ae H'=>Same H H'/\ys=⇑(mI ds n i)/\∃a b,ae=[a,b,!.int n]) (by rw[qA];show aW ()) ⟨Same.refl H,O,none,none,O⟩ ?_ ?_ ?_⟩
 .ext i ys ae H' hi ⟨s1,rfl,_⟩;show ag (s1 _ _ hp)
 .ext i x ys ae H' t hx ht ⟨s1,rfl,a,b,rfl⟩;let⟨a',ea,rfl⟩:=cJ hx;let⟨d,ed,Zz⟩:=nd.at ea;let⟨m',s',mL,_⟩:=Zz.ex;let s2:=s1.trans (ay ht (.tup [.int (i:Nat),.ref a']));show⟨t,_,O,aC ar,O,_,_,O,_,_,O,O,_,O,a',_,_,_,O,O,aC (s2 _ _ mL),O,_,O,O,_,O,?_⟩
  by_cases he:d.e=n
  .show eS (xH V.int he) ⟨_,O,s2,?_,_,_,O⟩;rw[X8 ed he,qD];rfl
  .rw[qV λz=>he (V.int.inj z)];show bj ⟨s2,?_,_,_,O⟩;rw[X9 ed he]
 .ext ys ae H' ⟨s1,rfl,_⟩ D hD;show q D _ (s1.free hD) (s1.trans (ay hD _)) ?_;rw[ar,qA,kW,YX]
def ZA(F:Fu K "look_at" NT f fd)(ZB:mg "PROPERTIES" = !.ref NV)(PT:Np K NV):(~~~0) 1 f fd ["looks", "node", "word"] fL:=by
 rcases F.go ["looks", "node", "word"] with⟨p,n,j,y,ls,rfl,⟨as,hp,pr⟩,hn,cZ,hj,ip,q⟩;let⟨o,ZC,ZD,ZE⟩:=PT.ob;let⟨a,ea,ha⟩:=dP pr (qB hn);let l13:=cZ _ (rJ hn);let ej:ls[n][j]?=!ls[n][j]'(by omega):=qB ();let ev:aB ls n j=ls[n][j]'(by omega):=by
  unfold aB;rw[qB hn,Option.getD_some,qW,ej];rfl
 show⟨_,(aA (aH (px aK (px aK '0' '1') (jM PySem.F.plainAttrs_tuple PySem.F.slot_tuple_index PySem.F.type_tuple_index YQ (gr ZB) (a1 '2'))))),?_⟩;rw[ev]at q;show¬⟨p,_,_,_,O,O,ag hp,aX ea,.inr (.inl ⟨O,o,ZC,ZD,ZE⟩),_,O,NV,xc,y,j,O,O,PT.tup _,ip.1,ip.2,a,_,_,_,O,O,ag ha,fX (by rw[qH,ej];rfl),q⟩
def ZF(F:Fu K "node_units" NU f fd)(T:BnD mg)(U:BO mg)(tK:∃t,mg "KIND" = !.int 1 t)(tS:∃t,mg "STUFF" = !.int 4 t)(tN:∃t,mg "UNIT_NOTES" = !.int 4 t)(lH:mg "KINDS_OF_PIECES" = !.ref gJ)(KP:∀H:Hp,SqT K H gJ (pieceKinds.map V.str))(jr:⋯ 1 "holds" ["book", "node"] mR)(ZG:⋯ 1 "face_at" ["faces", "number"] FW)(ZH:⋯ 2 "piece_width" ["piece", "face", "shown", "held"] (fal 3 FY)):(~~~0) 3 f fd ["book", "number", "faces", "shown", "held", "node"] (fal 4 F7):=by
 rcases F.go ["book", "number", "faces", "shown", "held", "node", "notes", "units", "place", "piece", "face"] with⟨ZI,B,FA,p,num,held,n,ds,fs,sh,rfl,⟨ab,hB,nd⟩,hF,hp,hn,cx,q⟩;let⟨_,dW⟩:=tK;let⟨_,mU⟩:=tS;let⟨_,ZJ⟩:=tN;let⟨_,xi⟩:=U.sort;let⟨_,BP⟩:=U.thing;let⟨_,ZK⟩:=U.tone;let⟨_,F2⟩:=U.blank;let⟨_,F1⟩:=U.high;let le:=cx.le;let ed:ds[n]?=!ds[n]:=qB hn;let⟨c,ec,nc⟩:=nd.get ed;let⟨m',s',hc,_,_,_,mV,bu,fi⟩:=nc.ex;generalize ds[n]=d at ed hc fi nc;show⟨_,(ax (ba (tc AV (px aF (px aK '0' '5') (gi dW)) (gr lH)) (aA (aH (bf bX))) bi)
  (ax (sv 6 (cF jr hr (a2 '0' '5')))
  (ax (sv 7 (bf bX))
  (ax (fv (qa (by rfl) T.enumerate (a1 (px aF (px aK '0' '5') (gi mU)))) (jJ (by rfl) (bF (nv 8) (bF (nv 9) dZ)))
  (aA (ba (tc bv (px aF '9' (gi xi)) aU) (aA (cI (ap (px aF (px aK '7' (dJ dL ao)) (gi ZJ)) (px aK '6' (px aF '9' (gi BP)))))) (ax (sv 10 (cF ZG hr (a2 '2' (aG a9 '1' (px aF '9' (gi ZK))))))
  (aA (cI (ap '7' (bR (aO (cF ZH hr (aO '9' (a3 ':' '3' '4'))) (aO (px aF ':' (gi F2)) (a3 (px aF ':' (gi F1)) '8' (bf bX))))))))))))
  (aA (aH '7')))))),?_⟩
 show¬⟨B,_,_,_,O,O,ag hB,aX ec,c,_,_,_,O,O,aC hc,O,gJ,_,O,.inr (KP _),O,vw _,_,O,?_⟩;rw[qX O,xn]
 by_cases ht:d.k=.text\/d.k=.head\/d.k=.note
 rotate_left
 .rw[qV ht];show bK ⟨aT,λL hL=>?_⟩;show q L _ (ay hL _) ?_;unfold mT;rw[ed];show UsAt H _ L (if d.k=.text\/d.k=.head\/d.k=.note then _ else[]);rw[qY ht];show UsAt.nil hL ar
 rw[qR ht];show bj ?_;let⟨jY,pne,p60,ZM⟩:=cx.pcs n d ed ht;let q2:∀(L:Addr) (H':Hp),Same H H'->UsAt H H' L (dh fs sh held num ((aw ds n).map λ(j:Nat)=>(j:Int)) d.st d.st⁻¹)->Q (.ref L) H':=λL H' s u=>q L H' s (by
  unfold mT;rw[ed];show UsAt H _ L (if d.k=.text\/d.k=.head\/d.k=.note then _ else[]);rw[qX ht];show u)
 clear q;show¬⟨B,n,ds,_,O,⟨ab,hB,nd⟩,(),hn,λK0 H1 hK s1 di=>?_⟩;generalize ZN:((aw ds n).map λ(j:Nat)=>(j:Int))=kids at di q2;let ZO:kids⁻¹=(aw ds n)⁻¹:=by rw[<-ZN,qA]
 show⟨aT,λL hL=>?_⟩;let sL:=ay hL (.lst []);let bo:af H1 L (.lst []) L=!.lst []:=ar;generalize af H1 L (.lst [])=H2 at sL bo⊢;let be:=s1.trans sL;let lv:mV⁻¹=d.st⁻¹:=qU fi;show¬⟨B,_,_,_,O,O,ag (be _ _ hB),aX ec,c,_,_,_,O,O,aC (be _ _ hc),O,s',O,⟨_,ag (be _ _ bu)⟩,BE (xs:=mV) (λi σ H'=>Same H1 H'/\UsAt H1 H' L (dh fs sh held num kids d.st i)/\(dh fs sh held num kids d.st i)⁻¹<=i/\∃z8 z9 c7,σ=[!.ref B,!.int num,!.ref FA,!.ref p,!.bl held,!.int n,!.ref K0,!.ref L,z8,z9,c7]) ⟨sL,UsAt.nil hL bo,qG _,none,none,none,O⟩ ?_ ?_ ?_⟩
 .ext i σ H' hi ⟨s3,_⟩;show ag (s3 _ _ (s1 _ _ bu))
 .rintro i v σ H3 t hv ZP ⟨s3,xo,xp,z8,z9,c7,rfl⟩;let⟨th,re,it⟩:=bW fi hv;let il:i<d.st⁻¹:=(qE.mp re).1;let po:=jY th (qN re);let NW:dh fs sh held num kids d.st (i+1)=jW fs sh held num kids i (dh fs sh held num kids d.st i) th:=by rw[dh,re]
  rw[NW];let nz:ig th=true->dh fs sh held num kids d.st i≠[]:=λhn=>by
   cases i with
   | zero =>
     let⟨x,r,e,nx⟩:=pne
     rw[e]at re
     cases re
     rw[nx]at hn
     cases hn
   | succ i=>show F5 jY pne i ()
  let sT:=ay ZP (.tup [.int (i:Nat),v]);let hT:af H3 t (.tup [.int (i:Nat),v]) t=!.tup [.int (i:Nat),v]:=ar;generalize af H3 t (.tup [.int (i:Nat),v])=H4 at sT hT⊢;let s4:=s3.trans sT;let BR:=xo.same sT;clear xo s3 NW;let sm:=F9 (fs:=fs) (sh:=sh) (held:=held) (num:=num) (kids:=kids) (st:=d.st) i;generalize dh fs sh held num kids d.st i=acc at BR xp nz sm⊢;show⟨t,_,O,aC hT,O,_,_,O,_,_,O,O,?_⟩;cases th with
  | int m=>show po.elim
  | tri so y tn =>
    let⟨a,rfl,_,ZQ⟩:=it
    let ha:H4 a=_:=s4 _ _ (s1 _ _ ZQ)
    show-⟨a,_,_,_,O,O,aC ha,O,O,_,O,?_⟩
    rw[show decide (V.str so.s=V.str (s!"note"))=decide (so=.note)from MT so .note]
    by_cases BS:so=.note
    · rw[decide_eq_true BS]
      subst BS
      cases y with
      | inl x=>show po.elim
      | inr j =>
        let i0:acc≠[]:=nz O
        let⟨us,u,e1,e2⟩:=BQ i0 ((kids[j.toNat]?).getD 0)
        let jl:j.toNat<kids⁻¹:=by rw[ZO];show ZM tn j (qN re)
        let j0:((j.toNat:Nat):Int)=j:=by have:=po.1;omega
        let ek:kids[j.toNat]?=!(kids[j.toNat]?).getD 0:=by rw[qB jl];rfl
        rw[show jW fs sh held num kids i acc (.tri .note (.inr j) tn)=lE acc ((kids[j.toNat]?).getD 0)from rfl,e2]
        rw[e1]at BR
        let⟨ps,au,nl,xq,ut,ZR,ZS⟩:=BR.note ((kids[j.toNat]?).getD 0)
        let ZT:H4 L=!.lst ↑(ps.map Prod.fst++[au]):=by rw[xq,qD];rfl
        let ZU:u.ns⁻¹<=1000:=by
          have:=sm u (by rw[e1];simp)
          omega
        show bK ⟨_,O,_,O,L,_,_,_,O,O,ag ZT,atI_last _ _,au,_,_,_,O,O,aC ut.1,O,.inl ⟨O,_,ag ut.2⟩,_,O,_,O,a,_,_,_,O,O,aC ha,O,K0,_,_,_,O,O,ag (s4 _ _ di),by show bO ⇑kids j=_;rw[<-j0];show fX (by rw[qH,ek];rfl),nl,_,_,O,O,ut.2,aW (by rw[qA];show ZU),?_⟩
        show⟨iq s4 ZR,ZS,?_,_,_,_,O⟩
        rw[qJ]
        rw[e1,qJ]at xp
        show yS xp
    · rw[decide_eq_false BS]
      have hx:∃x,y=.inl x/\Wd x/\0<=tn/\jW fs sh held num kids i acc (.tri so y tn)=acc++[⟨iu (eF fs (num+tn)) sh held so x,(eF fs (num+tn)).bl,(eF fs (num+tn)).hi,i,[]⟩]:=by
        cases so<;>cases y<;>first
          | show po.elim
          | show qT rfl BS
          | show⟨_,rfl,Zt po.1,po.2.1,rfl⟩
          | show⟨_,rfl,Zu po.1,po.2.1,rfl⟩
      let⟨x,rfl,wx,_,jZ⟩:=hx
      rw[jZ]
      show bj ?_
      show¬⟨_,O,a,_,_,_,O,O,aC ha,O,_,_,O,O,FA,num+tn,fs,O,NQ (s1.trans s4) hF,cx.fne,cx.fl,λtf H5 fc ef s5 hf hf0=>?_⟩
      rw[Zv ef]
      let kX:=s4.trans s5
      let fk:=cx.fok fc (qN ef)
      let⟨nL,ps,xq,NX,ZV⟩:=BR
      show-⟨.inl ⟨O,_,ag (s5 _ _ xq)⟩,_,O,_,O,_,O,_,O,ZI,a,p,tf,held,so,x,tn,sh,fc,O,s5 _ _ ha,wx,NR (s1.trans kX) hp,cx.sok,hf,fk,λH6 s6=>?_⟩
      let⟨Lf,NY,_⟩:=hf.same s6
      show-⟨tf,_,_,_,O,O,aC NY,O,_,O,tf,_,_,_,O,O,aC NY,O,_,O,aT,λnl oU=>?_⟩
      let s7:=ay oU (.lst [])
      let NZ:af H6 nl (.lst []) nl=!.lst []:=ar
      generalize af H6 nl (.lst [])=H7 at s7 NZ⊢
      show⟨aT,λau N1=>?_⟩
      let s8:=ay N1 (.tup [.int (iu fc sh held so x),.int fc.bl,.int fc.hi,.int (i:Nat),.ref nl])
      let N2:af H7 au (.tup [.int (iu fc sh held so x),.int fc.bl,.int fc.hi,.int (i:Nat),.ref nl]) au=!.tup [.int (iu fc sh held so x),.int fc.bl,.int fc.hi,.int (i:Nat),.ref nl]:=ar
      generalize af H7 au (.tup [.int (iu fc sh held so x),.int fc.bl,.int fc.hi,.int (i:Nat),.ref nl])=H8 at s8 N2⊢
      let Ga:=((s5.trans s6).trans s7).trans s8
      let lps:ps⁻¹=acc⁻¹:=qU NX
      show⟨L,_,_,O,O,Ga _ _ xq,aW (by rw[qA,qA];omega),?_⟩
      show⟨iq (s4.trans Ga) nL,UsAt.push nL xq NX ZV Ga s4 ((s5.trans s6).free oU) (((s5.trans s6).trans s7).free N1) ⟨N2,s8 _ _ NZ⟩,?_,_,_,_,O⟩
      rw[qJ]
      show yO xp
 .ext σ H3 ⟨s3,xo,xp,z8,z9,c7,rfl⟩;rw[lv]at xo;show-⟨q2 L _ (s1.trans s3) (xo.base s1)⟩
end K33
namespace Bw
open L2 Bk Gen Gd
open Bd
def UnAt(H:Hp)(a:Addr)(u:Un):=∃nl,H a=!.tup [.int u.w,.int u.b,.int u.h,.int u.k,.ref nl]/\∃l,H nl=!.lst l
def RowAt(H:Hp)(a:Addr)(r:List Un):=LstAt UnAt H a r
def UnAt.same(s:Same H H')(h:UnAt H a x):UnAt H' a x:=by
 let⟨nl,h1,l,h2⟩:=h;show⟨nl,s _ _ h1,l,s _ _ h2⟩
def RowAt.same(s:Same H H')(h:RowAt H a x):RowAt H' a x:=gH (λ_ _=>UnAt.same s) s h
def units_same(s:Same H H')(h:LstAt RowAt H p us):LstAt RowAt H' p us:=gH (λ_ _=>RowAt.same s) s h
structure In(H:Hp)(B Lk U:Addr)(ds:List Nd)(ls:TB)(us:List (List Un)):Prop where
 bk:cM (λ_=>True) H B ds
 lk:LstAt LkAt H Lk ls
 un:LstAt RowAt H U us
def In.same{ls:TB}(h:In H B Lk U ds ls us)(s:Same H H'):In H' B Lk U ds ls us:=by
 let⟨as,e,nd⟩:=h.bk;show⟨⟨as,s _ _ e,nd.keep s.keep λ_ _ _=>trivial⟩,dg s h.lk,units_same s h.un⟩
inductive Gb:List V->Hp->VK->XK->Prop
|m (p:Addr) (r:List Un):vs=[.ref p]->RowAt H p r->r≠[]->r⁻¹<=100->(∀H',Same H H'->Q (.int (lD r)) H')->Gb vs H Q E
inductive BU:List V->Hp->VK->XK->Prop
|m (p:Addr) (r:List Un):vs=[.ref p]->RowAt H p r->r≠[]->r⁻¹<=100->(∀H',Same H H'->Q (.int (iU r)) H')->BU vs H Q E
inductive Gc:List V->Hp->VK->XK->Prop
|m (B p U L:Addr) (n:Nat) (ds:List Nd) (ls:TB) (us:List (List Un)) (bs:TC):vs=[.ref B,.ref p,.ref U,.ref L,.int n]->In H B p U ds ls us->LstAt PrAt H L bs->bs⁻¹=ds⁻¹->n<ds⁻¹->Ctx ds ls us->(∀(t:Addr) (H':Hp),Same H H'->PrAt H' t (fe ds ls us bs n)->Q (.ref t) H')->Gc vs H Q E
inductive spAll:List V->Hp->VK->XK->Prop
|m (B p U:Addr) (ds:List Nd) (ls:TB) (us:List (List Un)):vs=[.ref B,.ref p,.ref U]->In H B p U ds ls us->Ctx ds ls us->(∀(L:Addr) (H':Hp),H L=none->Same H H'->LstAt PrAt H' L (xg ds ls us)->Q (.ref L) H')->spAll vs H Q E
inductive spRowsHigh:List V->Hp->VK->XK->Prop
|m (a:Addr) (us:List Un):vs=[.ref a]->RowAt H a us->us≠[]->us⁻¹<=100->(∀H',Same H H'->Q (.int (bC (us.map Un.h))) H')->spRowsHigh vs H Q E
end Bw
namespace K33
open L2 Bk Gen Gd Bd Fc
abbrev N3:=top 37
def ZW(F:Fu K "rows_high" N3 f fd)(T:bY mg)(tH:∃t,mg "UNIT_HIGH" = !.int 2 t):(~~~0) 1 f fd ["units"] Bw.spRowsHigh:=by
 rcases F.go ["units"] with⟨a,us,rfl,⟨ps,ha,pr⟩,ne,l9,q⟩;let⟨_,ZX⟩:=tH;show⟨_,(aA (aH (cb (oK (by rfl)) T.max dU (a1 (cm ["unit"] [] [] (bc '0') (nv 0) br (px (r:=bZ K) aF '0' (gi ZX))))))),?_⟩;let lp:=qU pr;show-⟨a,O,⟨_,ag ha⟩,bB (xs:=↑ps) (λi ys ae H'=>H'=H/\ys=⇑((us.take i).map Un.h)/\∃z,ae=[z]) (by rw[qA];show aW ()) ⟨O,O,none,O⟩ ?_ ?_ ?_⟩
 .ext i ys ae H' hi ⟨rfl,rfl,_⟩;show ag ha
 .ext i y ys ae H' hy ⟨rfl,rfl,z,rfl⟩;let⟨c,ec,rfl⟩:=cJ hy;let⟨u,eu,_,hu,_⟩:=bW pr ec;show-⟨c,_,_,_,O,O,aC hu,O,O,?_,_,O⟩;rw[qO,eu,qD,qD];rfl
 .ext ys ae H' ⟨rfl,rfl,_⟩ D hD;rw[show us.take (↑ps)⁻¹=us from qI (by rw[qA];omega)];show⟨D,_,bC (us.map Un.h),O,ag ar,jT ‹ne›,jU,q _ (ay hD _)⟩
end K33
namespace Fc
open L2 Bk Gen Gd Bd
def ZY(s:Same H H')(h:cM (λ_=>True) H p ds):cM (λ_=>True) H' p ds:=by
 let⟨ab,e,nd⟩:=h;show⟨ab,s _ _ e,nd.keep s.keep λ_ _ _=>trivial⟩
end Fc
namespace Br
open L2 Bk Gen Gd Bd
section
variable{X:Cx}{pos:Pos}
inductive N4(K:W.Frag)(n:Nat)(t:AH):V->St->Hp->(St->Hp->Prop)->Prop
|m a xs:v=.ref a->SqL K H a xs->xs⁻¹=n->t xs σ H Q->N4 K n t v σ H Q
def pg_tupL{k:Nat}{n:Nat}(hc:X.calm=true)(h:pR X es t)(hn:(assignEach es X.env)⁻¹=n:=by rfl)(cp:(assignEach es X.env).findIdx? (·.1)=none:=by rfl):PG X (.Tuple es k pos) (N4 X.K n t):=by
 intro aa s σ H v u Q I r hw;let⟨a,xs,e1,hq,hl,hw⟩:=hw;subst e1;cases r;let⟨ah,rv,ht,hz⟩:=I.list hq;let hL:s.heap.IsList a ah.toArray:=ht.isList;let tG:(assignEach es X.env)⁻¹=ah.toArray.size:=by simp[hn,<-hl,rv⁻¹]
 show wpAny _ _ (assign (.Tuple es k pos) X.env (.ref a)) _ _ s;rw[PyProof.Rows.assign_Tuple];show qC (vZ ?_);unfold unpack;rw[tG,cp];show qC (xY (W.kun_itemsOf (I.ok.hd hc) hL λh' hx=>?_));let I1:Inv X aa σ H {s with heap:=h'}:=I.kept (t':=s.toks) λb o e=>hx b o (rD (qK e)) e
 show h aa _ σ H xs _ Q I1 ‹rv› hw
end
def ov:Option Int->V
 | none=>.non
 | some x=>.int x
def UOk(u:Un):=1<=u.w/\u.w<=960/\0<=u.b/\u.b<=960
def roomR(wd:Int)(nw:Int×Int)(row:Int):Int:=if row<nw.1 then max (wd-nw.2) 0 else wd
def cutU(us:List Un)(i j:Nat):List Un:=(us.drop i).take (j-i)
def longU(us:List Un)(i j:Nat):Int:=iU (cutU us i j)
def dB(us:List Un)(i j:Nat)(room:Int):Option Int :=
 if room-longU us i j<0 then(if j-i=1 then !1000000-(room-longU us i j)else none)
 else !(if j=us⁻¹ then 0 else(room-longU us i j)*(room-longU us i j))
def N5{i j:Nat}(h:u∈cutU us i j):u∈us:=vO (x8 h)
def cut_len{i j:Nat}(h:j<=us⁻¹):(cutU us i j)⁻¹=j-i:=by
 unfold cutU;rw[yC,vM];omega
def ZZ(ok:∀u∈us,UOk u)(i j:Nat):0<=longU us i j:=by
 unfold longU iU;let h1:=(BI (B:=960) {} (ns:=(cutU us i j).map Un.w) λx hx=>by
  let⟨u,hu,rfl⟩:=qP.mp hx;let⟨h1,h2,_⟩:=ok u (N5 hu);omega).1
 let h2:=(BI (B:=960) {} (ns:=(cutU us i j).dropLast.map Un.b) λx hx=>by
  let⟨u,hu,rfl⟩:=qP.mp hx;let⟨_,_,h1,h2⟩:=ok u (N5 ((List.dropLast_sublist _).subset hu));omega).1
 omega
def paired_cut{α β:Type}{F:α->β->Prop}{l1:List α}{l2:List β}(h:Paired F l1 l2)(i n:Nat):Paired F ((l1.drop i).take n) ((l2.drop i).take n):=by
 have tk:∀{l1:List α} {l2:List β},Paired F l1 l2->∀n,Paired F (l1.take n) (l2.take n):=by
  intro l1 l2 h
  induction h with
  | nil=>intro n;simp only[List.take_nil];show .nil
  | cons h t ih =>
    intro n
    cases n with
    | zero=>show .nil
    | succ n=>show .cons h (ih n)
 have dp:∀{l1:List α} {l2:List β},Paired F l1 l2->∀n,Paired F (l1.drop n) (l2.drop n):=by
  intro l1 l2 h
  induction h with
  | nil=>intro n;simp only[List.drop_nil];show .nil
  | cons h t ih =>
    intro n
    cases n with
    | zero=>show .cons h t
    | succ n=>show ih n
 show tk (dp h i) n
def cutV_nat{as:TQ}{i j:Nat}(h:j<=as⁻¹)(hi:i<=j):fV ↑as (!(i:Int)) (!(j:Int))=↑((as.drop i).take (j-i)):=by
 unfold fV;let e1:HT.sIx (↑as)⁻¹ 0 (!(i:Int))=i:=by
  show(if(i:Int)<0 then((i:Int)+(((↑as)⁻¹:Nat):Int)).toNat else min (i:Int).toNat (↑as)⁻¹)=_;rw[qY (),qA];omega
 let e2:HT.sIx (↑as)⁻¹ (↑as)⁻¹ (!(j:Int))=j:=by
  show(if(j:Int)<0 then((j:Int)+(((↑as)⁻¹:Nat):Int)).toNat else min (j:Int).toNat (↑as)⁻¹)=_;rw[qY (),qA];omega
 rw[e1,e2,<-wB,<-vN]
def Z0{as:TQ}{k:Int}{m:Nat}{c:Addr}(e:k=(m:Int))(h:as[m]?=!c):bO ↑as k=!.ref c:=by
 rw[e];show aX h
def sql_same(s:Same H H')(h:SqL K H a xs):SqL K H' a xs:=by
 rcases h with(h | ⟨o,h⟩) | h
 .show .inl (.inl (s _ _ h))
 .show .inl (.inr ⟨o,s _ _ h⟩)
 .show .inr h
def sqt_same(s:Same H H')(h:SqT K H a xs):SqT K H' a xs:=by
 rcases h with(h | ⟨o,h⟩) | h
 .show .inl (.inl (s _ _ h))
 .show .inl (.inr ⟨o,s _ _ h⟩)
 .show .inr h
abbrev PrK(K:W.Frag)(H:Hp)(t:Addr)(nw:Int×Int):Prop:=SqT K H t [.int nw.1,.int nw.2]
inductive Ge(K:W.Frag):List V->Hp->VK->XK->Prop
|m (t:Addr) (wd row:Int) (nw:Int×Int):vs=[.int wd,.ref t,.int row]->PrK K H t nw->Q (.int (roomR wd nw row)) H->Ge K vs H Q E
structure BnR(mg:TJ):Prop extends qp mg where
 tw:∃t,mg "UNIT_WIDE" = !.int 0 t
 tb:∃t,mg "UNIT_BLANK" = !.int 1 t
end Br
namespace L2
open PyProof.Rows
def Z1(K:W.Frag):List V->Hp->VK->Prop:=λxs H Q=>∃(p:Addr) (ns:TN) (m:Int),xs=[.ref p]/\SqL K H p ⇑ns/\m∈ns/\(∀x∈ns,m<=x)/\Q (.int m) H
section
variable{X:Cx}
def BV{ns:TN}{m:Int}{n:Nat}(hn:n=ns⁻¹)(hm:m∈ns)(le:∀x∈ns,m<=x):ns.getD (argBest (λi j=>decide (ns.getD i 0<ns.getD j 0)) (n-1)) 0=m:=by
 let⟨h1,h2⟩:=argBest_lt (λi=>ns.getD i 0) (n-1);let⟨j,hj,e⟩:=xA.mp hm;let h3:=h2 j ();let e1:ns.getD j 0=m:=by rw[qW,qB hj,e];rfl
 let h4:argBest (λi j=>decide (ns.getD i 0<ns.getD j 0)) (n-1)<ns⁻¹:=()
 let h5:=le _ (rJ h4);let e2:ns.getD (argBest (λi j=>decide (ns.getD i 0<ns.getD j 0)) (n-1)) 0=ns[argBest (λi j=>decide (ns.getD i 0<ns.getD j 0)) (n-1)]:=by
  rw[qW,qB h4];rfl
 rw[e2]at h3⊢;rw[e1]at h3;omega
def N6(hc:X.calm=true):eB X (.builtin "min") (Z1 X.K):=by
 intro aa s σ H xs us Q I r h;let⟨p,ns,m,rfl,hp,hm,le,q⟩:=h;let⟨u,rfl,rx⟩:=vals1 r;cases rx;let⟨ah,rv,pl,hz⟩:=I.list hp;let hh:=I.ok.hd hc;let lp:p< ~~~s:=by
  let⟨o,e,_⟩:=pl.isList;show qK e
 let hn:ah.toArray.size=ns⁻¹:=by rw[rC,<-rv⁻¹,qA]
 let h0:0<ah.toArray.size:=by rw[hn];show List.length_pos_of_mem hm
 show call_min_walk (xU pl.isList ?_);show⟨~~~s,_,_,_,_,_,_,O,Walks.list ‹hh› (~~~s) p (rD lp) ah.toArray,⟨⟨_,qQ _ O,O,O⟩,pl.isList.push _⟩,λb hb'=>?_,h0,CmpOf.ints_lt (λi=>ns.getD i 0) (lA rv),λv h' tk hP k=>?_⟩
 .rw[rM];rcases qM.mp hb' with rfl | hb'
  .show xB _
  .rcases qM.mp hb' with rfl | hb'
   .show xT lp
   .cases hb'
 .let⟨t,rfl⟩:=lA rv _ _ hP;rw[BV hn hm le];show⟨.int m,H,I.kept λb o e=>k b o ‹rD (qK e)› (qF _ e),⟨t,O⟩,q⟩
inductive N7:V->List V->Hp->VK->Prop
|m l xs y:x=.ref l->vs=[.int 0,y]->H l=!.lst xs->xs⁻¹<sizeLine->Q .non (af H l (.lst (y::xs)))->N7 x vs H Q
def Z2:D4 X "list.insert" N7:=by
 intro aa s σ H x vs v us Q I rx rv h;let⟨l,xs,y,rfl,rfl,hH,hz,q⟩:=h;cases rx;obtain⟨u0,u,rfl,Z4,ru⟩:∃u0 u,us=[u0,u]/\RelV (.int 0) u0/\RelV y u:=by
  cases rv with
  | cons r1 r2 => cases r2 with
    | cons r3 r4=>cases r4;show⟨_,_,O,r1,r3⟩
 let⟨t0,rfl⟩:=Z4;let⟨z,ah,n,r,hl,e⟩:=I.lstM hH;show v4 F.slot_list_insert ⟨_,e,O⟩ F.entry_list_insert (F.args_list_insert_3 _ _ _) (AutoSeq1.list_insert_list_int_val_1 l ah.toArray n 0 t0 u {} (by rw[rC];omega)) ⟨e,?_⟩;show⟨.non,_,I.lset (its':=u::ah) hH e ∅ (.cons ru r) ?_,O,q⟩;rw[rH];omega
inductive N8(K:W.Frag):V->List V->Hp->VK->Prop
|m (l:Addr) (os:List (Option Int)) (y:Int) (j:Nat):x=.ref l->vs=[.int y]->H l=!.lst (os.map Br.ov)->os⁻¹<=1000->os[j]?=!!y->(∀i:Nat,i<j->os[i]?≠!!y)->Q (.int j) H->N8 K x vs H Q
def N9:uf X "list.index" (N8 X.K):=by
 intro aa s σ H x xs v us Q I rx rv h;let⟨l,os,y,j,rfl,rfl,hH,lz,hj,aZ,q⟩:=h;cases rx;let⟨u,rfl,ru⟩:=Vals.one rv;let⟨t,rfl⟩:=ru;let⟨z,ah,n,r,hl,e⟩:=I.lstM hH;rw[qA]at hl;let lI:∀(i:Nat) (hi:i<ah.toArray.size),∃o,os[i]?=!o/\RelV (Br.ov o) ah.toArray[i]:=λi hi=>by
  let cC:i<os⁻¹:=by rw[hl];simpa using hi
  let⟨w',e2,r2⟩:=r.get (i:=i) (x:=Br.ov os[i]) (by rw[qH,qB cC];rfl);show⟨os[i],qB cC,?_⟩;let e3:ah.toArray[i]=w':=by
   have:=(qE.mp e2).2;simpa using this
  rw[e3];show r2
 let jl:j<ah.toArray.size:=by
  have:=(qE.mp hj).1;rw[rC];omega
 let eqv:∀w':Value,∀o:Option Int,RelV (Br.ov o) w'->(match w' with | .int i _=>i == y | _=>false)=decide (o=!y):=λw' o ro=>by
  cases o with
  | none=>have:w'=Value.none:=ro;subst this;simp
  | some i=>let⟨t',rfl⟩:=ro;show(i == y)=_;by_cases h:i=y<;>simp[h]
 show v4 F.slot_list_index ⟨_,e,O⟩ F.entry_list_index (F.args_list_index_2 _ _)
  (SeqAt.list_indexAt l ah.toArray n none #[] (.int y t) (λw'=>match w' with | .int i _=>i == y | _=>false) j jl (by rw[rC]at jl;omega) ?_ (λm hm Z5=>?_)) ⟨e,λw' Z6=>?_,⟨.int j,H,I.tok _,⟨_,O⟩,q⟩⟩
 .let⟨o,eo,ro⟩:=lI j jl;rw[eqv _ o ro];rw[hj]at eo;show qR (qZ eo).symm
 .let⟨o,eo,ro⟩:=lI m hm;rw[eqv _ o ro];show qV λz=>aZ m Z5 (by rw[eo,z])
 .obtain⟨i,hi,rfl⟩:=Array.mem_iff_getElem.mp Z6;let⟨o,eo,ro⟩:=lI i hi;cases o with
  | none =>
    let ev:ah.toArray[i]=Value.none:=ro
    rw[ev]
    show SeqAt.EqAt.none_int _ _
  | some k =>
    let⟨t',ev⟩:=ro
    rw[ev]
    show SeqAt.EqAt.int_int _ _ _ _
end
def PS.nox{X:Cx}{st:Stmt}{t:TS}(h:PS X.nox st t):PS X st t:=λaa s σ H D I hw =>
 xJ (h aa s σ H D (I.wish _) hw) (λ_ _ q=>q.unwish) λ_ _ z=>False.elim z
end L2
namespace Br
open L2 Bk Gen Gd Bd
theorem paired_mem{α β:Type}{F G:α->β->Prop}:∀{as:List α} {xs:List β},Paired F as xs->(∀a x,x∈xs->F a x->G a x)->Paired G as xs
 | _,_,.nil,_=>.nil
 | _,_,.cons h t,k=>.cons (k _ _ (rE ..) h) (paired_mem t λa x hx=>k a x (qS _ hx))
def iw(us:List Un)(j:Nat)(room:Int):Nat->List (Nat×Int)
 | 0=>[]
 | k + 1 => match dB us k j room with
   | none=>[]
   | some b=>(k,b)::iw us j room k
def fM(us:List Un)(j:Nat)(room:Int):List (Nat×Int):=iw us j room j
def Z7{i j:Nat}(h:i<j)(e:us[i]?=!u):cutU us i j=u::cutU us (i+1) j:=by
 unfold cutU;let⟨hl,rfl⟩:=qE.mp e;rw[List.drop_eq_getElem_cons hl,show j-i=(j-(i+1))+1 by omega,List.take_succ_cons]
def Z8(hb:0<=u.b)(hw:0<=u.w)(r:List Un):iU r<=iU (u::r):=by
 unfold iU;cases r with
 | nil=>simp;omega
 | cons v r=>simp;omega
def Z9(ok:∀u∈us,UOk u){i j:Nat}(h:i<j)(hj:j<=us⁻¹):longU us (i+1) j<=longU us i j:=by
 unfold longU;let e:=qB (show i<us⁻¹ by omega);let⟨h1,h2,h3,h4⟩:=ok _ (qN e);rw[Z7 h e];show Z8 h3 () _
theorem Oa(ok:∀u∈us,UOk u){j:Nat}(hj:j<=us⁻¹){k:Nat}(hk:k<=j):∀d,d<=k->longU us k j<=longU us (k-d) j
 | 0,_=>xF _
 | d + 1, h => by
   let h1:=Oa ok hj hk d ()
   let h2:=Z9 ok (i:=k-(d+1)) (j:=j) () hj
   rw[show k-(d+1)+1=k-d by omega]at h2
   omega
def Z'(ok:∀u∈us,UOk u){i k j:Nat}{room:Int}(hj:j<=us⁻¹)(hk:k<j)(hi:i<=k)(h:dB us k j room=none):dB us i j room=none:=by
 let h1:=Oa ok hj (k:=k) () (k-i) ();rw[show k-(k-i)=i by omega]at h1;unfold dB at h⊢
 by_cases c:room-longU us k j<0
 .rw[qX c]at h
  by_cases d:j-k=1
  .rw[qX d]at h;cases h
  .rw[qX (),qY ()]
 .rw[qY c]at h;cases h
theorem Ob(ok:∀u∈us,UOk u){j:Nat}{room:Int}(hj:j<=us⁻¹){i:Nat}{b:Int}:∀k,k<=j->((i,b)∈iw us j room k↔i<k/\dB us i j room=!b)
 | 0,_=>by simp[iw]
 | k + 1, h => by
   let ih:=Ob ok hj (room:=room) (i:=i) (b:=b) k ()
   unfold iw
   cases e:dB us k j room with
   | none =>
     constructor
     · intro z;cases z
     · ext⟨h1,h2⟩
       rw[Z' ok hj () (show i<=k by omega) e]at h2
       cases h2
   | some b' =>
     show(i,b)∈(k,b')::iw us j room k↔_
     rw[qM,ih]
     constructor
     · ext(z | ⟨h1,h2⟩)
       · cases z;show⟨xB _,e⟩
       · show⟨(),h2⟩
     · rintro⟨h1,h2⟩
       by_cases z:i=k
       · subst z
         rw[e]at h2
         cases h2
         show .inl O
       · show .inr ⟨(),h2⟩
def Gf(ok:∀u∈us,UOk u){j:Nat}{room:Int}(hj:j<=us⁻¹){i:Nat}{b:Int}:(i,b)∈fM us j room↔i<j/\dB us i j room=!b:=Ob ok hj j (qG _)
theorem BW(us:List Un)(j:Nat)(room:Int):∀k,(iw us j room k)⁻¹<=k
 | 0=>qG _
 | k + 1 => by
   unfold iw
   cases dB us k j room with
   | none=>simp
   | some b=>simp;show BW us j room k
theorem Gg{j:Nat}{room:Int}{x:Nat×Int}:∀k,x∈iw us j room k->x.1<k
 | 0,h=>by simp[iw]at h
 | k + 1, h => by
   unfold iw at h
   cases e:dB us k j room with
   | none=>rw[e]at h;cases h
   | some b =>
     rw[e]at h
     rcases qM.mp h with rfl | h
     · show xB _
     · show xT (Gg k h)
def mW:TN->Int
 | []=>0
 | x::l=>l.foldl min x
theorem Gh:∀(l:TN) (a:Int),l.foldl min a<=a/\∀x∈l,l.foldl min a<=x
 | [],a=>⟨xF _,λx hx=>nomatch hx⟩
 | y :: l, a => by
   let⟨h1,h2⟩:=Gh l (min a y)
   rw[xG]
   show⟨(),λx hx=>?_⟩
   rcases qM.mp hx with rfl | hx
   · omega
   · show h2 x hx
theorem Oc:∀(l:TN) (a:Int),l.foldl min a∈a::l
 | [],a=>∅
 | y :: l, a => by
   rw[xG]
   rcases qM.mp (Oc l (min a y))with e | h
   · rw[e]
     by_cases z:a<=y
     · rw[Int.min_eq_left z];simp
     · rw[Int.min_eq_right ()];simp
   · show qS _ (qS _ h)
def xr{l:TN}(h:l≠[]):mW l∈l:=by
 cases l with
 | nil=>show qT O h
 | cons x l=>show Oc l x
def rf{l:TN}:∀x∈l,mW l<=x:=by
 cases l with
 | nil=>intro x hx;cases hx
 | cons y l =>
   intro x hx
   rcases qM.mp hx with rfl | hx
   · show(Gh l x).1
   · show(Gh l y).2 x hx
def oA(os:List (Option Int))(i:Nat):Option Int:=os.getD i none
def cands(os:List (Option Int))(bs:List (Nat×Int)):TN:=bs.filterMap λx=>(oA os x.1).map (·+ x.2)
def iW(os:List (Option Int))(bs:List (Nat×Int)):Option Int:=if cands os bs=[]then none else !mW (cands os bs)
def Od{os:List (Option Int)}{bs:List (Nat×Int)}{m:Int}:m∈cands os bs↔∃i b s,(i,b)∈bs/\oA os i=!s/\s+b=m:=by
 unfold cands;rw[uB];constructor
 .ext⟨⟨i,b⟩,h1,h2⟩;let⟨s,h3,h4⟩:=rP.mp h2;show⟨i,b,s,h1,h3,h4⟩
 .ext⟨i,b,s,h1,h3,h4⟩;show⟨(i,b),h1,by rw[h3];show xH some h4⟩
def qaa{os:List (Option Int)}{bs:List (Nat×Int)}{m:Int}(h:iW os bs=!m):m∈cands os bs:=by
 unfold iW at h
 by_cases c:cands os bs=[]
 .rw[qX c]at h;cases h
 .rw[qY c]at h;rw[<-qZ h];show xr c
def qab{os:List (Option Int)}{bs:List (Nat×Int)}{m:Int}(h:m∈cands os bs):∃m',iW os bs=!m'/\m'<=m:=by
 unfold iW;rw[qY (λz=>by rw[z]at h;cases h)];show-⟨rf m h⟩
def xt(us:List Un):List (Option Int):=some 0::List.replicate us⁻¹ none
def bL(us:List Un)(room:Nat->Int):Nat->List (Option Int)
 | 0=>xt us
 | r+1=>(List.range (us⁻¹+1)).map λj=>iW (bL us room r) (fM us j (room r))
def rg(us:List Un)(room:Nat->Int):∀r,(bL us room r)⁻¹=us⁻¹+1
 | 0=>by simp[bL,xt]
 | r+1=>by simp[bL]
def Oe{room:Nat->Int}{r j:Nat}(h:j<=us⁻¹):oA (bL us room (r+1)) j=iW (bL us room r) (fM us j (room r)):=by
 show((List.range (us⁻¹+1)).map λj=>iW (bL us room r) (fM us j (room r))).getD j none=_;rw[qW,qH,rX ()];rfl
def qac{room:Nat->Int}{j:Nat}{m:Int}(h:oA (bL us room 0) j=!m):j=0/\m=0:=by
 unfold oA bL xt at h;rw[qW]at h;cases j with
 | zero=>simp at h;show⟨O,h.symm⟩
 | succ j =>
   rw[rW,List.getElem?_replicate]at h
   split at h<;>cases h
inductive Fw(us:List Un)(room:Nat->Int):Nat->Nat->List (Nat×Nat)->Int->Prop
 | nil {r:Nat}:Fw us room r us⁻¹ [] 0
 | cons {r i j:Nat} {b s:Int} {rest:List (Nat×Nat)}:i<j->j<=us⁻¹->dB us i j (room r)=!b->Fw us room (r+1) j rest s->Fw us room r i ((i,j)::rest) (b+s)
def Fw.least(ok:∀u∈us,UOk u){room:Nat->Int}{r i:Nat}{rest:List (Nat×Nat)}{s:Int}(h:Fw us room r i rest s):∀{m:Int},oA (bL us room r) i=!m->∃M,oA (bL us room (r+rest⁻¹)) us⁻¹=!M/\M<=m+s:=by
 induction h with
 | nil=>intro m hm;show⟨m,hm,()⟩
 | cons hi hj hb f ih =>
   rename_i r i j b s rest
   intro m hm
   let⟨m',e,le⟩:=qab (os:=bL us room r) (bs:=fM us j (room r)) (m:=m+b) (Od.mpr ⟨i,b,m,(Gf ok hj).mpr ⟨hi,hb⟩,hm,O⟩)
   rw[<-Oe hj]at e
   let⟨M,e2,le2⟩:=ih e
   show⟨M,?_,()⟩
   rw[rH,show r+(rest⁻¹+1)=r+1+rest⁻¹ by omega]
   show e2
def Few(us:List Un)(room:Nat->Int)(k:Nat)(M:Int):Prop :=
 k<=us⁻¹/\oA (bL us room k) us⁻¹=!M/\(∀i m,i<=us⁻¹->oA (bL us room i) us⁻¹=!m->M<=m)/\∀i,i<k->oA (bL us room i) us⁻¹≠!M
theorem Of(room:Nat->Int):∀k,k<=us⁻¹->∃s rest,Fw us room (us⁻¹-k) (us⁻¹-k) rest s/\rest⁻¹=k
 | 0,_=>⟨0,[],.nil,O⟩
 | k + 1, h => by
   let⟨s,rest,f,e⟩:=Of (us:=us) room k ()
   let e1:us⁻¹-k=us⁻¹-(k+1)+1:=()
   obtain⟨b,hb⟩:∃b,dB us (us⁻¹-(k+1)) (us⁻¹-(k+1)+1) (room (us⁻¹-(k+1)))=!b:=by
     unfold dB
     by_cases c:room (us⁻¹-(k+1))-longU us (us⁻¹-(k+1)) (us⁻¹-(k+1)+1)<0
     · rw[qX c,qX ()];show⟨_,O⟩
     · rw[qY c];show⟨_,O⟩
   rw[e1]at f
   show⟨b+s,_::rest,.cons (xB _) () hb f,by rw[rH,e]⟩
def qad(ok:∀u∈us,UOk u)(room:Nat->Int):∃M,oA (bL us room us⁻¹) us⁻¹=!M:=by
 let⟨s,rest,f,e⟩:=Of (us:=us) room us⁻¹ (qG _);rw[Nat.sub_self]at f;let h0:oA (bL us room 0) 0=!0:=rfl;let⟨M,e2,_⟩:=f.least ok h0;rw[e,Nat.zero_add]at e2;show⟨M,e2⟩
def OsAt(H:Hp)(a:Addr)(os:List (Option Int)):=H a=!.lst (os.map ov)
def PnAt(H:Hp)(a:Addr)(x:Nat×Int):=H a=!.tup [.int x.1,.int x.2]
def OsAt.same(s:Same H H'){x:List (Option Int)}(h:OsAt H a x):OsAt H' a x:=s _ _ h
def PnAt.same(s:Same H H'){x:Nat×Int}(h:PnAt H a x):PnAt H' a x:=s _ _ h
def sums_same(s:Same H H'){x:List (List (Option Int))}(h:LstAt OsAt H p x):LstAt OsAt H' p x:=gH (λ_ _=>OsAt.same s) s h
def rh(s:Same H H'){x:List (Nat×Int)}(h:LstAt PnAt H p x):LstAt PnAt H' p x:=gH (λ_ _=>PnAt.same s) s h
abbrev rj(H:Hp)(a:Addr)(x:List (List (Nat×Int))):Prop:=LstAt (λH a x=>LstAt PnAt H a x) H a x
abbrev xu(H:Hp)(a:Addr)(x:List (List (List (Nat×Int)))):Prop:=LstAt (λH a x=>rj H a x) H a x
def BX(s:Same H H'){x:List (List (Nat×Int))}(h:rj H p x):rj H' p x:=gH (F:=λH a x=>LstAt PnAt H a x) (λ_ _=>rh s) s h
def Og(s:Same H H'){x:List (List (List (Nat×Int)))}(h:xu H p x):xu H' p x:=gH (F:=λH a x=>rj H a x) (λ_ _=>BX s) s h
def js(us:List Un)(room:Int):List (List (Nat×Int)):=(List.range (us⁻¹+1)).map λj=>fM us j room
def jt(us:List Un)(room:Nat->Int):List (List (List (Nat×Int))):=(List.range us⁻¹).map λr=>js us (room r)
def sumsL(us:List Un)(room:Nat->Int):List (List (Option Int)):=(List.range (us⁻¹+1)).map (bL us room)
def roomN(wd:Int)(nw:Int×Int)(r:Nat):Int:=roomR wd nw (r:Int)
inductive Gi:List V->Hp->VK->XK->Prop
|m (a b:Addr) (os:List (Option Int)) (bs:List (Nat×Int)):vs=[.ref a,.ref b]->OsAt H a os->LstAt PnAt H b bs->bs⁻¹<=100->(∀x∈bs,x.1<os⁻¹)->(∀H',Same H H'->Q (ov (iW os bs)) H')->Gi vs H Q E
def Oh(os:List (Option Int))(bs:List (Nat×Int))(m:Int)(i:Nat):=(∃b s,(i,b)∈bs/\oA os i=!s/\s+b=m)/\∀i' b s,(i',b)∈bs->oA os i'=!s->s+b=m->i<=i'
inductive Gj:List V->Hp->VK->XK->Prop
|m (a c:Addr) (os:List (Option Int)) (bs:List (Nat×Int)) (m:Int):vs=[.ref a,.ref c,.int m]->OsAt H a os->LstAt PnAt H c bs->bs⁻¹<=100->(∀x∈bs,x.1<os⁻¹)->m∈cands os bs->(∀i H',Same H H'->Oh os bs m i->Q (.int (i:Nat)) H')->Gj vs H Q E
inductive Gk:List V->Hp->VK->XK->Prop
|m (a:Addr) (room:Nat->Int) (us:List Un):vs=[.ref a]->LstAt OsAt H a (sumsL us room)->us⁻¹<=100->(∀u∈us,UOk u)->(∀(k:Nat) (M:Int) H',Same H H'->Few us room k M->Q (.int k) H')->Gk vs H Q E
def NnAt(H:Hp)(a:Addr)(x:Nat×Nat):=H a=!.tup [.int x.1,.int x.2]
def NnAt.same(s:Same H H'){x:Nat×Nat}(h:NnAt H a x):NnAt H' a x:=s _ _ h
def nns_same(s:Same H H'){x:List (Nat×Nat)}(h:LstAt NnAt H p x):LstAt NnAt H' p x:=gH (λ_ _=>NnAt.same s) s h
def Gm{os:List (Option Int)}{i:Nat}(h:i<os⁻¹):bO (os.map ov) (i:Int)=!ov (oA os i):=by
 show fX ?_;unfold oA;rw[qH,qW,qB h];rfl
def qae{os:List (Option Int)}{n:Nat}(h:os⁻¹=n+1):bO (os.map ov) (-1)=!ov (oA os n):=by
 unfold bO fW;rw[qY {},qX (by rw[qA,h];omega),qA,h];show(os.map ov)[((-1:Int)+((n+1:Nat):Int)).toNat]?=_;rw[show((-1:Int)+((n+1:Nat):Int)).toNat=n by omega,qH];unfold oA;rw[qW,qB (show n<os⁻¹ by omega)];rfl
def j5(os:List (Option Int))(m:Int)(bs:List (Nat×Int)):TM:=bs.filterMap λx=>if(oA os x.1).map (·+ x.2)=!m then !x.1 else none
def Gn{os:List (Option Int)}{m:Int}{bs:List (Nat×Int)}{i:Nat}:i∈j5 os m bs↔∃b s,(i,b)∈bs/\oA os i=!s/\s+b=m:=by
 unfold j5;rw[uB];constructor
 .ext⟨⟨i',b⟩,h1,h2⟩
  by_cases c:(oA os i').map (·+ b)=!m
  .rw[qX c]at h2;cases h2;let⟨s,h3,h4⟩:=rP.mp c;show⟨b,s,h1,h3,h4⟩
  .rw[qY c]at h2;cases h2
 .ext⟨b,s,h1,h3,h4⟩;show⟨(i,b),h1,?_⟩;rw[qX (by show(oA os i).map (·+ b)=!m;rw[h3];show xH some h4)]
def dQ(us:List Un)(room:Nat->Int):List (Option Int):=(List.range (us⁻¹+1)).map λi=>oA (bL us room i) us⁻¹
def BZ{room:Nat->Int}{i:Nat}(h:i<=us⁻¹):(dQ us room)[i]?=!oA (bL us room i) us⁻¹:=by
 unfold dQ;rw[qH,rX ()];rfl
def B2(us:List Un)(room:Nat->Int):(dQ us room)⁻¹=us⁻¹+1:=by simp[dQ]
theorem Oi{m:Int}:∀{l:List (Option Int)},some m∈l->∃k:Nat,l[k]?=!!m/\∀i:Nat,i<k->l[i]?≠!!m
 | [],h=>nomatch h
 | x :: l, h => by
   by_cases c:x=!m
   · show⟨0,by rw[c];rfl,λi hi=>qT hi (xS _)⟩
   · rcases qM.mp h with h | h
     · show qT h.symm c
     · let⟨k,h1,h2⟩:=Oi h
       show⟨k+1,by rw[rW];show h1,λi hi=>?_⟩
       cases i with
       | zero=>intro z;show c (qZ z)
       | succ i=>rw[rW];show h2 i ()
def qaf(ok:∀u∈us,UOk u){room:Nat->Int}:(dQ us room).filterMap id≠[]/\∀{k:Nat},(dQ us room)[k]?=!!mW ((dQ us room).filterMap id)->(∀i:Nat,i<k->(dQ us room)[i]?≠!!mW ((dQ us room).filterMap id))->Few us room k (mW ((dQ us room).filterMap id)):=by
 let mem:∀{m:Int} {i:Nat},i<=us⁻¹->oA (bL us room i) us⁻¹=!m->m∈(dQ us room).filterMap id:=λ{m i} hi e=>by
  show uB.mpr ⟨!m,?_,O⟩;have:=qN (BZ (room:=room) hi);rw[e]at this;show this
 show⟨λz=>?_,λ{k} h1 h2=>?_⟩
 .let⟨M,e⟩:=qad ok room;have:=mem (qG _) e;rw[z]at this;cases this
 .let kl:k<=us⁻¹:=by
   have:=(qE.mp h1).1;rw[B2]at this;omega
  rw[BZ kl]at h1;show⟨kl,qZ h1,λi m hi e=>rf m (mem hi e),λi hi z=>h2 i hi ?_⟩;rw[BZ (),z]
def rp{room:Nat->Int}{r:Nat}(h:r<=us⁻¹):(sumsL us room)[r]?=!bL us room r:=by
 unfold sumsL;rw[qH,rX ()];rfl
def B3{room:Nat->Int}{r:Nat}(h:r<us⁻¹):(jt us room)[r]?=!js us (room r):=by
 unfold jt;rw[qH,rX h];rfl
def Go{room:Int}{j:Nat}(h:j<=us⁻¹):(js us room)[j]?=!fM us j room:=by
 unfold js;rw[qH,rX ()];rfl
def qag{H:Hp}{c S:Addr}{os:List (Option Int)}{as:TQ}(h:OsAt H c os)(ne:os≠[])(hS:H S=!.lst ↑as):c≠S:=λz=>by
 rw[z]at h;unfold OsAt at h;rw[hS]at h;cases os with
 | nil=>show ne O
 | cons o l =>
   cases as with
   | nil=>simp at h
   | cons a as =>
     simp at h
     cases o with
     | none=>show qT h.1 (λz=>nomatch z)
     | some x=>show qT h.1 (λz=>nomatch z)
def qah(us:List Un)(room:Nat->Int)(r:Nat):bL us room r≠[]:=λz=>by
 have:=rg us room r;rw[z]at this;simp at this
end Br
namespace L2
open PyProof.Rows
def qai:bootBuiltins "range" = !.type "range":=by ac_rfl
end L2
namespace Br
open L2 Bk Gen Gd Bd
inductive Ch(us:List Un)(room:Nat->Int):Nat->Nat->List (Nat×Nat)->Prop
 | nil:Ch us room 0 0 []
 | snoc {r i j:Nat} {m:Int} {rows:List (Nat×Nat)}:Ch us room r i rows->oA (bL us room (r+1)) j=!m->Oh (bL us room r) (fM us j (room r)) m i->Ch us room (r+1) j (rows++[(i,j)])
def Ch.len{room:Nat->Int}{r j:Nat}{rows:List (Nat×Nat)}(h:Ch us room r j rows):rows⁻¹=r:=by
 induction h with
 | nil=>rfl
 | snoc c hm hi ih=>rw[qJ,ih];rfl
def qaj(H H':Hp)(B:Addr)(ss:List (List (Option Int))):=H B=none/\∃as:TQ,H' B=!.lst ↑as/\Paired (λc os=>OsAt H' c os/\H c=none) as ss
inductive Gp:List V->Hp->VK->XK->Prop
|m (a b:Addr) (room:Nat->Int) (us:List Un):vs=[.ref a,.ref b]->xu H a (jt us room)->LstAt OsAt H b (sumsL us room)->us⁻¹<=100->(∀u∈us,UOk u)->(∀(L:Addr) (rows:List (Nat×Nat)) (k:Nat) (M:Int) H',H L=none->Same H H'->LstAt NnAt H' L rows->Ch us room k us⁻¹ rows->Few us room k M->Q (.ref L) H')->Gp vs H Q E
end Br
namespace L2
open PyProof.Rows
end L2
namespace Br
open L2 Bk Gen Gd Bd
end Br
namespace L2
open PyProof.Rows
structure Gq(P:Program)(w:World)(K:W.Frag)(mg:TJ)(base:Heap)(CX:dt)(k:Nat)(x:Str)(ps:TV)(ds:TU)(sp:Sp):Prop where
 ex:∃f fd,aN P w K mg base CX k f fd ps sp/\Binds K fd ps ds/\W.keepIn K (.ref f)=true/\mg x=!.ref f
section
variable{X:Cx}{CX:dt}{k:Nat}{ps:TV}{sp:Sp}{E:XK}{x:Str}{p pos:Pos}{e:Expr}{es:TW}{t:TA}{ds:TU}{jf:List V}
def qak(F:Gq X.prog X.w X.K X.mg X.base CX k x ps ds sp)(hd:Vals jf ds)(hr:Room k X.A)(hg:Gl X x)(hx:ua CX X E)(ha:PA X (e::es) t)(g8:(x == ("__debug__" : Str))=false:=by decide)(he:starEach (e::es) X.env=(false,eval e X.env)::starEach es X.env:=by rfl)(dS:(backTo pos (starEach es X.env)).any (·.1)=false:=by rfl):PE X (.Call (.Name x p) (e::es) [] pos) (AS sp jf E t):=by
 let⟨f,fd,G,b,kp,m⟩:=F.ex;show KH G hr hg m kp b hd hx ha g8 he dS
end
end L2
namespace Fc
open L2 Bk Gen Gd Bd
def Ux(H0 H:Hp)(xs:List (Addr×List (Addr×Addr)))(rows:List (List dG)):Prop :=
 Paired (λx us=>H0 x.1=none/\H x.1=!.lst ↑(x.2.map Prod.fst)/\Paired (λp u=>UtAt H p u/\H0 p.1=none/\H0 p.2=none) x.2 us) xs rows/\((xs.map Prod.snd).flatten.map Prod.snd).Nodup/\∀x∈xs,∀p∈x.2,∀y∈xs,p.2≠y.1
def Oj{H0 H:Hp}{xs:List (Addr×List (Addr×Addr))}{rows:List (List dG)}(h:Paired (λx us=>H0 x.1=none/\H x.1=!.lst ↑(x.2.map Prod.fst)/\Paired (λp u=>UtAt H p u/\H0 p.1=none/\H0 p.2=none) x.2 us) xs rows):∀x∈xs,(∃o,H x.1=!o)/\∀p∈x.2,∃o,H p.2=!o:=by
 have qal:∀{l:List (Addr×Addr)} {us:List dG},Paired (λp u=>UtAt H p u/\H0 p.1=none/\H0 p.2=none) l us->∀p∈l,∃o,H p.2=!o:=by
  intro l us q
  induction q with
  | nil=>intro p hp;cases hp
  | cons q t ih =>
    intro p hp
    rcases qM.mp hp with rfl | hp
    · show⟨_,q.1.2⟩
    · show ih p hp
 induction h with
 | nil=>intro x hx;cases hx
 | cons q t ih =>
   intro x hx
   rcases qM.mp hx with rfl | hx
   · show⟨⟨_,q.2.1⟩,qal q.2.2⟩
   · show ih x hx
def Ux.step{H0 H H2:Hp}{xs:List (Addr×List (Addr×Addr))}{rows:List (List dG)}{a:Addr}{us:List dG}(h:Ux H0 H xs rows)(s0:Same H0 H)(s:Same H H2)(u:UsAt H H2 a us):∃ps,Ux H0 H2 (xs++[(a,ps)]) (rows++[us]):=by
 obtain⟨pr,nd,ap⟩:=h;let⟨na,ps,ea,pu,ndu⟩:=u;let so:=Oj pr;let nn:∀p∈ps,H p.2=none/\p.2≠a:=by
  have:∀{l:List (Addr×Addr)} {us:List dG},Paired (λp u=>UtAt H2 p u/\H p.1=none/\H p.2=none/\p.2≠a) l us->∀p∈l,H p.2=none/\p.2≠a:=by
   intro l us q
   induction q with
   | nil=>intro p hp;cases hp
   | cons q t ih =>
     intro p hp
     rcases qM.mp hp with rfl | hp
     · show⟨q.2.2.1,q.2.2.2⟩
     · show ih p hp
  show this pu
 show⟨ps,(pr.mono λx us q=>⟨q.1,s _ _ q.2.1,q.2.2.mono λp u z=>⟨z.1.same s,z.2⟩⟩).snoc ⟨s0.free na,ea,pu.mono λp u z=>⟨z.1,s0.free z.2.1,s0.free z.2.2.1⟩⟩,?_,?_⟩
 .rw[qD,List.flatten_append,qD];show vJ.mpr ⟨nd,‹ndu›,λy hy z hz e=>?_⟩;let⟨p,hp,rfl⟩:=qP.mp hy;let⟨l,hl,dS⟩:=List.mem_flatten.mp hp;let⟨x,hx,rfl⟩:=qP.mp hl;let⟨o,eo⟩:=(so x hx).2 p dS;let xa:z∈ps.map Prod.snd:=‹hz›
  let⟨p',iN,rfl⟩:=qP.mp xa;rw[e,(nn p' iN).1]at eo;cases eo
 .intro x hx p hp y hy;rcases rG.mp hx with hx | hx
  .rcases rG.mp hy with hy | hy
   .show ap x hx p hp y hy
   .rw[rT.mp hy];let⟨o,eo⟩:=(so x hx).2 p hp;show λz=>by
     let z':p.2=a:=z;rw[z',na]at eo;cases eo
  .rw[rT.mp hx]at hp;rcases rG.mp hy with hy | hy
   .let⟨o,eo⟩:=(so y hy).1;show λz=>by rw[<-z,(nn p hp).1]at eo;cases eo
   .rw[rT.mp hy];show(nn p hp).2
def Ux.same{xs:List (Addr×List (Addr×Addr))}(h:Ux H0 H xs rows)(s:Same H H2):Ux H0 H2 xs rows:=⟨h.1.mono λx us q=>⟨q.1,s _ _ q.2.1,q.2.2.mono λp u z=>⟨z.1.same s,z.2⟩⟩,h.2⟩
inductive spAllU:List V->Hp->VK->XK->Prop
|m (B p F S:Addr) (held:Bool) (ds:List Nd) (fs:List cY) (sh:TK) (ls:TB):vs=[.ref B,.ref p,.ref F,.ref S,.bl held]->cM (λ_=>True) H B ds->LstAt LkAt H p ls->ls⁻¹=ds⁻¹->(∀l∈ls,l⁻¹=13)->LstAt FcAt H F fs->LstAt ShAt H S sh->F6 ds fs sh->(∀(L:Addr) (xs:List (Addr×List (Addr×Addr))) (H':Hp),H L=none->Same H H'->H' L=!.lst ↑(xs.map Prod.fst)->(∀x∈xs,x.1≠L/\∀p∈x.2,p.2≠L)->Ux H H' xs (jX ds fs sh held ls)->Q (.ref L) H')->spAllU vs H Q E
end Fc
namespace L2
open PyProof.Rows
def qam:Vals [V.bl false] [Value.bool false]:=.cons O .nil
end L2
namespace Fc
open L2 Bk Gen Gd Bd
def qan(ds:List Nd)(n:Nat):(aw ds n)⁻¹=(kk ds n)⁻¹:=by
 have e:∀l:List Nd,(List.range l⁻¹).filterMap (λj=>l[j]?)=l:=by
  intro l
  induction l with
  | nil=>rfl
  | cons a l ih =>
    rw[rH,List.range_succ_eq_map,uF,List.filterMap_map]
    show xH (a :: ·) ih
 unfold kk aw;rw[qA]
 conv=>rhs;rw[<-e ds]
 rw[<-List.countP_eq_length_filter,<-List.countP_eq_length_filter,List.countP_filterMap];apply List.countP_congr;intro j hj;rw[qB (xC.mp hj)];simp[qw]
def qao{sh:TK}(b:Book ds)(le:ds⁻¹<=100)(fne:fs≠[])(fl:fs⁻¹<=1000)(fok:∀f∈fs,oP f)(sok:oQ sh):F6 ds fs sh:=by
 show⟨le,fne,fl,fok,sok,λn d h hk=>?_⟩;let h1:=(b.form d (qN h)).st;let h2:=(Bk.Book.each b h).kids.2.2.2 (by rcases hk with e | e | e<;>rw[e]<;>rfl);let h3:(∀x∈d.st,ii x)/\(∃x r,d.st=x::r/\ig x=false)/\d.st⁻¹<=60:=by
  rcases hk with e | e | e<;>rw[e]at h1<;>show h1
 show⟨h3.1,h3.2.1,h3.2.2,λt j hj=>?_⟩;rw[qan];have:j∈fZ d.st:=uB.mpr ⟨_,hj,O⟩;rw[h2]at this;let⟨i,hi,e⟩:=qP.mp this;have:=xC.mp hi;let e':(i:Int)=j:=e;omega
theorem Ol{sh:TK}{held:Bool}{num:Int}{kids:TN}:∀i,(dh fs sh held num kids st i)⁻¹<=i
 | 0=>qG _
 | i + 1 => by
   let ih:=Ol (fs:=fs) (sh:=sh) (held:=held) (num:=num) (kids:=kids) (st:=st) i
   unfold dh
   cases st[i]? with
   | none=>show yS ih
   | some x =>
     show(jW fs sh held num kids i _ x)⁻¹<=i+1
     generalize dh fs sh held num kids st i=acc at ih
     have nt:∀v,(lE acc v)⁻¹<=i+1:=λv=>by
       by_cases e:acc=[]
       · rw[e];show rO _
       · let⟨us,u,e1,e2⟩:=BQ e v
         rw[e2]
         rw[e1]at ih
         simp at ih⊢
         omega
     let mo:∀u:dG,(acc++[u])⁻¹<=i+1:=λu=>by rw[qJ];show yO ih
     let sm:acc⁻¹<=i+1:=yS ih
     cases x with
     | int n=>show sm
     | tri s y t=>cases s<;>cases y<;>first | show nt _ | show mo _ | show sm
end Fc
namespace K33
open L2 Bk Gen Gd Bd Fc
abbrev mX:=top 33
def qap:iV (s!"face") 0:=⟨by ac_rfl,λi h=>nomatch h⟩
def qaq(F:FunD K "all_units" "all_units" mX f fd)(T:bY mg)(cA:⋯ 1 "look_at" ["looks", "node", "word"] fL)(qar:⋯ 3 "node_units" ["book", "number", "faces", "shown", "held", "node"] (fal 4 F7)):(~~~0) 4 f fd ["book", "looks", "faces", "shown", "held"] (fal 4 spAllU):=by
 rcases F.go ["book", "looks", "faces", "shown", "held"] with⟨hv,B,p,FA,S,held,ds,fs,sh,ls,rfl,hB,hp,ll,l13,hF,hS,cx,q⟩;let le:=cx.le;let⟨ab,Gr,nd⟩:=id hB;let lb:ab⁻¹=ds⁻¹:=qU nd;let lu:(jX ds fs sh held ls)⁻¹=ds⁻¹:=by simp[jX]
 let el:(((↑ab)⁻¹:Nat):Int).toNat=ds⁻¹:=by rw[qA];omega
 show⟨_,(aA (aH (cm ["node"] ["book", "faces", "shown", "held", "looks"] [0,2,3,4,1] (r1 T.range (ln T.len '0')) (nv 0) br (cF qar hr (aO '1' (aO (cF cA hr (a3 '5' '0' aU)) (aO '2' (a3 '3' '4' '0')))))))),_,O,B,_,O,.inl (ag Gr),_,O,(),by rw[qA];omega,jO (n:=(((↑ab)⁻¹:Nat):Int).toNat) (λi ys ae H'=>Same H H'/\(∃z,ae=[z,!.ref B,!.ref FA,!.ref S,!.bl held,!.ref p])/\∃xs,ys=↑(xs.map Prod.fst)/\xs⁻¹=i/\Ux H H' xs ((jX ds fs sh held ls).take i)) (by rw[el];show aW ()) ⟨Same.refl _,⟨none,O⟩,[],O,O,.nil,vT,λx hx=>nomatch hx⟩ ?_ ?_⟩
 .ext i ys ae H' hi ⟨s1,⟨z,rfl⟩,xs,rfl,lx,ux⟩;rw[el]at hi;let eu:(jX ds fs sh held ls)[i]?=!mT ds fs sh held (aB ls i 0) i:=by
   unfold jX;rw[qH,rX hi];rfl
  show aY 0 (V.int (0+(i:Int))) _ _ _;rw[uY];show¬⟨_,O,p,i,0,_,ls,O,dg s1 hp,(),l13,{},qap,_,O,_,O,_,O,_,O,hv,B,FA,S,aB ls i 0,held,i,ds,fs,sh,O,ZY s1 hB,NQ s1 hF,NR s1 hS,hi,cx,λR H2 s2 us2=>?_⟩;let⟨ps,ux2⟩:=ux.step s1 s2 us2;show⟨s1.trans s2,⟨_,O⟩,xs++[(R,ps)],by rw[qD,qD];rfl,by rw[qJ,lx];rfl,?_⟩;rw[qO,eu];show ux2
 ext ys ae H' ⟨s1,_,xs,rfl,lx,ux⟩ D hD;rw[el,qI ()]at ux;let so:=Oj ux.1;show q D xs _ (s1.free hD) (s1.trans (ay hD _)) ar (λx hx=>⟨λz=>?_,λp hp z=>?_⟩) (ux.same (ay hD _))
 .let⟨o,e⟩:=(so x hx).1;rw[z,hD]at e;cases e
 .let⟨o,e⟩:=(so x hx).2 p hp;rw[z,hD]at e;cases e
end K33
namespace Fc
open L2 Bk Gen
def oV(f:cY):=(1<=f.hi/\f.hi<=12)/\(0<=f.bl/\f.bl<=4)/\(1<=f.wi/\f.wi<=9)/\∀p∈f.odd,1<=p.2/\p.2<=9
def rq(x:Str):=Wd x/\1<=x.cps.size/\x.cps.size<=4
end Fc
namespace K33
open L2 Bk Gen Gd Bd Fc
abbrev Om:=top 123
def FcX(L:Addr)(H:Hp)(a:Addr)(f:cY):=∃M,M≠L/\H a=!.tup [.int f.hi,.int f.bl,.int f.wi,.ref M]/\LstAt OdAt H M f.odd
def FcX.at(h:FcX L H a f):FcAt H a f:=by
 let⟨M,_,e,l⟩:=h;show⟨M,e,l⟩
def j6{H:Hp}{L st:Addr}{as:TQ}(h:H L=!.lst ↑as)(S:StOk H st):L≠st:=λz=>by
 let⟨x,y,e,_⟩:=S;rw[z,e]at h;have:=HO.lst.inj (qZ h);cases as with
 | nil=>cases this
 | cons a as=>cases this
def mY(h:H c=!.tup xs)(S:StOk H st):c≠st:=λz=>by
 let⟨x,y,e,_⟩:=S;rw[z,e]at h;cases h
def B4(S:StOk H st)(k:Keep1 st H H'){od:List (Str×Int)}(h:Paired (OdAt H) as od):Paired (OdAt H') as od:=h.mono λ_ _ e=>k _ _ (mY e S) e
def FcX.keep(S:StOk H st)(k:Keep1 st H H')(h:FcX L H a f):FcX L H' a f:=by
 let⟨M,n,e,as,eM,p⟩:=h;show⟨M,n,k _ _ (mY e S) e,as,k _ _ (j6 eM S) eM,B4 S k p⟩
def FcX.put(hL:H L=!.lst ys)(h:FcX L H a f):FcX L (af H L o) a f:=by
 let⟨M,n,e,as,eM,p⟩:=h;show⟨M,n,Tups.lst hL _ _ e,as,by rw[aM n];show eM,p.mono λ_ _ e=>Tups.lst hL _ _ e⟩
inductive Gu:List V->Hp->VK->XK->Prop
|m (st:Addr):vs=[.ref st]->StOk H st->(∀(F:Addr) (fs:List cY) (H':Hp),H F=none->LstAt FcAt H' F fs->fs≠[]->fs⁻¹<=4->(∀f∈fs,oP f)->(∀f∈fs,oV f)->StOk H' st->Keep1 st H H'->Q (.ref F) H')->Gu vs H Q E
def Gv:TV:=[s!"",s!"M",s!"Mi",s!"Mil"]
def mZ(x:Str):TV:=x.cps.toList.map λc=>⟨#[c]⟩
def qas:∀x∈Gv,(mZ x).Nodup/\x.cps.size<=3/\x.cps.all (·< 128)=true/\∀y∈mZ x,PyData.strOk y=true:=by ac_rfl
def qat(F:Fu K "_law_faces" Om f fd)(T:bY mg)(bI:⋯ 1 "_law_take" ["_law_stream_here", "_law_most"] im):(~~~0) 2 f fd ["_law_stream_here"] Gu:=by
 rcases F.go ["_law_stream_here", "_law_found", "_law_k", "_law_odd"] with⟨st,rfl,S0,q⟩;show⟨_,(ax (sv 1 (bf bX))
  (ax (fv (r1 T.range (aG a9 ao (cF bI hr (a2 '0' ao)))) (nv 2)
  (ax (sm 3 ["_law_sign"] ["_law_stream_here"] [0] (Na (px aK (bf (aO aU (a3 aU aU aU))) (cF bI hr (a2 '0' ao)))) (nv 0) br (bR (a2 '0' (aG a9 ao (cF bI hr (a2 '1' ao))))))
  (aA (cI (ap '1' (bR (aO (aG a9 ao (cF bI hr (a2 '0' ao))) (a3 (cF bI hr (a2 '0' ao)) (aG a9 ao (cF bI hr (a2 '0' ao))) '3'))))))))
  (aA (aH '1')))),?_⟩
 show⟨aT,λL hL=>?_⟩;let s1:=ay hL (.lst []);let bo:af H L (.lst []) L=!.lst ↑([]:TQ):=ar;generalize af H L (.lst [])=H1 at s1 bo⊢;let S1:=S0.same s1;show-⟨st,4,O,S1,{},{},λr1 H2 r10 r11 S2 K2=>⟨_,_,O,O,_,O,(),(),gY (λi σ H'=>(∃z3 z4,σ=[!.ref st,!.ref L,z3,z4])/\StOk H' st/\Keep1 st H H'/\∃as fs,H' L=!.lst ↑as/\Paired (FcX L H') as fs/\fs⁻¹=i/\(∀f∈fs,oP f)/\∀f∈fs,oV f) ⟨⟨_,_,O⟩,S2,s1.keep.trans K2,[],[],K2 _ _ (j6 bo S1) bo,.nil,O,(λf hf=>nomatch hf),λf hf=>nomatch hf⟩ ?_ ?_⟩⟩
 .rintro i σ H' hi ⟨⟨z3,z4,rfl⟩,S3,K3,as,fs,cr,pr,lf,ok,Gx⟩;let i8:i<=8:=()
  show⟨aT,λu hu=>?_⟩;let sU:=ay hu (.lst (Gv.map V.str));show-⟨st,4,O,S3.same sU,{},{},λr4 H7 ot ou S7 K7=>?_⟩;let⟨x,ex,mx⟩:=EN (nms:=Gv) ot ou;let⟨nss,B5,lo7,sso⟩:=qas x mx;let K37:Keep1 st H' H7:=sU.keep.trans K7;show⟨u,_,_,_,O,O,ag (K7 _ _ (b7 S3.some hu) ar),ex,x,O,lo7,Nb (x:=x) (λj ys ae H8=>∃bs od,ys=↑bs/\Paired (OdAt H8) bs od/\od.map Prod.fst=(mZ x).take j/\(∀p∈od,1<=p.2/\p.2<=9)/\(∃z,ae=[z,!.ref st])/\StOk H8 st/\Keep1 st H7 H8) (aW ()) ⟨[],[],O,.nil,O,(λp hp=>nomatch hp),⟨none,O⟩,S7,KeepN.refl⟩ ?_ ?_⟩
  .rintro j c ys ae H8 hy ⟨bs,od,rfl,pb,eo,ob,⟨z,rfl⟩,S8,K8⟩;show¬⟨st,9,O,S8,{},{},λr9 H9 r90 r91 S9 K9=>⟨_,_,O,O,aT,λt ht=>?_⟩⟩;let Gy:=ay ht (.tup [.str ⟨#[c]⟩,.int (1+r9)]);show⟨bs++[t],od++[((⟨#[c]⟩:Str),1+r9)],by rw[qD];rfl,((B4 S8 K9 pb).mono λ_ _ h=>OdAt.same Gy h).snoc ar,?_,λp hp=>?_,⟨_,O⟩,S9.same Gy,(K8.trans K9).trans Gy.keep⟩
   .let ec:(mZ x)[j]?=!⟨#[c]⟩:=by
     unfold mZ;rw[qH,u9,hy];rfl
    rw[qD,eo,qO,ec];rfl
   .rcases rG.mp hp with hp | hp
    .show ob p hp
    .rw[rT.mp hp];show 1<=1+r9/\1+r9<=9;omega
  ext ys ae H8 ⟨bs,od,rfl,pb,eo,ob,_,S8,K8⟩ M hM;rw[qI (by unfold mZ;rw[qA,xK];show qG _)]at eo;let sM:=ay hM (.lst ↑bs);let lJ:LstAt OdAt (af H8 M (.lst ↑bs)) M od:=⟨bs,ar,pb.mono λ_ _ h=>OdAt.same sM h⟩;let K38:=K37.trans K8;let On:=K38 _ _ (j6 cr S3) cr;let ML:M≠L:=λz=>by rw[z,On]at hM;cases hM
  generalize af H8 M (.lst ↑bs)=H9 at sM lJ⊢;let S9:=S8.same sM;let K39:=K38.trans sM.keep;let hL9:=sM _ _ On;show-⟨.inl ⟨O,_,ag hL9⟩,_,O,st,12,O,S9,{},{},λra Ha ra0 ra1 Sa Ka=>⟨_,_,O,O,_,O,st,5,O,Sa,{},{},λrb Hb rb0 rb1 Sb Kb=>-⟨st,6,O,Sb,{},{},λrc Hc rc0 rc1 Sc Kc=>⟨_,_,O,O,_,O,aT,λt ht=>?_⟩⟩⟩⟩;let K9c:Keep1 st H9 Hc:=(Ka.trans Kb).trans Kc;let sT:=ay ht (.tup [.int (1+ra),.int rb,.int (1+rc),.ref M]);let fj:=ar (H:=Hc) (a:=t) (o:=.tup [.int (1+ra),.int rb,.int (1+rc),.ref M]);generalize af Hc t (.tup [.int (1+ra),.int rb,.int (1+rc),.ref M])=Hd at sT fj⊢;let Gz:Keep1 st H9 Hd:=K9c.trans sT.keep;let Sd:=Sc.same sT;let GC:=K39.trans Gz;let B6:=GC _ _ (j6 cr S3) cr;let la:=qU pr;show⟨L,_,_,O,O,B6,aW (by rw[qA];omega),?_⟩;let Lst:=j6 B6 Sd;let⟨sx,sy,es,ez⟩:=Sd;let fx:FcX L Hd t ⟨1+ra,rb,1+rc,od⟩:=by
   let⟨mas,eM,pM⟩:=lJ;show⟨M,ML,fj,mas,Gz _ _ (j6 eM S9) eM,B4 S9 Gz pM⟩
  show⟨⟨_,_,O⟩,⟨sx,sy,by rw[aM (rV Lst)];show es,ez⟩,λb o n e=>by rw[aM (cH e hL)];show GC b o n (K3 b o n e),as++[t],fs++[⟨1+ra,rb,1+rc,od⟩],by rw[ar,qD];rfl,(pr.mono λ_ _ h=>(h.keep S3 GC).put B6).snoc (fx.put B6),by rw[qJ,lf];rfl,λf hf=>?_,λf hf=>?_⟩
  rotate_left
  .rcases rG.mp hf with hf | hf
   .show Gx f hf
   .rw[rT.mp hf];show⟨⟨by show 1<=1+ra;omega,by show 1+ra<=12;omega⟩,⟨rb0,by show rb<=4;omega⟩,⟨by show 1<=1+rc;omega,by show 1+rc<=9;omega⟩,ob⟩
  rcases rG.mp hf with hf | hf
  .show ok f hf
  .rw[rT.mp hf];let lo:od⁻¹<=7:=by
    let lx:(mZ x)⁻¹<=3:=by unfold mZ;rw[qA,xK];show B5
    have:=xH List.length eo;rw[qA]at this;omega
   show⟨by show(od.map Prod.fst).Nodup;rw[eo];show nss,by show od⁻¹<=1000;omega,by show 0<=1+rc/\1+rc<=1000000;omega,λp hp=>by have:=ob p hp;omega⟩
 .ext σ H' ⟨⟨z3,z4,rfl⟩,S3,K3,as,fs,cr,pr,lf,ok,Gx⟩;show-⟨q L fs H' hL ⟨as,cr,pr.mono λ_ _ h=>h.at⟩ (λz=>by rw[z]at lf;have:(0:Nat)=(1+r1).toNat:=lf;omega) () ok Gx S3 K3⟩
end K33
namespace Tim
open PyProof.Rows
def T(xs:Array Keyed)(i:Nat):Keyed:=xs[i]?.getD (.none,.none)
def xw{i j:Nat}(h:xs[i]?=ys[j]?):T xs i=T ys j:=by unfold T;rw[h]
def T_at{i:Nat}(h:i<xs.size):xs[i]?=!T xs i:=by
 unfold T;rw[yP h];rfl
def GD{jj d:Nat}(hs:jj<xs.size)(hd:d<=jj)(k:Nat) :
  T (bubble xs jj d) k=if k=jj-d then T xs jj else if jj-d<k/\k<=jj then T xs (k-1)else T xs k:=by
 let e:=getElem?_bubble hs d hd k
 by_cases h1:k=jj-d
 .rw[qX h1]at e⊢;show xw e
 .rw[qY h1]at e⊢
  by_cases h2:jj-d<k/\k<=jj
  .rw[qX h2]at e⊢;show xw e
  .rw[qY h2]at e⊢;show xw e
def j7{i j:Nat}(hj:j<=xs.size)(k:Nat) :
  T (mirror xs i j ((j-i) / 2)) k=if i<=k/\k<j then T xs (i+j-1-k)else T xs k:=by
 let e:=getElem?_mirror_all (i:=i) hj k
 by_cases h1:i<=k/\k<j
 .rw[qX h1]at e⊢;show xw e
 .rw[qY h1]at e⊢;show xw e
end Tim
namespace Shr
def qau{x:Int}(h:1<=x/\x<=9):0<2520 / x/\2520 / x*x=2520:=by
 have:x=1\/x=2\/x=3\/x=4\/x=5\/x=6\/x=7\/x=8\/x=9:=()
 rcases this with rfl | rfl | rfl | rfl | rfl | rfl | rfl | rfl | rfl<;>decide
def Oo{M w:Int}(hM:0<M)(hw:0<w){t:Nat}(h:∀s:Nat,s<t->M*((s:Int)+1) % w≠0):(t:Int)<w:=by
 show Classical.byContradiction λc=>?_
 obtain⟨v,hv⟩:∃v:Nat,(v:Int)+1=w:=⟨(w-1).toNat,()⟩;show h v () ?_;rw[hv];show Int.mul_emod_left M w
end Shr
namespace L2
open PyProof.Rows
open PySem.W (KasT kas_sort kas_ask kas_asc kas_desc kas_rev kas_tail3 kas_descPart kas_count kas_place kas_bin)
end L2
namespace L2
open PyProof.Rows
variable{X:Cx}
end L2
namespace Gd
open L2 Gen
def big(l:TN):Int:=l.foldl max 0
theorem lK:∀(l:TN) (a:Int),a<=l.foldl max a/\∀x∈l,x<=l.foldl max a
 | [],a=>⟨xF _,λx hx=>nomatch hx⟩
 | y :: l, a => by
   let⟨h1,h2⟩:=lK l (max a y)
   rw[xG]
   show⟨(),λx hx=>?_⟩
   rcases qM.mp hx with rfl | hx
   · omega
   · show h2 x hx
theorem xx:∀(l:TN) (a:Int),l.foldl max a∈a::l
 | [],a=>∅
 | y :: l, a => by
   rw[xG]
   let h:=xx l (max a y)
   rcases qM.mp h with e | h
   · rw[e]
     by_cases z:a<=y
     · rw[Int.max_eq_right z];simp
     · rw[Int.max_eq_left ()];simp
   · show qS _ (qS _ h)
def qav(l:TN):big l∈[0]++l:=xx l 0
def qaw(l:TN):∀x∈[0]++l,x<=big l:=λx hx=>by
 rcases qM.mp hx with rfl | hx
 .show(lK l 0).1
 .show(lK l 0).2 x hx
def qax{l:TN}{B:Int}(hB:0<=B)(h:∀x∈l,x<=B):0<=big l/\big l<=B:=by
 show⟨(lK l 0).1,?_⟩;rcases qM.mp (xx l 0)with e | e
 .show l.foldl max 0<=B;rw[e];show hB
 .show h _ e
def dj(ps:List Pl):TN:=ps.map λp=>(p.r:Int)+p.d
def many(ps:List Pl):Nat:=(big (dj ps)).toNat
def B7(ps:List Pl):((many ps:Nat):Int)=big (dj ps):=by
 unfold many;have:=(lK (dj ps) 0).1;let e:big (dj ps)=(dj ps).foldl max 0:=rfl;omega
def qay(h:ps≠[]):((many ps:Nat):Int)∈dj ps:=by
 rw[B7];rcases qM.mp (xx (dj ps) 0)with e | e
 .obtain⟨p,l,rfl⟩:∃p l,ps=p::l:=by
   cases ps with
   | nil=>show qT O h
   | cons p l=>show⟨p,l,O⟩
  let h1:=(lK (dj (p::l)) 0).2 ((p.r:Int)+p.d) (by simp[dj]);rw[e]at h1;let h2:(p.r:Int)+p.d=0:=()
  let e':big (dj (p::l))=0:=e;rw[e',<-h2];simp[dj]
 .show e
def Op:∀x∈dj ps,x<=((many ps:Nat):Int):=λx hx=>by
 rw[B7];show(lK _ 0).2 x hx
def Oq(h:p∈ps):p.r+p.d<=many ps:=by
 have:=Op ((p.r:Int)+p.d) (qP.mpr ⟨p,h,O⟩);omega
def qaz{B:Nat}(h:∀p∈ps,p.r+p.d<=B):many ps<=B:=by
 let h1:=(qax (l:=dj ps) (B:=B) () λx hx=>by
  let⟨p,hp,rfl⟩:=qP.mp hx;have:=h p hp;omega).2
 rw[<-B7]at h1;omega
def eW(zs:List (Pl×Int))(dX:TN)(row:Nat):TN:=(zs.filter λx=>decide (x.1.r+x.1.d=row+1)).map λx=>x.2-(dX.drop x.1.r).sum
def Os(zs:List (Pl×Int))(x:Pl×Int)(dX:TN)(row:Nat):eW (zs++[x]) dX row=eW zs dX row++if x.1.r+x.1.d=row+1 then[x.2-(dX.drop x.1.r).sum]else[]:=by
 unfold eW;rw[rS,qD]
 by_cases h:x.1.r+x.1.d=row+1<;>simp[h]
def bM(zs:List (Pl×Int)):Nat->List Int
 | 0=>[]
 | n+1=>bM zs n++[big (eW zs (bM zs n) n)]
theorem xy(zs:List (Pl×Int)):∀n,(bM zs n)⁻¹=n
 | 0=>rfl
 | n+1=>by rw[bM,qJ,xy zs n];rfl
theorem Ot(zs:List (Pl×Int)){n:Nat}:∀{m:Nat},n<=m->(bM zs m).take n=bM zs n
 | 0, h => by
   have:n=0:=()
   subst this
   rfl
 | m + 1, h => by
   by_cases e:n=m+1
   · subst e
     show qI (Nat.le_of_eq (xy zs _))
   · rw[bM,List.take_append_of_le_length (by rw[xy];omega)]
     show Ot zs ()
theorem xz:∀{l:TN},(∀x∈l,0<=x)->0<=l.sum
 | [],_=>∅
 | x :: l, h => by
   rw[List.sum_cons]
   let h1:=h x rE
   let h2:=xz (l:=l) λy hy=>h y (qS _ hy)
   omega
def qaA(zs:List (Pl×Int)){r row m:Nat}(h:row<=m):((bM zs m).drop r).take (row-r)=(bM zs row).drop r:=by
 rw[<-Ot zs h,List.drop_take]
def qaB{zs:List (Pl×Int)}{x:Pl×Int}{m:Nat}(hx:x∈zs)(hd:1<=x.1.d)(hm:x.1.r+x.1.d<=m):x.2<=(((bM zs m).drop x.1.r).take x.1.d).sum:=by
 obtain⟨e,he⟩:∃e,x.1.r+x.1.d=e+1:=⟨x.1.r+x.1.d-1,()⟩;let h1:=qaA zs (r:=x.1.r) (row:=e+1) (m:=m) ();rw[show e+1-x.1.r=x.1.d by omega]at h1;rw[h1,bM,List.drop_append_of_le_length (by rw[xy];omega),List.sum_append];let h2:=(lK (eW zs (bM zs e) e) 0).2 (x.2-((bM zs e).drop x.1.r).sum) (qP.mpr ⟨x,rY.mpr ⟨hx,qR he⟩,O⟩);let e2:(eW zs (bM zs e) e).foldl max 0=big (eW zs (bM zs e) e):=rfl;rw[e2]at h2;simp only[List.sum_cons,List.sum_nil];omega
def qaC{ps:List Pl}{hs:TN}{i:Nat}{p:Pl}{h:Int}(e1:ps[i]?=!p)(e2:hs[i]?=!h):(ps.zip hs)[i]?=!(p,h):=by
 rw[List.getElem?_zip_eq_some];show⟨e1,e2⟩
def oW{hs:TN}{i:Nat}(h:(⇑hs)[i]?=!x):∃n,hs[i]?=!n/\x=.int n:=by
 rw[qH]at h;let⟨n,e,rfl⟩:=rP.mp h;show⟨n,e,O⟩
inductive GE:List V->Hp->VK->XK->Prop
|m (a:Addr) (p:Pl):vs=[.ref a]->PlAt H a p->Q (.int ((p.r:Int)+p.d)) H->GE vs H Q E
def cut_from{xs:TN}{r:Nat}:fV ⇑xs (!(r:Int)) none=⇑(xs.drop r):=by
 unfold fV;rw[HT.sIx_nat,HT.sIx_none,qA,qI (by rw[vM,qA];show qG _),<-wB]
 by_cases h:r<=xs⁻¹
 .rw[uN h]
 .rw[Nat.min_eq_right (),List.drop_length,List.drop_of_length_le ()]
def qaD{xs:TN}{r e:Nat}(h1:r<=e)(h2:e<=xs⁻¹):fV ⇑xs (!(r:Int)) (!(e:Int))=⇑((xs.drop r).take (e-r)):=by
 unfold fV;rw[HT.sIx_nat,HT.sIx_nat,qA,uN (show r<=xs⁻¹ by omega),uN h2,<-wB,<-vN]
end Gd
namespace L2
open PyProof.Rows
abbrev dH(h:Heap)(T:Addr)(p q r:Value):Prop:=h.get? T=!{cls:=.type "tuple",data:=.seq #[p,q,r]}
structure Z3(z TI TO i1 i2 i3:Addr):Prop where
 nd:[z,TI,TO,i1,i2,i3].Nodup
abbrev Off(z TO i1 i2 i3 l:Addr):Prop:=l≠z/\l≠TO/\l≠i1/\l≠i2/\l≠i3
def Z3.all{z TI TO i1 i2 i3:Addr}(D:Z3 z TI TO i1 i2 i3):(TI≠z/\TO≠z/\i1≠z/\i2≠z/\i3≠z)/\(TI≠TO/\TI≠i1/\TI≠i2/\TI≠i3)/\(TO≠i1/\TO≠i2/\TO≠i3)/\(i1≠i2/\i1≠i3)/\i2≠i3:=by
 let h:=D.nd;simp only[List.nodup_cons,List.mem_cons,List.not_mem_nil,or_false,not_or,List.nodup_nil,and_true,not_false_eq_true]at h;let⟨⟨a1,a2,a3,a4,a5⟩,⟨b1,b2,b3,b4⟩,⟨c1,c2,c3⟩,⟨d1,d2⟩,e⟩:=h;show⟨⟨rV a1,rV a2,rV a3,rV a4,rV a5⟩,⟨b1,b2,b3,b4⟩,⟨c1,c2,c3⟩,⟨d1,d2⟩,e⟩
section
variable{prog:Program}{w:World}{A:Around}{E:TH}{s:Shared}
def GF{k:Nat}{Q:Unit->Shared->Prop}(hT:dH s.heap T p q r)(h:∀g,g.get? T=!{cls:=.type "tuple",data:=.seq ((#[p,q,r]:Array Value).setIfInBounds k x)}->Heap.SameBut T s.heap g->Q Unit.unit {s with heap:=g}) :
  wpAny (model prog w) A (updateSeq T (·.setIfInBounds k x)) Q E s:=by
 show u8 hT O (h _ ?_ (Heap.SameBut.update ..));rw[yF _ hT O];simp[Obj.mapSeq]
def qaE{z TI TO i1 i2 i3 l1 l2 l3:Addr}{k:Nat}{xs ys zs:Array Value}{x y v p q r:Value}{Q:TH}(D:Z3 z TI TO i1 i2 i3)(f1:Off z TO i1 i2 i3 l1)(f2:Off z TO i1 i2 i3 l2)(f3:Off z TO i1 i2 i3 l3)(hz:IsZip s.heap z TI TO .none)(ti:dH s.heap TI (.ref i1) (.ref i2) (.ref i3))(to:dH s.heap TO p q r)(a1:s.heap.IsListIter i1 l1 k)(a2:s.heap.IsListIter i2 l2 k)(a3:s.heap.IsListIter i3 l3 k)(b1:s.heap.IsList l1 xs)(b2:s.heap.IsList l2 ys)(b3:s.heap.IsList l3 zs)(hx:xs[k]?=!x)(hy:ys[k]?=!y)(hv:zs[k]?=!v)(hQ:∀g,IsZip g z TI TO (rawInt (~~~s))->dH g TO x y v->g.IsListIter i1 l1 (k+1)->g.IsListIter i2 l2 (k+1)->g.IsListIter i3 l3 (k+1)->dH g (~~~s) x y v->g.objs.size= ~~~s+1 ->
   (∀c o,Off z TO i1 i2 i3 c->s.heap.get? c=!o->g.get? c=!o)->Q (.ref (~~~s)) {s with heap:=g}) :
  wpAny (model prog w) A (Builtin.«zip.__next__» ⟨[.ref z],[]⟩) (λfin s'=>∃u,fin=.done (.ret u)/\Q u s') E s:=by
 let⟨⟨d1,d2,d3,d4,d5⟩,⟨_,e1,e2,e3⟩,⟨c1,c2,c3⟩,⟨j1,j2⟩,j3⟩:=D.all;show wpAny _ _ (field (.ref z) 2>>=_) _ _ _;show qC (wpAny_field hz O (x:=.bool false) O ?_);show wpAny _ _ (field (.ref z) 3>>=_) _ _ _;show qC (wpAny_field hz O (x:=.ref TI) O ?_);show qC (yN ti O ?_);show wpAny _ _ (Builtin.SmallTypes.ownedTupleIsFree (.ref z)>>=_) _ _ _;show qC ?_;unfold Builtin.SmallTypes.ownedTupleIsFree;show qC (wpAny_field hz O (x:=.none) O (qL ?_));simp only[if_true];show qC (wpAny_rule ?_);show qC (wpAny_field hz O (x:=.ref TO) O ?_);show qC (wpAny_setField_rec hz ∅ λg1 z1 s1=>?_);replace z1:IsZip g1 z TI TO .ellipsis:=z1;show qC ?_;simp only[List.zipIdx_cons,List.zipIdx_nil,List.forIn_cons,List.forIn_nil];let k1:∀c o,c≠z->s.heap.get? c=!o->g1.get? c=!o:=λc o n e=>s1.extBut _ _ n e
 show qC (qC (wpAny_onRaise ?_));show wpAny _ _ (Builtin.SmallTypes.nextOf (.ref i1)>>=_) _ _ _;show qC (wpAny_nextOf_list_item (a1.at λo e=>k1 _ o d3 e) (b1.at λo e=>k1 _ o f1.1 e) hx λg2 m1 s2=>qL ?_);let k2:∀c o,c≠z->c≠i1->s.heap.get? c=!o->g2.get? c=!o:=λc o n n' e=>s2.extBut _ _ n' (k1 c o n e)
 let t2:dH g2 TO p q r:=k2 _ _ d2 c1 to;show qC (yN t2 O ?_);show qC (GF t2 λg3 t3 s3=>?_);replace t3:dH g3 TO x q r:=t3;let k3:∀c o,c≠z->c≠i1->c≠TO->s.heap.get? c=!o->g3.get? c=!o:=λc o n n' n2 e=>s3.extBut _ _ n2 (k2 c o n n' e)
 show qC (wpAny_letGo (qL ?_));show qC (qC (wpAny_onRaise ?_));show wpAny _ _ (Builtin.SmallTypes.nextOf (.ref i2)>>=_) _ _ _;show qC (wpAny_nextOf_list_item (a2.at λo e=>k3 _ o d4 (rV j1) (rV c2) e) (b2.at λo e=>k3 _ o f2.1 f2.2.2.1 f2.2.1 e) hy λg4 m2 s4=>qL ?_);let k4:∀c o,c≠z->c≠i1->c≠TO->c≠i2->s.heap.get? c=!o->g4.get? c=!o:=λc o n n' n2 n3 e=>s4.extBut _ _ n3 (k3 c o n n' n2 e)
 let t4:dH g4 TO x q r:=s4.extBut _ _ c2 t3;show qC (yN t4 O ?_);show qC (GF t4 λg5 t5 s5=>?_);replace t5:dH g5 TO x y r:=t5;let k5:∀c o,c≠z->c≠i1->c≠TO->c≠i2->s.heap.get? c=!o->g5.get? c=!o:=λc o n n' n2 n3 e=>s5.extBut _ _ n2 (k4 c o n n' n2 n3 e)
 show qC (wpAny_letGo (qL ?_));show qC (qC (wpAny_onRaise ?_));show wpAny _ _ (Builtin.SmallTypes.nextOf (.ref i3)>>=_) _ _ _;show qC (wpAny_nextOf_list_item (a3.at λo e=>k5 _ o d5 (rV j2) (rV c3) (rV j3) e) (b3.at λo e=>k5 _ o f3.1 f3.2.2.1 f3.2.1 f3.2.2.2.1 e) hv λg6 m3 s6=>qL ?_);let k6:∀c o,Off z TO i1 i2 i3 c->s.heap.get? c=!o->g6.get? c=!o:=λc o n e=>s6.extBut _ _ n.2.2.2.2 (k5 c o n.1 n.2.2.1 n.2.1 n.2.2.2.1 e)
 let t6:dH g6 TO x y r:=s6.extBut _ _ c3 t5;show qC (yN t6 O ?_);show qC (GF t6 λg7 t7 s7=>?_);replace t7:dH g7 TO x y v:=t7;let k7:∀c o,Off z TO i1 i2 i3 c->s.heap.get? c=!o->g7.get? c=!o:=λc o n e=>s7.extBut _ _ n.2.1 (k6 c o n e)
 show qC (wpAny_letGo (qL (qL ?_)));show qC (yN t7 O ?_);show qC (wpAny_newTuple ?_);let hsz:g7.objs.size= ~~~s:=by rw[s7.1,s6.1,s5.1,s4.1,s3.1,s2.1,s1.1]
 let z7:IsZip g7 z TI TO .ellipsis:=s7.extBut _ _ (rV d2) (s6.extBut _ _ (rV d5) (s5.extBut _ _ (rV d2) (s4.extBut _ _ (rV d4) (s3.extBut _ _ (rV d2) (s2.extBut _ _ (rV d3) z1)))));let n1:g7.IsListIter i1 l1 (k+1):=m1.at λo e=>s7.extBut _ _ (rV c1) (s6.extBut _ _ j2 (s5.extBut _ _ (rV c1) (s4.extBut _ _ j1 (s3.extBut _ _ (rV c1) e))))
 let n2:g7.IsListIter i2 l2 (k+1):=m2.at λo e=>s7.extBut _ _ (rV c2) (s6.extBut _ _ j3 (s5.extBut _ _ (rV c2) e))
 let n3:g7.IsListIter i3 l3 (k+1):=m3.at λo e=>s7.extBut _ _ (rV c3) e
 let oJ:z<g7.objs.size:=qK z7;show wpAny _ _ (Builtin.SmallTypes.ownedTupleHandOut (.ref z) (.ref g7.objs.size)>>=_) _ _ _;show qC ?_;unfold Builtin.SmallTypes.ownedTupleHandOut;let z8:IsZip (g7.push {cls:=.type "tuple",data:=.seq #[x,y,v]}) z TI TO .ellipsis:=qF _ z7;show qC (wpAny_setField_rec z8 ∅ λg9 z9 s9=>?_);replace z9:IsZip g9 z TI TO (rawInt g7.objs.size):=z9;show wpAny_setField_rec z9 ∅ λya c7 j8=>?_
 replace c7:IsZip ya z TI TO (rawInt g7.objs.size):=c7;let up:∀c o,c≠z->g7.get? c=!o->ya.get? c=!o:=λc o n e=>j8.extBut _ _ n (s9.extBut _ _ n (qF _ e))
 let hT:dH ya g7.objs.size x y v:=j8.extBut _ _ (yJ oJ) (s9.extBut _ _ (yJ oJ) (qQ _ O));let Ou:ya.objs.size=g7.objs.size+1:=by rw[j8.1,s9.1,rM]
 rw[hsz]at c7 hT Ou;show qL ⟨_,O,?_⟩;show Q (.ref g7.objs.size) _;rw[hsz];show hQ ya c7 (up _ _ d2 t7) (n1.at λo e=>up _ o d3 e) (n2.at λo e=>up _ o d4 e) (n3.at λo e=>up _ o d5 e) hT Ou λc o n e=>up c o n.1 (k7 c o n e)
def qaF{z TI TO i1 i2 i3 l1:Addr}{k:Nat}{xs:Array Value}{p q r:Value}{Q:Fin->Shared->Prop}(hh:A.handled=none)(D:Z3 z TI TO i1 i2 i3)(f1:Off z TO i1 i2 i3 l1)(hz:IsZip s.heap z TI TO .none)(ti:dH s.heap TI (.ref i1) (.ref i2) (.ref i3))(a1:s.heap.IsListIter i1 l1 k)(b1:s.heap.IsList l1 xs)(hx:xs[k]?=none)(hE:∀g e,(∀c o,Off z TO i1 i2 i3 c->s.heap.get? c=!o->g.get? c=!o)->(∃o,g.get? e=!o/\o.cls=.type "StopIteration")->E (.ref e) {s with heap:=g}) :
  wpAny (model prog w) A (Builtin.«zip.__next__» ⟨[.ref z],[]⟩) Q E s:=by
 let⟨⟨d1,d2,d3,d4,d5⟩,_⟩:=D.all;show wpAny _ _ (field (.ref z) 2>>=_) _ _ _;show qC (wpAny_field hz O (x:=.bool false) O ?_);show wpAny _ _ (field (.ref z) 3>>=_) _ _ _;show qC (wpAny_field hz O (x:=.ref TI) O ?_);show qC (yN ti O ?_);show wpAny _ _ (Builtin.SmallTypes.ownedTupleIsFree (.ref z)>>=_) _ _ _;show qC ?_;unfold Builtin.SmallTypes.ownedTupleIsFree;show qC (wpAny_field hz O (x:=.none) O (qL ?_));simp only[if_true];show qC (wpAny_rule ?_);show qC (wpAny_field hz O (x:=.ref TO) O ?_);show qC (wpAny_setField_rec hz ∅ λg1 z1 s1=>?_);replace z1:IsZip g1 z TI TO .ellipsis:=z1;show qC ?_;simp only[List.zipIdx_cons,List.zipIdx_nil,List.forIn_cons,List.forIn_nil];show qC (qC (wpAny_onRaise ?_));show wpAny _ _ (Builtin.SmallTypes.nextOf (.ref i1)>>=_) _ _ _;show qC (wpAny_nextOf_list_end hh (a1.at λo e=>s1.extBut _ o d3 e) (b1.at λo e=>s1.extBut _ o f1.1 e) hx λg2 ex s2 he=>?_);let⟨oe,GG,Ov⟩:=he;let z2:IsZip g2 z TI TO .ellipsis:=s2 _ _ (rV d3) z1;let hez:ex≠z:=λy=>by subst y;rw[z2]at GG;cases GG;simp at Ov
 show wpAny_setField_rec z2 ∅ λg3 _ s3=>hE g3 ex (λc o n y=>s3.extBut _ _ n.1 (s2 _ _ n.2.2.1 (s1.extBut _ _ n.1 y))) ⟨oe,s3.extBut _ _ hez GG,Ov⟩
def qaG{z TI TO i1 i2 i3 l1 l2 l3:Addr}{k:Nat}{xs ys zs:Array Value}{x y v p q r:Value}{Q:Option Value->Shared->Prop}(D:Z3 z TI TO i1 i2 i3)(f1:Off z TO i1 i2 i3 l1)(f2:Off z TO i1 i2 i3 l2)(f3:Off z TO i1 i2 i3 l3)(hz:IsZip s.heap z TI TO .none)(ti:dH s.heap TI (.ref i1) (.ref i2) (.ref i3))(to:dH s.heap TO p q r)(a1:s.heap.IsListIter i1 l1 k)(a2:s.heap.IsListIter i2 l2 k)(a3:s.heap.IsListIter i3 l3 k)(b1:s.heap.IsList l1 xs)(b2:s.heap.IsList l2 ys)(b3:s.heap.IsList l3 zs)(hx:xs[k]?=!x)(hy:ys[k]?=!y)(hv:zs[k]?=!v)(hQ:∀g,IsZip g z TI TO (rawInt (~~~s))->dH g TO x y v->g.IsListIter i1 l1 (k+1)->g.IsListIter i2 l2 (k+1)->g.IsListIter i3 l3 (k+1)->dH g (~~~s) x y v->g.objs.size= ~~~s+1 ->
   (∀c o,Off z TO i1 i2 i3 c->s.heap.get? c=!o->g.get? c=!o)->Q (!.ref (~~~s)) {s with heap:=g}) :
  wpAny (model prog w) A (pyNext (.ref z)) Q E s:=by
 let hT:s.TypeIs (.ref z) "zip":=⟨_,hz,O⟩;unfold pyNext;show qC (wpAny_attempt (wpAny_callSpecial?_slot (name:=s!"__next__") hT F.slot_zip_next (uK F.slot_zip_next hT F.entry_zip_next ?_ (F.args_zip_next_1 _))));show qaE D f1 f2 f3 hz ti to a1 a2 a3 b1 b2 b3 hx hy hv λg y1 y2 y3 y4 y5 y6 y7 y8=>qL (hQ g y1 y2 y3 y4 y5 y6 y7 y8)
def qaH{z TI TO i1 i2 i3 l1:Addr}{k:Nat}{xs:Array Value}{Q:Option Value->Shared->Prop}(hh:A.handled=none)(D:Z3 z TI TO i1 i2 i3)(f1:Off z TO i1 i2 i3 l1)(hz:IsZip s.heap z TI TO .none)(ti:dH s.heap TI (.ref i1) (.ref i2) (.ref i3))(a1:s.heap.IsListIter i1 l1 k)(b1:s.heap.IsList l1 xs)(hx:xs[k]?=none)(hQ:∀g,(∀c o,Off z TO i1 i2 i3 c->s.heap.get? c=!o->g.get? c=!o)->Q none {s with heap:=g}):wpAny (model prog w) A (pyNext (.ref z)) Q E s:=by
 let hT:s.TypeIs (.ref z) "zip":=⟨_,hz,O⟩;unfold pyNext;show qC (wpAny_attempt (wpAny_callSpecial?_slot (name:=s!"__next__") hT F.slot_zip_next (uK F.slot_zip_next hT F.entry_zip_next (qaF (p:=.none) (q:=.none) (r:=.none) hh D f1 hz ti a1 b1 hx λg e hk he=>?_) (F.args_zip_next_1 _))));let⟨o,ho,hc⟩:=he;show qC (v3 (T := "StopIteration") (b:=true) ⟨o,ho,hc⟩ isSubtype_stop (qL (hQ _ hk)))
end
abbrev gg(l:Addr):Obj:={cls:=.type "list_iterator",data:=.fields #[.ref l,.int 0 0]}
abbrev B8(h:Heap)(l1 l2 l3:Addr):Heap:=((h.push (gg l1)).push (gg l2)).push (gg l3)
abbrev B9(h:Heap)(l1 l2 l3:Addr):Heap:=(B8 h l1 l2 l3).push {cls:=.type "tuple",data:=.seq #[.ref h.objs.size,.ref (h.push (gg l1)).objs.size,.ref ((h.push (gg l1)).push (gg l2)).objs.size]}
abbrev Ca(h:Heap)(l1 l2 l3:Addr):Heap:=(B9 h l1 l2 l3).push {cls:=.type "tuple",data:=.seq #[.none,.none,.none]}
abbrev oX(h:Heap)(l1 l2 l3:Addr):Heap:=(Ca h l1 l2 l3).push {cls:=.type "zip",data:=.fields #[.none,.bool false,.bool false,.ref (B8 h l1 l2 l3).objs.size,.ref (B9 h l1 l2 l3).objs.size]}
def qaI(l1 l2 l3:Addr)(xs ys zs:Array Value) :
  Meets (Builtin.«zip.__new__» ⟨[.type "zip",.ref l1,.ref l2,.ref l3],[]⟩) (λ_ R s=>s.heap.IsList l1 xs/\s.heap.IsList l2 ys/\s.heap.IsList l3 zs /\
   R (.ok (.ret (.ref (Ca s.heap l1 l2 l3).objs.size))) {s with heap:=oX s.heap l1 l2 l3}) :=
 .of_wp λprog w A R s h=>by
  let⟨hp,g,d,tk,os⟩:=s;let⟨b1,b2,b3,h⟩:=h;let hsub:=sub_zip;let c1:Heap.IsList (Shared.heap ⟨hp,g,d,tk,os⟩) l1 xs:=b1;let c2:Heap.IsList (Shared.heap ⟨hp.push (gg l1),g,d,tk,os⟩) l2 ys:=Heap.IsList.push b2 _;let c3:Heap.IsList (Shared.heap ⟨(hp.push (gg l1)).push (gg l2),g,d,tk,os⟩) l3 zs:=Heap.IsList.push (Heap.IsList.push b3 _) _
  wp_walk using xU c1,xU c2,xU c3
  show-⟨h⟩
def qaJ(a b c:Value):checkTypeCall "zip" ⟨[a,b,c],[]⟩=pure Unit.unit:=by kernel_rfl
def qaK(a b c:Value):checkBuiltinCall "zip.__new__" ⟨[.type "zip",a,b,c],[]⟩=pure Unit.unit:=by kernel_rfl
def qaL(a b c d:Value):argsOk "object.__init__" ⟨[a,b,c,d],[]⟩:=by
 unfold argsOk;rw[signature?_of (id := "object.__init__") (n:=[95,95,116,105,110,105,95,95].map Char.ofNat) (o:=[116,99,101,106,98,111].map Char.ofNat) (by kernel_rfl) F.owner_object]
 kernel_rfl
def qaM{E:TH}{Q:TH}(b1:s.heap.IsList l1 xs)(b2:s.heap.IsList l2 ys)(b3:s.heap.IsList l3 zs)(h:∀g,IsZip g (~~~s+5) (~~~s+3) (~~~s+4) .none->dH g (~~~s+3) (.ref (~~~s)) (.ref (~~~s+1)) (.ref (~~~s+2)) ->
   dH g (~~~s+4) .none .none .none->g.IsListIter (~~~s) l1 0->g.IsListIter (~~~s+1) l2 0->g.IsListIter (~~~s+2) l3 0 ->
   (∀c o,s.heap.get? c=!o->g.get? c=!o)->Q (.ref (~~~s+5)) {s with heap:=g}) :
  wpAny (model prog w) A (call (.type "zip") [.ref l1,.ref l2,.ref l3]) Q E s:=by
 show callType_new F.called_zip {} (qaJ _ _ _) (qaK _ _ _) (λobj=>qaL obj _ _ _) F.entry_zip_new (qaI l1 l2 l3 xs ys zs) ⟨b1,b2,b3,?_⟩;let y1:(s.heap.push (gg l1)).objs.size= ~~~s+1:=rM ..;let y2:((s.heap.push (gg l1)).push (gg l2)).objs.size= ~~~s+2:=by rw[rM,y1]
 let y3:(B8 s.heap l1 l2 l3).objs.size= ~~~s+3:=by rw[rM,y2]
 let y4:(B9 s.heap l1 l2 l3).objs.size= ~~~s+4:=by rw[rM,y3]
 let y5:(Ca s.heap l1 l2 l3).objs.size= ~~~s+5:=by rw[rM,y4]
 let u:∀{g:Heap} {o o':Obj} {c:Addr},g.get? c=!o->(g.push o').get? c=!o:=λe=>qF _ e
 let g6:(oX s.heap l1 l2 l3).get? (Ca s.heap l1 l2 l3).objs.size=!_:=qQ _ O;let g5:(oX s.heap l1 l2 l3).get? (B9 s.heap l1 l2 l3).objs.size=!_:=u (qQ _ O);let g4:(oX s.heap l1 l2 l3).get? (B8 s.heap l1 l2 l3).objs.size=!_:=u (u (qQ _ O));let g3:(oX s.heap l1 l2 l3).get? ((s.heap.push (gg l1)).push (gg l2)).objs.size=!_:=u (u (u (qQ _ O)));let g2:(oX s.heap l1 l2 l3).get? (s.heap.push (gg l1)).objs.size=!_:=u (u (u (u (qQ _ O))));let g1:(oX s.heap l1 l2 l3).get? (~~~s)=!_:=u (u (u (u (u (qQ _ O)))));show _/\_;rw[y3,y4,y5]at g6;rw[y4]at g5;rw[y1,y2,y3]at g4;rw[y2]at g3;rw[y1]at g2;rw[y5];show⟨⟨_,g6,O⟩,h _ g6 g4 g5 ⟨_,g1,O,O⟩ ⟨_,g2,O,O⟩ ⟨_,g3,O,O⟩ λc o x=>u (u (u (u (u (u x)))))⟩
def yb(K:W.Frag)(a b c:Addr):It :=
 ⟨λi H=>∃xs ys zs x y z,SqL K H a xs/\SqL K H b ys/\SqL K H c zs/\xs[i]?=!x/\ys[i]?=!y/\zs[i]?=!z,
  λi H v H'=>∃T x y z,H T=none/\v=.ref T/\H'=af H T (.tup [x,y,z])/\∀xs ys zs,SqL K H a xs->SqL K H b ys->SqL K H c zs->xs[i]?=!x/\ys[i]?=!y/\zs[i]?=!z,
  λi H=>∃xs,SqL K H a xs/\xs⁻¹<=i⟩
structure Ow(h:Heap)(z TI TO i1 i2 i3 l1 l2 l3:Addr)(i:Nat):Prop where
 hz:IsZip h z TI TO .none
 ti:dH h TI (.ref i1) (.ref i2) (.ref i3)
 to:∃p q r,dH h TO p q r
 it1:h.IsListIter i1 l1 i
 it2:h.IsListIter i2 l2 i
 it3:h.IsListIter i3 l3 i
def Cb{h:Heap}{z TI TO i1 i2 i3 l l1 l2 l3:Addr}{i:Nat}{xs:Array Value}(st:Ow h z TI TO i1 i2 i3 l1 l2 l3 i)(hl:h.IsList l xs):Off z TO i1 i2 i3 l:=by
 let⟨p,q,r,to⟩:=st.to;let⟨o4,e4,c4,_⟩:=st.it1;let⟨o5,e5,c5,_⟩:=st.it2;let⟨o6,e6,c6,_⟩:=st.it3;let nz:Value.type "zip" ≠ Value.type "list":={}
 let nt:Value.type "tuple" ≠ Value.type "list":={}
 show⟨dO hl st.hz nz,dO hl to nt,dO hl e4 (by rw[c4];decide),dO hl e5 (by rw[c5];decide),dO hl e6 (by rw[c6];decide)⟩
def qaN{P:Program}{w:World}{K:W.Frag}{ji:TW}{k1:Nat}{tp:Pos}(l1 l2 l3 z TI TO i1 i2 i3:Addr)(D:Z3 z TI TO i1 i2 i3) :
  jK P w K (.Tuple ji k1 tp) (yb K l1 l2 l3) [z,TI,TO,i1,i2,i3] z (λi h=>Ow h z TI TO i1 i2 i3 l1 l2 l3 i) where
 mem:=∅
 obj:=λi h st b hb=>by
  let c1:=st.hz;let c2:=st.ti;let⟨p,q,r,c3⟩:=st.to;let⟨o4,e4,_,g4⟩:=st.it1;let⟨o5,e5,_,g5⟩:=st.it2;let⟨o6,e6,_,g6⟩:=st.it3;simp only[List.mem_cons,List.not_mem_nil,or_false]at hb;rcases hb with rfl | rfl | rfl | rfl | rfl | rfl
  .show⟨_,c1,λv z=>by cases z⟩
  .show⟨_,c2,λv z=>by cases z⟩
  .show⟨_,c3,λv z=>by cases z⟩
  .show⟨_,e4,λv z=>by rw[g4]at z;cases z⟩
  .show⟨_,e5,λv z=>by rw[g5]at z;cases z⟩
  .show⟨_,e6,λv z=>by rw[g6]at z;cases z⟩
 keep:=λi h h' st k=>by
  let⟨p,q,r,c3⟩:=st.to;show⟨k z ∅ _ st.hz,k TI ∅ _ st.ti,⟨p,q,r,k TO ∅ _ c3⟩,st.it1.at λo e=>k i1 ∅ o e,st.it2.at λo e=>k i2 ∅ o e,st.it3.at λo e=>k i3 ∅ o e⟩
 item:=by
  intro X hP hw hK hc i aa s σ H E I hf st hg;subst hP hw hK;let⟨xs,ys,zs,x,y,v,q1,q2,q3,hx,hy,hv⟩:=hg;let⟨wz,k9,p1,_⟩:=I.list q1;let⟨gu,lq,p2,_⟩:=I.list q2;let⟨qaO,Ox,p3,_⟩:=I.list q3;let⟨u1,cV,Fq⟩:=k9.get hx;let⟨u2,Fs,Ft⟩:=lq.get hy;let⟨u3,hu3,ru3⟩:=Ox.get hv;let⟨p,q,r,to⟩:=st.to;let⟨o4,e4,_⟩:=id st.it1;let⟨o5,e5,_⟩:=id st.it2;let⟨o6,e6,_⟩:=id st.it3;let⟨⟨d1,d2,d3,d4,d5⟩,⟨d6,d7,d8,d9⟩,_⟩:=D.all;show qaG D (Cb st p1.isList) (Cb st p2.isList) (Cb st p3.isList) st.hz st.ti to st.it1 st.it2 st.it3 p1.isList p2.isList p3.isList (x:=u1) (y:=u2) (v:=u3) ‹cV› ‹Fs› ‹hu3› λh' xa Fv Fy Fz qaP hT hsz hk=>?_
  show-⟨wpAny_letOwnedTupleGo_zip xa λh2 oI sb=>?_⟩;let Oy:∀b∈[z,TI,TO,i1,i2,i3],b< ~~~s:=λb hb=>by
   simp only[List.mem_cons,List.not_mem_nil,or_false]at hb;rcases hb with rfl | rfl | rfl | rfl | rfl | rfl
   .show qK st.hz
   .show qK st.ti
   .show qK to
   .show qK e4
   .show qK e5
   .show qK e6
  let oJ:=Oy z ∅;let k2:∀b o,b∉[z,TI,TO,i1,i2,i3]->s.heap.get? b=!o->h2.get? b=!o:=λb o hb e=>by
   simp only[List.mem_cons,List.not_mem_nil,or_false,not_or]at hb;let⟨n1,n2,n3,n4,n5,n6⟩:=hb;show(sb.2 b n1).trans (hk b o ⟨n1,n3,n4,n5,n6⟩ e)
  let gT:h2.get? (~~~s)=!{cls:=.type "tuple",data:=.seq #[u1,u2,u3]}:=(sb.2 _ (yJ oJ)).trans hT;let I1:Inv X aa σ H {s with heap:=h2,toks:=s.toks}:=I.moved hf k2;let hn:H (~~~s)=none:=I.hok.fresh (qG _);show⟨.ref (~~~s),af H (~~~s) (.tup [x,y,v]),I1.track ?_ hn (yJ I.lt) (λy c ec z=>?_) (λq hq z=>?_) ?_,O,⟨~~~s,x,y,v,hn,O,O,λYF YG zs' h1 h2 h3=>by rw[I.list_inj h1 q1,I.list_inj h2 q2,I.list_inj h3 q3];show⟨hx,hy,hv⟩⟩,?_,λb hb=>?_⟩
  .cases z:X.s₀.heap.get? (~~~s) with
   | none=>rfl
   | some u=>show qT (rB (qK z) I.sz) (rQ _)
  .let⟨v,q⟩:=I.cell y c ec;show qT q.lt (by rw[z];show rQ _)
  .show qT (qK (I.pin q hq).1) (by rw[z];show rQ _)
  .show⟨by show 3<=sizeLine;decide,[u1,u2,u3],.cons Fq (.cons Ft (.cons ru3 .nil)),_,gT,O,_,O⟩
  .let FB:h'.get? TI=!_:=hk TI _ ⟨d1,d6,d7,d8,d9⟩ st.ti;show⟨oI,(sb.2 _ d1).trans FB,⟨_,_,_,(sb.2 _ d2).trans Fv⟩,Fy.at λo e=>(sb.2 _ d3).trans e,Fz.at λo e=>(sb.2 _ d4).trans e,qaP.at λo e=>(sb.2 _ d5).trans e⟩
  .rw[aM (rD (Oy b hb))];show(hf b hb).1
 done:=by
  intro X hP hw hK hc i aa s σ H E I hf st hg;subst hP hw hK;let⟨xs,q1,hx⟩:=hg;let⟨wz,k9,p1,_⟩:=I.list q1;let qu:=k9⁻¹;show qaH (I.ok.hd hc) D (Cb st p1.isList) st.hz st.ti st.it1 p1.isList (by simp;omega) λh' eb=>⟨O,I.moved (t':=s.toks) hf λb o hb e=>?_⟩
  simp only[List.mem_cons,List.not_mem_nil,or_false,not_or]at hb;let⟨n1,n2,n3,n4,n5,n6⟩:=hb;show eb b o ⟨n1,n3,n4,n5,n6⟩ e
 self:=λ_ _ _ _ _ st h=>wpAny_pyIter_zip st.hz h
inductive Oz(K:W.Frag)(R:It->Hp->Prop):List V->Hp->Prop
|m {vs H1} a b c:vs=[.ref a,.ref b,.ref c]->(∃xs,SqL K H1 a xs)->(∃ys,SqL K H1 b ys)->(∃zs,SqL K H1 c zs)->R (yb K a b c) H1->Oz K R vs H1
def qaQ(K:W.Frag)(ta:TA):TI:=λσ H R=>ta σ H (Oz K R)
section
variable{X:Cx}
def qaR{ji:TW}{k1:Nat}(hg:Gl X "zip")(hm:X.mg "zip" = none)(ha:PA X [a,b,c] ta)(hs:starEach [a,b,c] X.env=[(false,eval a X.env),(false,eval b X.env),(false,eval c X.env)]:=by rfl)(oM:starEach [b,c] X.env=[(false,eval b X.env),(false,eval c X.env)]:=by rfl) :
  PI X (.Tuple ji k1 tp) (.Call (.Name "zip" p) [a,b,c] [] pos) (qaQ X.K ta):=by
 intro aa s σ H R I h;show Call_ (jG I hg hm Nf (xV (aR (ha pos aa s σ H _ I h) λus s1 ⟨vs,H1,I1,r1,q1⟩=>?_) (by rw[hs,oM]) (by rw[oM];rfl)));let⟨l1,l2,l3,e,⟨xs,w1⟩,⟨ys,w2⟩,⟨zs,w3⟩,q⟩:=q1;subst e;cases r1 with
 | cons r rr =>
   cases rr with
   | cons r' FD =>
     cases FD with
     | cons FH qaS =>
       cases qaS
       cases r
       cases r'
       cases FH
       let⟨wz,k9,p1,_⟩:=I1.list w1
       let⟨gu,lq,p2,_⟩:=I1.list w2
       let⟨qaO,Ox,p3,_⟩:=I1.list w3
       show qaM p1.isList p2.isList p3.isList λh' hz BF BG it1 it2 it3 hk=>?_
       let I2:Inv X aa σ H1 {s1 with heap:=h'}:=I1.kept (t':=s1.toks) hk
       generalize hn: ~~~s1=n at hz BF BG it1 it2 it3
       let D:Z3 (n+5) (n+3) (n+4) n (n+1) (n+2):=⟨by simp[Nat.succ_ne_self]⟩
       show wpAny_pyIter_zip hz ⟨n+5,[n+5,n+3,n+4,n,n+1,n+2],_,_,H1,O,I2,qaN l1 l2 l3 (n+5) (n+3) (n+4) n (n+1) (n+2) D,⟨hz,BF,⟨_,_,_,BG⟩,it1,it2,it3⟩,λb hb=>?_,q⟩
       let hb': ~~~s1<=b:=by
         rw[hn]
         simp only[List.mem_cons,List.not_mem_nil,or_false]at hb
         rcases hb with rfl | rfl | rfl | rfl | rfl | rfl
         · show yX _ _
         · show yX _ _
         · show yX _ _
         · show qG _
         · show yX _ _
         · show yX _ _
       show I1.fpOk hb' (I1.hok.fresh hb')
def qaT{K:W.Frag}{a b c:Addr}{xs ys zs:List V}{g:TG}{tb:TS}{D:iH}{σ:St}{H:Hp}(l1:ys⁻¹=xs⁻¹)(l2:zs⁻¹=xs⁻¹)(Pv:Nat->St->Hp->Prop)(h0:Pv 0 σ H)(hl:∀i σ H,i<=xs⁻¹->Pv i σ H->SqL K H a xs/\SqL K H b ys/\SqL K H c zs)(hs:∀i x y z σ H T,xs[i]?=!x->ys[i]?=!y->zs[i]?=!z->H T=none->Pv i σ H->g (.ref T) σ (af H T (.tup [x,y,z])) λa0 H2=>tb {D with nx:=Pv (i+1),ct:=Pv (i+1),bk:=D.nx} a0 H2)(hd:∀σ H,Pv xs⁻¹ σ H->D.nx σ H) :
  ∃W:Nat->Nat->St->Hp->Prop,(∃m,W 0 m σ H)/\∀i m σ H,W i m σ H ->
   ((yb K a b c).stop i H/\D.nx σ H)\/((yb K a b c).go i H/\∃N:St->Hp->Prop,(∀ae H',N ae H'->∃m',m'<m/\W (i+1) m' ae H')/\∀x H',(yb K a b c).yld i H x H'->g x σ H' λa0 H2=>tb {D with nx:=N,ct:=N,bk:=D.nx} a0 H2):=by
 show⟨λi m σ H=>m=xs⁻¹-i/\i<=xs⁻¹/\Pv i σ H,⟨xs⁻¹,∅,rO _,h0⟩,?_⟩;ext i m σ H ⟨rfl,hi,p⟩;let⟨q1,q2,q3⟩:=hl i σ H hi p
 by_cases aZ:i<xs⁻¹
 .show .inr ⟨⟨xs,ys,zs,xs[i],ys[i],zs[i],q1,q2,q3,by simp[aZ],by simp[l1,aZ],by simp[l2,aZ]⟩,Pv (i+1),λae H' p'=>⟨xs⁻¹-(i+1),(),O,aZ,p'⟩,λx H' y=>?_⟩;let⟨T,z1,z2,z3,hT,e1,e2,y⟩:=y;subst e1 e2;let⟨y1,y2,y3⟩:=y xs ys zs q1 q2 q3;show hs i z1 z2 z3 σ _ T y1 y2 y3 hT p
 .let e:i=xs⁻¹:=()
  subst e;show .inl ⟨⟨xs,q1,qG _⟩,hd σ H p⟩
def qaU(K:W.Frag):V->V->Hp->VK->Prop:=λx y H Q=>∃p xs,∃i:Nat,∃v,x=.ref p/\y=.int i/\SqL K H p xs/\xs[i]?=!v/\Q v H
def qaV:Kl X (qaU X.K):=by
 intro aa s σ H x y v u Q I rx ry h;let⟨p,xs,i,z,rfl,rfl,hq,he,q⟩:=h;cases rx;let⟨t,rfl⟩:=ry;let⟨ah,r,pl,hz⟩:=I.list hq;let⟨w,ew,jg⟩:=r.get he;let hl:=r⁻¹;let hn:=pV;let lt:=(qE.mp he).1;show wpAny_getItem_list pl.isList () () ?_ ⟨z,H,I,jg,q⟩;simpa using ew
end
end L2
namespace Shr
open L2 Bk Gen Gd
structure BnS(mg:TJ):Prop where
 isinstance:mg "isinstance" = none
 len:mg "len" = none
 range:mg "range" = none
 int:mg "int" = none
 bool:mg "bool" = none
 list:mg "list" = none
 min:mg "min" = none
 max:mg "max" = none
 sum:mg "sum" = none
 zip:mg "zip" = none
 enumerate:mg "enumerate" = none
 sorted:mg "sorted" = none
 all:mg "all" = none
abbrev LI(H:Hp)(a:Addr)(ns:TN):Prop:=H a=!.lst ⇑ns
def qaW{ns:TN}{k:Nat}(h:k<ns⁻¹)(d:Int):bO ⇑ns (k:Int)=!.int (ns.getD k d):=fX (by rw[qH,qB h,qW,qB h];rfl)
def at_getD{ns:TN}{k:Nat}{n:Int}(h:ns[k]?=!n)(d:Int):ns.getD k d=n:=by rw[qW,h];rfl
def GH{n k:Nat}(h:k<n):fW n (k:Int)=!k:=by
 unfold fW;rw[qX (),qX ()];rfl
def qaX{M c:Int}{t:Nat}(hM:0<M)(d1:M∣2520)(d2:c∣2520)(ne:∀s:Nat,s<t->M*((s:Int)+1) % c≠0)(e:M*((t:Int)+1) % c=0):M*((t:Int)+1)∣2520:=by
 let⟨q,hq⟩:=d1;let q0:0<q:=Int.pos_of_mul_pos_right () hM;obtain⟨n,rfl⟩:∃n:Nat,q=(n:Int):=⟨q.toNat,()⟩;let dv:=Nat.div_add_mod n (t+1);let lt:=Nat.mod_lt n (show 0<t+1 by omega);generalize hr:n % (t+1)=r at dv lt;generalize n / (t+1)=a at dv;let en:(n:Int)=((t:Int)+1)*a+r:=by rw[<-dv];push_cast;rfl
 cases r with
 | zero =>
   show⟨(a:Int),?_⟩
   rw[hq,en,Int.mul_assoc]
   simp
 | succ r =>
   exfalso
   show ne r () ?_
   let e1:c∣M*((t:Int)+1):=Int.dvd_of_emod_eq_zero e
   let e2:c∣M*(n:Int):=hq ▸ d2
   let e3:M*(n:Int)=M*((t:Int)+1)*a+M*((r:Int)+1):=by
     rw[en,Int.mul_add,Int.mul_assoc]
     push_cast
     rfl
   rw[e3]at e2
   show Int.emod_eq_zero_of_dvd ((Int.dvd_add_right (Int.dvd_trans e1 ⟨_,O⟩)).mp e2)
def qaY{c:Int}(h1:1<=c)(h2:c<=9):c∣2520:=by
 have:=(qau ⟨h1,h2⟩).2;show⟨2520 / c,by rw[Int.mul_comm];show this.symm⟩
theorem OA:∀{l:TN},l≠[]->∃t,t∈l/\∀x∈l,x<=t
 | [a],_=>⟨a,rT.mpr O,λx hx=>Int.le_of_eq (rT.mp hx)⟩
 | a :: b :: l, _ => by
   let⟨t,h1,h2⟩:=OA (l:=b::l) ∅
   by_cases c:a<=t
   · show⟨t,qS _ h1,λx hx=>?_⟩
     rcases qM.mp hx with rfl | h
     · show c
     · show h2 x h
   · refine⟨a,rE,λx hx=>?_⟩
     rcases qM.mp hx with rfl | h
     · show xF _
     · have:=h2 x h
       omega
end Shr
namespace L2
open PyProof.Rows
end L2
namespace Gen
open L2 Bk
end Gen
namespace Bd
open L2 Bk Gen Gd
def OB{l s c:Int}(hs:1<=s):dA l s<=c↔l<=c*s:=by
 unfold dA;let h1:-l / s ≥ -c↔-c*s<=-l:=Int.le_ediv_iff_mul_le ();rw[Int.neg_mul]at h1;omega
end Bd
namespace Shr
end Shr
namespace Gd
open Classical in
noncomputable def dY(cols:Nat)(cs:List (Nat×Nat)):List Pl:=if h:∃ps,Placed cols cs ps then Classical.choose h else[]
def Placed.eq{cols:Nat}{cs:List (Nat×Nat)}(h:Placed cols cs ps):ps=dY cols cs:=by
 unfold dY;rw[dif_pos ⟨ps,h⟩];show h.uniq (Classical.choose_spec (⟨ps,h⟩:∃ps,Placed cols cs ps))
end Gd
namespace Sp0
open L2 Bk Gen Gd Bd Shr
def cf(ls:TB)(sp:TC)(n:Nat):Int×Int:=((aJ sp n).1+aB ls n 3,max 0 ((aJ sp n).2-2*aB ls n 3))
def iX(ls:TB)(rm:Int×Int)(m:Nat):Int:=min (aB ls m 11) (rm.2 / 2)
def m7(ds:List Nd)(ls:TB)(rm:Int×Int)(m:Nat):Int×Int:=if ds[m]?.map Nd.k=!Kd.aside then(rm.1+aB ls m 10*(rm.2-iX ls rm m),iX ls rm m)else rm
def iA(left:Int)(x:TN):TC:=(List.range x⁻¹).map λk=>(left+(x.take k).sum,x.getD k 0)
def m9(rm:Int×Int)(cols:Int)(k:Nat):Int:=rm.1+(k:Int)*(rm.2 / cols)+min (k:Int) (rm.2 % cols)
def cR(rm:Int×Int)(cols:Int)(p:Pl):Int×Int:=(m9 rm cols p.c,m9 rm cols (p.c+p.s)-m9 rm cols p.c)
def b8(ls:TB)(ks:TM):List (Nat×Nat):=ks.map λm=>((aB ls m 8).toNat,(aB ls m 9).toNat)
def putAll(sp:TC):TM->List (Int×Int)->List (Int×Int)
 | k::ks,z::zs=>putAll (sp.set k z) ks zs
 | _,_=>sp
theorem GI:∀(ks:TM) (zs:TC) (sp:TC),(putAll sp ks zs)⁻¹=sp⁻¹
 | [],_,_=>by unfold putAll;rfl
 | _::_,[],_=>by unfold putAll;rfl
 | k :: ks, z :: zs, sp => by
   unfold putAll
   rw[GI ks zs,u7]
theorem Cc:∀{ks:TM} {zs:TC} {sp:TC} {m:Nat},m∉ks->aJ (putAll sp ks zs) m=aJ sp m
 | [],_,_,_,_=>by unfold putAll;rfl
 | _::_,[],_,_,_=>by unfold putAll;rfl
 | k :: ks, z :: zs, sp, m, h => by
   unfold putAll
   rw[Cc (λz=>h (qS _ z)),FL (λz:k=m=>h (by rw[z];show rE))]
theorem OC:∀{ks:TM} {zs:TC} {sp:TC},ks.Nodup->ks⁻¹=zs⁻¹->(∀k∈ks,k<sp⁻¹)->ks.map (aJ (putAll sp ks zs))=zs
 | [],[],_,_,_,_=>rfl
 | [],_::_,_,_,h,_=>by simp at h
 | _::_,[],_,_,h,_=>by simp at h
 | k :: ks, z :: zs, sp, nd, l, lt => by
   let OD:=y9.mp nd
   let l':ks⁻¹=zs⁻¹:=‹l›
   unfold putAll
   rw[xP,Cc OD.1,FM (lt k rE),OC OD.2 l' λj hj=>by rw[u7];show lt j (qS _ hj)]
section
variable{ds:List Nd}{ls:TB}{bs:TC}{wide:Int}
def Cd(n:Nat):(aw ds n).Nodup:=List.Pairwise.filter _ List.nodup_range
def OE{n k m:Nat}(h1:m∈aw ds n)(h2:m∈aw ds k):n=k:=by
 let⟨d,e1,e2⟩:=fK h1;let⟨d',OF,p8⟩:=fK h2;rw[e1]at OF;cases OF;omega
def qaZ{sp OG:TC}{n:Nat}(h:aJ sp n=aJ OG n):cf ls sp n=cf ls OG n:=by unfold cf;rw[h]
end
structure lN(l:TN):Prop extends LkOk l where
 wt:1<=l.getD 4 0/\l.getD 4 0<=9
 least4:l.getD 5 0<=4000
 most4:l.getD 6 0<=4000
 deep:1<=l.getD 9 0/\l.getD 9 0<=4
 side:l.getD 10 0=0\/l.getD 10 0=1
def GJ{left:Int}{x:TN}:(iA left x)⁻¹=x⁻¹:=by unfold iA;rw[qA,xZ]
def dq(wd cols:Int):TN:=(List.range cols.toNat).map λc:Nat=>if(c:Int)<wd-wd / cols*cols then wd / cols+1 else wd / cols
def OH{wd cols:Int}:(dq wd cols)⁻¹=cols.toNat:=by unfold dq;rw[qA,xZ]
theorem Ce{wd cols:Int}(hc:0<cols):∀{k:Nat},k<=cols.toNat->((dq wd cols).take k).sum=(k:Int)*(wd / cols)+min (k:Int) (wd % cols)
 | 0, _ => by
   have:=uE wd (show cols≠0 by omega)
   rw[List.take_zero]
   show(0:Int)=_
   omega
 | k + 1, h => by
   let ih:=Ce (wd:=wd) hc (k:=k) ()
   let e:(dq wd cols)[k]?=!(if(k:Int)<wd-wd / cols*cols then wd / cols+1 else wd / cols):=by
     unfold dq
     rw[qH,rX ()]
     rfl
   let em:wd-wd / cols*cols=wd % cols:=by
     have:=Int.emod_add_mul_ediv wd cols
     rw[Int.mul_comm]at this
     omega
   rw[qO,e,List.sum_append,ih,em]
   show _+((if(k:Int)<wd % cols then wd / cols+1 else wd / cols)+0)=_
   rw[show(((k+1:Nat):Int))=(k:Int)+1 by omega,Int.add_mul,Int.one_mul]
   split<;>omega
def OI{l:TN}{c s:Nat}:((l.drop c).take s).sum=(l.take (c+s)).sum-(l.take c).sum:=by
 rw[List.take_add,List.sum_append];omega
abbrev KL(H:Hp)(a:Addr)(ks:TM):Prop:=LI H a (ks.map λ(j:Nat)=>(j:Int))
structure InS(H:Hp)(B p L:Addr)(ds:List Nd)(ls:TB)(bs:TC):Prop where
 bk:cM (λ_=>True) H B ds
 lk:LstAt LkAt H p ls
 bd:LstAt PrAt H L bs
def InS.same{ls:TB}{bs:TC}(h:InS H B p L ds ls bs)(s:Same H H'):InS H' B p L ds ls bs:=by
 let⟨as,e,nd⟩:=h.bk;show⟨⟨as,s _ _ e,nd.keep s.keep λ_ _ _=>trivial⟩,dg s h.lk,gf s h.bd⟩
inductive Cf:List V->Hp->VK->XK->Prop
|m (p S:Addr) (n:Nat) (ls:TB) (sp:TC):vs=[.ref p,.ref S,.int n]->LstAt LkAt H p ls->LstAt PrAt H S sp->n<ls⁻¹->n<sp⁻¹->(∀l∈ls,l⁻¹=13)->(∀(t:Addr) (H':Hp),H t=none->Same H H'->PrAt H' t (cf ls sp n)->Q (.ref t) H')->Cf vs H Q E
inductive yc(f:TB->List (Int×Int)->Nat->Int):List V->Hp->VK->XK->Prop
|m (p L k:Addr) (ks:TM) (ls:TB) (bs:TC):vs=[.ref p,.ref L,.ref k]->LstAt LkAt H p ls->LstAt PrAt H L bs->KL H k ks->ks⁻¹<=100->(∀m∈ks,m<ls⁻¹/\m<bs⁻¹)->(∀l∈ls,l⁻¹=13)->(∀(t:Addr) (H':Hp),H t=none->Same H H'->LI H' t (ks.map (f ls bs))->Q (.ref t) H')->yc f vs H Q E
inductive GK:List V->Hp->VK->XK->Prop
|m (p k:Addr) (ks:TM) (ls:TB):vs=[.ref p,.ref k]->LstAt LkAt H p ls->KL H k ks->ks⁻¹<=100->(∀m∈ks,m<ls⁻¹)->(∀l∈ls,l⁻¹=13)->(∀(t:Addr) (H':Hp),H t=none->Same H H'->LI H' t (ks.map λm=>aB ls m 4)->Q (.ref t) H')->GK vs H Q E
inductive Cg:List V->Hp->VK->XK->Prop
|m (p k:Addr) (ks:TM) (ls:TB):vs=[.ref p,.ref k]->LstAt LkAt H p ls->KL H k ks->ks⁻¹<=100->(∀m∈ks,m<ls⁻¹)->(∀l∈ls,lN l)->(∀(t:Addr) (H':Hp),H t=none->Same H H'->LstAt TupAt H' t (b8 ls ks)->Q (.ref t) H')->Cg vs H Q E
inductive GL:List V->Hp->VK->XK->Prop
|m (left:Int) (a:Addr) (x:TN):vs=[.int left,.ref a]->LI H a x->x⁻¹<=100->(∀(t:Addr) (H':Hp),H t=none->Same H H'->LstAt PrAt H' t (iA left x)->Q (.ref t) H')->GL vs H Q E
inductive GM:List V->Hp->VK->XK->Prop
|m (wd cols:Int):vs=[.int wd,.int cols]->1<=cols->cols<=6->(∀(t:Addr) (H':Hp),H t=none->Same H H'->LI H' t (dq wd cols)->Q (.ref t) H')->GM vs H Q E
inductive GN:List V->Hp->VK->XK->Prop
|m (p r:Addr) (m:Nat) (ls:TB) (rm:Int×Int):vs=[.ref p,.ref r,.int m]->LstAt LkAt H p ls->PrAt H r rm->m<ls⁻¹->(∀l∈ls,lN l)->(∀(t:Addr) (H':Hp),H t=none->Same H H'->PrAt H' t (rm.1+aB ls m 10*(rm.2-iX ls rm m),iX ls rm m)->Q (.ref t) H')->GN vs H Q E
def OJ{ls:TB}{n j:Nat}(hn:n<ls⁻¹)(l13:∀l∈ls,l⁻¹=13)(hj:j<13):(⇑(ls[n]'hn))[j]?=!.int (aB ls n j):=by
 let hl:=l13 _ (rJ hn);let ej:(ls[n]'hn)[j]?=!(ls[n]'hn)[j]'(by omega):=qB ();have:aB ls n j=(ls[n]'hn)[j]'(by omega):=by
  unfold aB;rw[qB hn,Option.getD_some,qW,ej];rfl
 rw[qH,ej,this];rfl
def Ci{ls:TB}{ks:TM}:(b8 ls ks)⁻¹=ks⁻¹:=by unfold b8;rw[qA]
theorem putAll_snoc:∀{ks:TM} {zs:TC} {sp:TC} {k:Nat} {z:Int×Int},ks⁻¹=zs⁻¹->putAll sp (ks++[k]) (zs++[z])=(putAll sp ks zs).set k z
 | [],[],sp,k,z,_=>by simp[putAll]
 | [],_::_,_,_,_,h=>by simp at h
 | _::_,[],_,_,_,h=>by simp at h
 | a :: ks, b :: zs, sp, k, z, h => by
   let h':ks⁻¹=zs⁻¹:=‹h›
   show putAll (sp.set a b) (ks++[k]) (zs++[z])=(putAll (sp.set a b) ks zs).set k z
   show putAll_snoc h'
def rz{bs:TC}{m:Nat}(h:m<bs⁻¹):bs[m]?=!aJ bs m:=by
 unfold aJ;rw[qB h];rfl
def fN{ks:TM}{i:Nat}(h:(⇑(ks.map λ(j:Nat)=>(j:Int)))[i]?=!x):∃m,ks[i]?=!m/\x=.int (m:Int):=by
 rw[qH,qH]at h;cases e:ks[i]? with
 | none=>rw[e]at h;cases h
 | some m=>rw[e]at h;show⟨m,O,(qZ h).symm⟩
def OK{ls:TB}{rm:Int×Int}{m:Nat}(e:ds[m]?=!dm):m7 ds ls rm m=if dm.k=Kd.aside then(rm.1+aB ls m 10*(rm.2-iX ls rm m),iX ls rm m)else rm:=by
 unfold m7;rw[e];show(if some dm.k=!Kd.aside then _ else _)=_
 by_cases ha:dm.k=.aside
 .rw[qX ha,qX (xH some ha)]
 .rw[qY ha,qY λz=>ha (qZ z)]
def pieceKinds:TV:=[s!"text",s!"head",s!"note"]
def GO{x:TN}{n:Nat}:fV ⇑x none (!(n:Int))=⇑(x.take n):=by
 unfold fV;rw[HT.sIx_none,HT.sIx_nat,qA,vS,Nat.sub_zero,<-vN]
 by_cases h:n<=x⁻¹
 .rw[uN h]
 .rw[Nat.min_eq_right (),yD,qI ()]
def GP(K:W.Frag)(hK:X.K=K)(hc:X.calm=true):eB X (.builtin "sum") (xb K):=by
 subst hK;show ir hc
end Sp0
namespace Bd
open L2 Bk Gen
def oY:TC->TA
 | []=>je
 | y::r=>eC (DQ (eC (tC (.int y.1)) (eC (tC (.int y.2)) je))) (oY r)
def Cj:Expr->Int->Bool
 | .Constant (.int a) _ _,y=>a == y
 | _,_=>false
def OL{y:Int}(h:Cj e y=true):∃j pos,e=.Constant (.int y) j pos:=by
 unfold Cj at h
 split at h
 .rw[beq_iff_eq.mp h];show⟨_,_,O⟩
 .cases h
def GQ:Expr->Int×Int->Bool
 | .Tuple [a,b] _ _,y=>Cj a y.1 && Cj b y.2
 | _,_=>false
def qa0{y:Int×Int}(h:GQ e y=true):∃es x p,e=.Tuple es x p/\PE X (.Tuple es x p) (DQ (eC (tC (.int y.1)) (eC (tC (.int y.2)) je))):=by
 unfold GQ at h
 split at h
 .rename_i a b x p;rw[uA]at h;let⟨_,_,rfl⟩:=OL h.1;let⟨_,_,rfl⟩:=OL h.2;show⟨_,_,_,O,bR (aO ao (aO ao bX (by rfl)) (by rfl))⟩
 .cases h
def se:TW->List (Int×Int)->Bool
 | [],[]=>true
 | e::es,y::ys=>GQ e y && se es ys
 | _,_=>false
theorem OM:∀{es:TW} {ys:TC},se es ys=true->PA X es (oY ys)
 | [],[],_=>bX
 | e :: es, y :: ys, h => by
   rw[se,uA]at h
   let⟨_,_,_,rfl,q⟩:=qa0 (X:=X) h.1
   show aO q (OM h.2) (by rfl)
def ON(ys:TC)(h:se es ys=true):PE X (.List es pos) (pW (oY ys)):=bf (OM h)
theorem OO:∀{ys:TC} {σ:St} {H:Hp} {Q:List V->Hp->Prop},Same H0 H->(∀(ts:TQ) (H':Hp),Same H H'->Paired (λt y=>PrAt H' t y) ts ys->Q ↑ts H')->oY ys σ H Q
 | [],σ,H,Q,s,h=>h [] H (Same.refl _) .nil
 | y :: r, σ, H, Q, s, h => by
   show⟨by show 2<=sizeLine;decide,λt ht=>?_⟩
   let s1:=ay ht (.tup [.int y.1,.int y.2])
   show OO (ys:=r) (s.trans s1) λts H' s2 p=>?_
   show h (t::ts) H' (s1.trans s2) (.cons (s2 _ _ ar) p)
def OP{ys:TC}(le:ys⁻¹<=100)(h:∀(l:Addr) (ts:TQ) (H':Hp),H l=none->Same H H'->H' l=!.lst ↑ts->Paired (PrAt H') ts ys->Q (.ref l) H'):pW (oY ys) σ H Q:=by
 show OO (H0:=H) (Q:=λxs H2=>xs⁻¹<=sizeLine/\∀l,H2 l=none->Q (.ref l) (af H2 l (.lst xs))) (Same.refl _) λts H' s p=>⟨?_,λl hl=>?_⟩
 .have:=qU p;rw[qA,this];show rK le {}
 .let s1:=ay hl (.lst ↑ts);show h l ts _ (s.free hl) (s.trans s1) ar (p.mono λ_ _ q=>s1 _ _ q)
end Bd
namespace K33
open L2 Bk Gen Gd Bd Fc
abbrev Ck:=top 122
def yd:TC:=[(0,99),(0,3),(0,9),(0,9),(1,9),(0,60),(20,200)]
def ye:TC:=[(1,6),(1,6),(1,4),(0,1),(10,90),(0,1)]
def ka:TC:=yd++ye
def LkTo(i:Nat)(l:TN):Prop:=l⁻¹=i/\∀(j:Nat) (v:Int) (b:Int×Int),l[j]?=!v->ka[j]?=!b->b.1<=v/\v<=b.2
def LkTo.more{i:Nat}{l:TN}{v:Int}{b:Int×Int}(h:LkTo i l)(e:ka[i]?=!b)(h1:b.1<=v)(h2:v<=b.2):LkTo (i+1) (l++[v]):=by
 show⟨by rw[qJ,h.1];rfl,λj x c hx hc=>?_⟩
 by_cases z:j<l⁻¹
 .rw[xE z]at hx;show h.2 j x c hx hc
 .rw[rL ()]at hx;let j0:j-l⁻¹=0:=by
   have:=(qE.mp hx).1;simp at this;omega
  rw[j0]at hx;let ev:v=x:=‹hx›
  let ej:j=i:=by have:=h.1;omega
  rw[ej,e]at hc;cases hc;subst ev;show⟨h1,h2⟩
def LkTo.at{l:TN}(h:LkTo 13 l)(j:Nat){b:Int×Int}(e:ka[j]?=!b):b.1<=l.getD j 0/\l.getD j 0<=b.2:=by
 let hj:j<l⁻¹:=by
  rw[h.1];show(qE.mp e).1
 rw[qW,qB hj];show h.2 j _ b (qB hj) e
def qa1:∀c∈ka,0<=c.1/\c.1<=c.2/\c.2<=200:={}
inductive GR:List V->Hp->VK->XK->Prop
|m (B st:Addr) (ds:List Nd):vs=[.ref B,.ref st]->cM (λb=>b≠st) H B ds->B≠st->ds⁻¹<=100->StOk H st->(∀(p:Addr) (ls:TB) (H':Hp),H p=none->LstAt LkAt H' p ls->ls⁻¹=ds⁻¹->(∀l∈ls,LkTo 13 l)->StOk H' st->Keep1 st H H'->Q (.ref p) H')->GR vs H Q E
def qa2:∃bU qb pa pb pc pd pe pf pg ph,cy Ck=.Assign [.Name "_law_bounds" pa] (.List bU pb) pc :: .Assign [.Name "_law_bounds" pd] (.BinOp (.Name "_law_bounds" pe) .Add (.List qb pf) pg) ph::(cy Ck).drop 2/\se bU yd=true/\se qb ye=true:=⟨_,_,_,_,_,_,_,_,_,_,O,by ac_rfl,by ac_rfl⟩
def qa3{ys:TC}{i:Nat}(le:ys⁻¹<=100)(h:∀(l:Addr) (ts:TQ) (H':Hp),H l=none->Same H H'->H' l=!.lst ↑ts->Paired (PrAt H') ts ys->u D (σ.set i (!.ref l)) H'):nV (mf (pW (oY ys)) (aY i)) u D σ H:=by
 show pW (oY ys) σ H (λv H1=>aY i v σ H1 (u D));show OP le h
def qa4(F:Fu K "_law_looks" Ck f fd)(T:bY mg)(bI:⋯ 1 "_law_take" ["_law_stream_here", "_law_most"] im):(~~~0) 2 f fd ["_law_book_here", "_law_stream_here"] GR:=by
 rcases F.go ["_law_book_here", "_law_stream_here", "_law_bounds", "_law_found", "_law_node", "_law_look", "_law_low", "_law_great"] with⟨B,st,ds,rfl,⟨ab,hB,nd⟩,OQ,le,S0,q⟩;let dR:ab⁻¹=ds⁻¹:=nd⁻¹;let⟨bU,qb,pa,pb,pc,pd,pe,pf,pg,ph,eb,qa5,qa6⟩:=qa2;rw[eb];show⟨_,(ax (sv 2 (ON yd qa5))
  (ax (sv 2 (aG uu '2' (ON ye qa6)))
  (ax (sv 3 (bf bX))
  (ax (fv (bc '0') (nv 4)
  (ax (sv 5 (bf bX))
  (ax (fv (bc '2') (jJ (by rfl) (bF (nv 6) (bF (nv 7) dZ)))
  (aA (cI (ap '5' (aG a9 '6' (cF bI hr (a2 '1' (aG a9 (aG c9 '7' '6') ao))))))))
  (aA (cI (ap '3' '5'))))))
  (aA (aH '3')))))),?_⟩
 show qa3 (ys:=yd) {} λb1 t1 H1 f1 s1 e1 p1=>?_
 show-⟨OP (ys:=ye) {} λb2 t2 H2 f2 s2 e2 p2=>?_⟩;let l1:=qU p1;let l2:=qU p2;let q1:yd⁻¹=7:=rfl;let q2:ye⁻¹=6:=rfl;show⟨b1,b2,_,_,O,O,s2 _ _ e1,e2,by rw[qA,qA];show xD (aW ()),λb hb=>?_⟩;let s3:=ay hb (.lst (↑t1++↑t2));let e3:af H2 b (.lst (↑t1++↑t2)) b=!.lst ↑(t1++t2):=by rw[ar,qD]
 let p3:Paired (PrAt (af H2 b (.lst (↑t1++↑t2)))) (t1++t2) ka:=vq (p1.mono λ_ _ q=>s3 _ _ (s2 _ _ q)) (p2.mono λ_ _ q=>s3 _ _ q);let dC:Same H _:=(s1.trans s2).trans s3;let fb:H b=none:=(s1.trans s2).free hb;generalize af H2 b (.lst (↑t1++↑t2))=H3 at s3 e3 p3 dC⊢;let S3:=S0.same dC;let OR:b≠st:=rV (cH S0.some.choose_spec fb);show⟨aT,λp hp=>?_⟩;let sp:=ay hp (.lst []);let Cm:af H3 p (.lst []) p=!.lst ↑([]:TQ):=ar;let Bu:H p=none:=dC.free hp;let OS:p≠st:=b7 S3.some hp;let bp:b≠p:=(b7 ⟨_,e3⟩ hp).symm;let iB:=dC.trans sp;let S4:=S3.same sp;let e4:=sp _ _ e3;let p4:Paired (PrAt (af H3 p (.lst []))) (t1++t2) ka:=p3.mono λ_ _ q=>sp _ _ q
 generalize af H3 p (.lst [])=H4 at sp Cm iB S4 e4 p4⊢;let yf:=iB _ _ hB;show-⟨B,O,⟨_,ag yf⟩,iK (xs:=↑ab) (λi σ H'=>StOk H' st/\Keep1 st H H'/\H' b=!.lst ↑(t1++t2)/\Paired (PrAt H') (t1++t2) ka/\(∃z4 z5 z6 z7,σ=[!.ref B,!.ref st,!.ref b,!.ref p,z4,z5,z6,z7])/\∃as ls,H' p=!.lst ↑as/\Paired (Zq (λb=>b≠st/\b≠p) H') as ls/\(∀l∈ls,LkTo 13 l)/\ls⁻¹=i) ⟨S4,iB.keep,e4,p4,⟨none,none,none,none,O⟩,[],[],Cm,.nil,(λl hl=>nomatch hl),O⟩ ?_ ?_ ?_⟩
 .ext i σ H' hi ⟨_,K3,_⟩;show ag (K3 _ _ OQ hB)
 .rintro i y σ H5 hy ⟨S5,K5,e5,p5,⟨z4,z5,z6,z7,rfl⟩,as,ls,yg,pr,cQ,ll⟩;let hi:i<ds⁻¹:=by
   have:=(qE.mp hy).1;rw[qA,dR]at this;show this
  let la:=qU pr;show⟨aT,λk hk=>?_⟩;let sk:=ay hk (.lst []);let GS:af H5 k (.lst []) k=!.lst ⇑([]:TN):=ar;let wl:k≠st:=b7 S5.some hk;let kp:k≠p:=b7 ⟨_,yg⟩ hk;let kb:k≠b:=b7 ⟨_,e5⟩ hk;let S6:=S5.same sk;let e6:=sk _ _ e5;let p6:Paired (PrAt (af H5 k (.lst []))) (t1++t2) ka:=p5.mono λ_ _ q=>sk _ _ q
  generalize af H5 k (.lst [])=H6 at sk GS S6 e6 p6⊢;show-⟨b,O,⟨_,ag e6⟩,iK (xs:=↑(t1++t2)) (λj σ H'=>StOk H' st/\f' st k H6 H'/\(∃z6 z7,σ=[!.ref B,!.ref st,!.ref b,!.ref p,!y,!.ref k,z6,z7])/\∃l:TN,H' k=!.lst ⇑l/\LkTo j l) ⟨S6,KeepN.refl,⟨z6,z7,O⟩,[],GS,O,λj v b h=>nomatch h⟩ ?_ ?_ ?_⟩
  .ext j σ H' hj ⟨_,K7,_⟩;show ag (K7 _ _ ⟨OR,rV kb⟩ e6)
  .ext j x σ H7 hx ⟨S7,K7,⟨z6,z7,rfl⟩,l,hl,lk⟩;let⟨a,ea,rfl⟩:=cJ hx;let⟨c,ec,hc⟩:=bW p6 ea;let ast:a≠st:=mY hc S6;let ak:a≠k:=λz=>by
    let eO:H6 a=!.tup [.int c.1,.int c.2]:=hc;rw[z,GS]at eO;cases eO
   let ha7:=K7 _ _ ⟨ast,ak⟩ hc;let⟨c0,c1,c2⟩:=qa1 c (qN ec);let j13:j<13:=(qE.mp ec).1;show⟨a,_,O,aC ha7,O,_,_,O,_,_,O,O,_,O,.inl ⟨O,_,ag hl⟩,_,O,_,O,_,O,_,O,_,_,O,O,_,_,O,O,st,c.2-c.1+1,O,S7,(),(),λr H8 r0 r1 S8 K8=>⟨_,_,O,O,?_⟩⟩;let jn:=K8 _ _ wl hl;show⟨k,_,_,O,O,jn,aW (by rw[qA];have:=lk.1;omega),?_⟩;let⟨sx,sy,es,ez⟩:=S8;show⟨⟨sx,sy,by rw[aM (rV wl)];show es,ez⟩,λx o n e=>by rw[aM n.2];show K8 _ _ n.1 (K7 _ _ n e),⟨_,_,O⟩,l++[c.1+r],by rw[ar,qD];rfl,lk.more ec () ()⟩
  .ext σ H7 ⟨S7,K7,⟨z6,z7,rfl⟩,l,hl,lk⟩;let qa7:LkTo 13 l:=by
    let e13:(↑(t1++t2))⁻¹=13:=by rw[qA,qJ];omega
    rw[e13]at lk;show lk
   let Bq:=K7 _ _ ⟨OS,rV kp⟩ (sk _ _ yg);let K57:Keep1 st H5 H7:=λx o n e=>K7 _ _ ⟨n,rV (b7 ⟨_,e⟩ hk)⟩ (sk _ _ e)
   show-⟨.inl ⟨O,_,ag Bq⟩,_,O,p,_,_,O,O,Bq,aW (by rw[qA];omega),?_⟩;let⟨sx,sy,es,ez⟩:=S7;let pk:KeepN (λb=>b≠st/\b≠p) H5 (af H7 p (.lst (↑as++[V.ref k]))):=λx o n e=>by rw[aM n.2];show K57 _ _ n.1 e
   show⟨⟨sx,sy,by rw[aM (rV OS)];show es,ez⟩,λx o n e=>?_,?_,?_,⟨_,_,_,_,O⟩,as++[k],ls++[l],by rw[ar,qD];rfl,?_,?_,by rw[qJ,ll];rfl⟩
   .rw[aM (cH e Bu)];show K57 _ _ n (K5 _ _ n e)
   .rw[aM bp];show K57 _ _ OR e5
   .show p5.mono λx y q=>pk _ _ ⟨mY q S5,λz=>?_⟩ q
    let q':H5 x=!.tup [.int y.1,.int y.2]:=q;rw[z,yg]at q';cases q'
   .show(pr.mono λx y q=>⟨q.1,pk _ _ q.1 q.2⟩).snoc ⟨⟨wl,kp⟩,by rw[aM kp];show hl⟩
   .intro l' hl';rcases rG.mp hl' with h | h
    .show cQ l' h
    .rw[rT.mp h];show qa7
 .ext σ H5 ⟨S5,K5,e5,p5,⟨z4,z5,z6,z7,rfl⟩,as,ls,yg,pr,cQ,ll⟩;show-⟨q p ls H5 Bu ⟨as,yg,pr.mono λ_ _ q=>q.2⟩ (by rw[ll,qA,dR]) cQ S5 K5⟩
abbrev OT:=top 124
def OU(x:Str):Bool:=decide (1<=x.cps.size/\x.cps.size<=4) && x.cps.all (·< 128)
def qa8:∀n∈List.range 2001,OU (Str.ofString (toString (n:Int)))=true:=by ac_rfl
def qa9{i:Int}(h0:0<=i)(h1:i<=2000):rq (Str.ofString (toString i)):=by
 let h:=qa8 i.toNat (xC.mpr ());rw[show((i.toNat:Nat):Int)=i by omega]at h;unfold OU at h;rw[uA,decide_eq_true_eq]at h;show⟨⟨(),h.2⟩,h.1⟩
def qba{i:Int}(h0:0<=i)(h1:i<=2000):i.natAbs.log2<1920:=by
 let h:i.natAbs<2 ^ 1920:=yB (show i.natAbs<=2000 by omega) (by ac_rfl)
 by_cases z:i.natAbs=0
 .rw[z];decide
 .show(Nat.log2_lt z).mpr h
def fO(ds:List Nd):TV:=(ds.filter λd=>d.nm≠cL).map (·.nm)
inductive GT:List V->Hp->VK->XK->Prop
|m (B st:Addr) (ds:List Nd):vs=[.ref B,.ref st]->cM (λb=>b≠st) H B ds->B≠st->ds⁻¹<=100->StOk H st->(∀(S:Addr) (sh:TK) (H':Hp),H S=none->LstAt ShAt H' S sh->(sh.map Prod.fst).Sublist (fO ds)->(∀p∈sh,rq p.2)->StOk H' st->Keep1 st H H'->Q (.ref S) H')->GT vs H Q E
def qbb(F:Fu K "_law_shown" OT f fd)(T:bY mg)(bI:⋯ 1 "_law_take" ["_law_stream_here", "_law_most"] im):(~~~0) 2 f fd ["_law_book_here", "_law_stream_here"] GT:=by
 rcases F.go ["_law_book_here", "_law_stream_here", "_law_names"] with⟨B,st,ds,rfl,⟨as,hp,nd⟩,OQ,le,S0,q⟩;let kW:as⁻¹=ds⁻¹:=nd⁻¹;show⟨_,(ax (sm 2 ["_law_node"] [] [] (bc '0') (nv 0) (h9 (tc jc (px (r:=bZ K) aF '0' ao) aU)) (px (r:=bZ K) aF '0' ao))
  (aA (aH (cm ["_law_name"] ["_law_stream_here"] [1] (bc '2') (nv 0) (h9 (tc gZ (cF bI hr (a2 '1' ao)) ao)) (bR (a2 '0' (iL Vr (by rfl) T.str WW (a1 (aG a9 ao (cF bI hr (a2 '1' ao))))))))))),?_⟩
 let zl:(↑as)⁻¹<sizeLine:=by rw[qA];show aW ()
 show-⟨B,O,⟨_,ag hp⟩,bB (λi ys ae H'=>H'=H/\ys=(fO (ds.take i)).map V.str/\∃z,ae=[z]) zl ⟨O,O,none,O⟩ ?_ ?_ ?_⟩
 .ext i ys ae H' hi ⟨rfl,rfl,_⟩;show ag hp
 .ext i x ys ae H' hx ⟨rfl,rfl,z,rfl⟩;let⟨a,ea,rfl⟩:=cJ hx;let⟨d,ed,na,m,s',ha,_⟩:=nd.at ea;show-⟨a,_,_,_,O,O,aC ha,O,O,_,O,?_⟩;let et:ds.take (i+1)=ds.take i++[d]:=by rw[qO,ed];rfl
  by_cases hd:d.nm=cL
  .rw[qR (show V.str d.nm=V.str (s!"")from xH V.str hd)];show bj ?_;show⟨O,?_,_,O⟩;rw[et];unfold fO;rw[rS];simp[hd]
  .rw[qV (show¬V.str d.nm=V.str (s!"")from λz=>hd (V.str.inj z))];show bK ?_;show-⟨a,_,_,_,O,O,aC ha,O,O,?_,_,O⟩;rw[et];unfold fO;rw[rS];simp[hd]
 ext ys ae H' ⟨rfl,rfl,z,rfl⟩ N hN;rw[qA,kW,yD];let fl:(fO ds)⁻¹<=100:=by unfold fO;rw[qA];show rK (yG _ _) le
 let s1:=ay hN (.lst ((fO ds).map V.str));let fE:af H' N (.lst ((fO ds).map V.str)) N=!.lst ((fO ds).map V.str):=ar;let nst:N≠st:=b7 S0.some hN;let S1:=S0.same s1;generalize af H' N (.lst ((fO ds).map V.str))=H1 at s1 fE S1⊢;show-⟨N,O,⟨_,ag fE⟩,bB (xs:=(fO ds).map V.str) (λi ys ae H2=>∃bs sh,ys=↑bs/\Paired (ShAt H2) bs sh/\(sh.map Prod.fst).Sublist ((fO ds).take i)/\(∀p∈sh,rq p.2)/\(∃z,ae=[z,!.ref st])/\StOk H2 st/\Keep1 st H1 H2) (by rw[qA];show aW ()) ⟨[],[],O,.nil,List.Sublist.refl _,(λp hp=>nomatch hp),⟨none,O⟩,S1,KeepN.refl⟩ ?_ ?_ ?_⟩
 .ext i ys ae H2 hi ⟨bs,sh,rfl,pb,sb,_,_,_,K2⟩;show ag (K2 _ _ nst fE)
 .rintro i x ys ae H2 hx ⟨bs,sh,rfl,pb,sb,wd,⟨z,rfl⟩,S2,K2⟩;rw[qH]at hx;let⟨nm,en,rfl⟩:=rP.mp hx;let et:(fO ds).take (i+1)=(fO ds).take i++[nm]:=by rw[qO,en];rfl
  show-⟨st,3,O,S2,{},{},λr H3 r0 r1 S3 K3=>⟨_,_,O,O,_,O,?_⟩⟩;let OV:Paired (ShAt H3) bs sh:=pb.mono λ_ _ q=>K3 _ _ (mY q S2) q
  show cz (λc=>?_) (λc=>?_)
  .show¬⟨st,2000,O,S3,{},{},λr4 H4 ot ou S4 K4=>⟨_,_,O,O,?_⟩⟩;show-⟨qba () (),aT,λt ht=>?_⟩;let sT:=ay ht (.tup [.str nm,.str (Str.ofString (toString (1+r4)))]);show⟨bs++[t],sh++[(nm,Str.ofString (toString (1+r4)))],by rw[qD];rfl,(OV.mono λ_ _ q=>sT _ _ (K4 _ _ (mY q S3) q)).snoc ar,?_,λp hp=>?_,⟨_,O⟩,S4.same sT,((K2.trans K3).trans K4).trans sT.keep⟩
   .rw[et,qD];show sb.append (List.Sublist.refl _)
   .rcases rG.mp hp with h | h
    .show wd p h
    .rw[rT.mp h];show qa9 () ()
  .show⟨bs,sh,O,OV,by rw[et];show sb.trans (List.sublist_append_left _ _),wd,⟨_,O⟩,S3,K2.trans K3⟩
 .ext ys ae H2 ⟨bs,sh,rfl,pb,sb,wd,_,S2,K2⟩ D hD;let sD:=ay hD (.lst ↑bs);let K02:Keep1 st H' H2:=s1.keep.trans K2;rw[qA,yD]at sb;show q D sh _ (K02.back (b7 S2.some hD) hD) ⟨bs,ar,pb.mono λ_ _ q=>sD _ _ q⟩ sb wd (S2.same sD) (K02.trans sD.keep)
end K33
namespace L2
open PyProof.Rows
section
variable{prog:Program}{w:World}{A:Around}{E:TH}{s:Shared}
variable{I:Addr}{fp wr:TQ}{n:Nat}{P:Nat->Value->Prop}{St:Nat->Heap->Prop}{R:Result->Shared->Prop}{kw:List (Str×Value)}
abbrev si(up:Bool):String:=cond up "max.loop" "min.loop"
def Cn:(toString "max" ++ toString ".loop" : String)=si true:={}
def Co:(toString "min" ++ toString ".loop" : String)=si false:={}
abbrev OW(up:Bool):CmpOp:=cond up .Gt .Lt
abbrev Cp(up:Bool):Str:=cond up "max" "min"
abbrev yh(up:Bool):String:=cond up "max" "min"
def GU:∀up,entryFor table (si up)=!cond up Builtin.«max.loop» Builtin.«min.loop»
 | true=>F.entry_max_loop
 | false=>F.entry_min_loop
def qbc:∀up,entryFor table (yh up)=!cond up Builtin.max Builtin.min
 | true=>F.entry_max
 | false=>F.entry_min
def qbd:∀up,builtinKind (yh up)=none
 | true=>F.kind_max
 | false=>F.kind_min
def qbe:∀up,plainId (yh up)=true
 | true=>F.plain_max
 | false=>F.plain_min
def qbf(a d:Value):∀up,argsOk (yh up) ⟨[a],[("default",d)]⟩
 | true=>by unfold argsOk;kernel_rfl
 | false=>by unfold argsOk;kernel_rfl
def Cq:∀up,plainId (si up)=true
 | true=>F.plain_max_loop
 | false=>F.plain_min_loop
theorem GV(up:Bool)(W:Walks prog w A.in1 I fp wr n P St)(bt:Nat->Nat->Bool)(yi:CmpOf prog w A.in1 (OW up) P bt)(S:Addr)(lO:S∉fp) :
  ∀(k j:Nat) (s:Shared) (vb:Value) (c:Nat),n-(j+1)=k->j+1<=n->St (j+1) s.heap->P (argBest bt j) vb->s.heap.get? S=!{cls:=.type "list",dict:=none,data:=.seq #[vb,vb] c,slots:=#[]} ->
   (∀v h' tk,P (argBest bt (n-1)) v->(∀b o,b∉wr->b≠S->s.heap.get? b=!o->h'.get? b=!o)->R (.ok (.ret v)) {s with heap:=h',toks:=tk}) ->
   codeAny (model prog w) A (.builtin (si up) ⟨[.ref I,.none,.ref S],kw⟩) R s
 | 0, j, s, vb, c, hk, hj, cp, Cr, hS, hR => by
   let lQ:j+1=n:=()
   let yj:S∉wr:=λh=>lO (W.sub _ h)
   let hp:=Cq up
   cases up
   all_goals show xX (GU _) (by
     rw[xL hp _]
     show wpAny _ A.in1 (seqItems? (.ref S)>>=_) _ _ s
     show qC (yN hS O (by
       show wpAny _ A.in1 (tryCatch (pyNext (.ref I)) _>>=_) _ _ s
       show qC (wpAny_tryCatch (W.done s _ _ (lQ ▸ cp) λh1 tk e7=>?_));let ng:=e7 S _ yj hS
       show wpAny _ A.in1 (updateSeq S (λ_=>#[])>>=_) _ _ _
       show qC (u8 ng O (qC (wpAny_letGo (qL (hR vb _ tk (by rw[<-lQ];show Cr) λb o iY lR e=>(yA _ _ (rV lR)).trans (e7 b o iY e)))))))))
 | k + 1, j, s, vb, c, hk, hj, cp, Cr, hS, hR => by
   let aZ:j+1<n:=()
   let yj:S∉wr:=λh=>lO (W.sub _ h)
   let hp:=Cq up
   cases up
   all_goals show xX (GU _) (by
     rw[xL hp _]
     show wpAny _ A.in1 (seqItems? (.ref S)>>=_) _ _ s
     refine qC (yN hS O (by
       show wpAny _ A.in1 (tryCatch (pyNext (.ref I)) _>>=_) _ _ s
       show qC (wpAny_tryCatch (W.item (j+1) s _ _ aZ cp λv h1 tk hP nh e7=>?_));let ng:=e7 S _ yj hS
       show wpAny _ A.in1 (tryCatch (holding [v,v] (richCompare _ v vb>>=_)) _>>=_) _ _ _
       show qC (wpAny_tryCatch (xY (qC (yi (j+1) (argBest bt j) v vb _ _ _ hP Cr (qC (xY (yL (qC (wpAny_letGo (qL ?_))))))))))
       cases hb:bt (j+1) (argBest bt j)with
       | true =>
         let GW:P (argBest bt (j+1)) v:=by simp only[argBest,hb,if_true];show hP
         simp only[if_true];show qC (u8 ng O (qC (wpAny_letGo ?_)));first | rw[Cn] | rw[Co]
         show qL ⟨yU hp _,GV _ W bt yi S lO k (j+1) _ v _ () aZ (W.frame _ _ _ nh λb GX o e=>(yA _ _ (λz:S=b=>lO (by rw[z];show GX))).trans e) GW (yF _ ng O) λv2 h2 yk yl gC=>?_⟩
         show hR v2 h2 yk yl λb o iY lR e=>gC b o iY lR ((yA _ _ (rV lR)).trans (e7 b o iY e))
       | false =>
         let GW:P (argBest bt (j+1)) vb:=by simp only[argBest,hb,Bool.false_eq_true,if_false];show Cr
         simp only[Bool.false_eq_true,if_false];show qC (wpAny_letGo ?_);first | rw[Cn] | rw[Co]
         show qL ⟨yU hp _,GV _ W bt yi S lO k (j+1) _ vb c () aZ nh GW ng λv2 h2 yk yl gC=>hR v2 h2 yk yl λb o iY lR e=>gC b o iY lR (e7 b o iY e)⟩)))
def qbg(up:Bool)(W:Walks prog w A.in1 I fp wr n P St)(bt:Nat->Nat->Bool)(yi:CmpOf prog w A.in1 (OW up) P bt)(S:Addr)(lO:S∉fp){c:Nat}(cp:St 0 s.heap)(hS:s.heap.get? S=!{cls:=.type "list",dict:=none,data:=.seq #[] c,slots:=#[]})(hR:0<n->∀v h' tk,P (argBest bt (n-1)) v->(∀b o,b∉wr->b≠S->s.heap.get? b=!o->h'.get? b=!o)->R (.ok (.ret v)) {s with heap:=h',toks:=tk})(hE:n=0->∀h' tk,(∀b o,b∉wr->b≠S->s.heap.get? b=!o->h'.get? b=!o)->R (.ok (.ret d)) {s with heap:=h',toks:=tk}) :
  codeAny (model prog w) A (.builtin (si up) ⟨[.ref I,.none,.ref S],[("default",d)]⟩) R s:=by
 let yj:S∉wr:=λh=>lO (W.sub _ h)
 let hp:=Cq up;cases up
 all_goals show xX (GU _) (by
  rw[xL hp _];show wpAny _ A.in1 (seqItems? (.ref S)>>=_) _ _ s;show qC (yN hS O (by
   show wpAny _ A.in1 (tryCatch (pyNext (.ref I)) _>>=_) _ _ s
   by_cases hn:0<n
   .show qC (wpAny_tryCatch (W.item 0 s _ _ hn cp λv h1 tk hP nh e7=>?_));let ng:=e7 S _ yj hS;show wpAny _ A.in1 (updateSeq S (λ_=>#[v,v])>>=_) _ _ _;show qC (u8 ng O ?_);first | rw[Cn] | rw[Co]
    show qL ⟨yU hp _,GV _ W bt yi S lO _ 0 _ v _ O hn (W.frame _ _ _ nh λb GX o e=>(yA _ _ (λz:S=b=>lO (by rw[z];show GX))).trans e) hP (yF _ ng O) λv2 h2 yk yl gC=>?_⟩;show hR hn v2 h2 yk yl λb o iY lR e=>gC b o iY lR ((yA _ _ (rV lR)).trans (e7 b o iY e))
   .let h0:n=0:=()
    show qC (wpAny_tryCatch (W.done s _ _ (h0 ▸ cp) λh1 tk e7=>?_));show qC (wpAny_rule (qL (hE h0 h1 tk λb o iY _ e=>e7 b o iY e))))))
end
def tMM(up:Bool)(K:W.Frag)(ta:TA)(td:TE):TE:=λσ H Q=>ta σ H λvs H1=>td σ H1 λy H2=>∃(a:Addr) (ns:TN) (r:V),vs=[.ref a]/\SqL K H2 a ⇑ns/\(ns=[]->y=r)/\(ns≠[]->∃m,m∈ns/\r=.int m/\∀z∈ns,cond up (z<=m) (m<=z))/\Q r H2
section
variable{X:Cx}{e d:Expr}{ta:TA}{td:TE}{p kp pos:Pos}
def ym(up:Bool)(hc:X.calm=true)(hg:Gl X (Cp up))(hm:X.mg (Cp up)=none)(hv:bootBuiltins (Cp up)=!.builtin (yh up))(ha:PA X [e] ta)(hd:PE X d td)(he:starEach [e] X.env=[(false,eval e X.env)]:=by rfl):PE X (.Call (.Name (Cp up) p) [e] [⟨!"default",d,kp⟩] pos) (tMM up X.K ta td):=by
 intro aa s σ H Q I h;show uL (jG I hg hm hv ?_ (by cases up<;>decide) (by cases up<;>decide));show callWith_kw (aR (ha pos aa s σ H _ I h) λus s1 ⟨vs,H1,I1,r1,q1⟩=>kws_cons (aR (hd aa s1 σ H1 _ I1 q1) λdv s2 ⟨y,H2,I2,ry,a,ns,rr,e1,hp,q0,qn,q⟩=>kws_nil ?_)) (by rw[he];rfl) (by rw[he];rfl);subst e1;let⟨u,rfl,rx⟩:=vals1 r1;cases rx;let⟨ah,rv,pl,hz⟩:=I2.list hp;let hh:=I2.ok.hd hc;let lp:a< ~~~s2:=by
  let⟨o,e,_⟩:=pl.isList;show qK e
 let hn:ah.toArray.size=ns⁻¹:=by rw[rC,<-rv⁻¹,qA]
 cases up
 all_goals
  show YM (qbd _) (qbe _) (qbc _) (qbf _ _ _) ?_;show wpAny _ X.A.in1 (Builtin.Builtins.bindParams _ ["key", "default"] 0 ⟨[],[("default",dv)]⟩>>=_) _ _ s2;show qC (wpAny_of_eq (show _=pure [none,!dv]from rfl) (qC (qL (qC (xU pl.isList (qC (yY ?_)))))))
  first | rw[Cn] | rw[Co]
  show qL ⟨yU (Cq _) _,qbg _ (Walks.list ‹hh› (~~~s2) a (rD lp) ah.toArray) _ (by first | show CmpOf.ints_gt (λi=>ns.getD i 0) (lA rv) | show CmpOf.ints_lt (λi=>ns.getD i 0) (lA rv)) (s2.heap.push {cls:=.type "list_iterator",data:=.fields #[.ref a,.int 0 0]}).objs.size (λz=>?_) ?_ (qQ _ O) (λh0 v h' tk hP k=>?_) (λh0 h' tk k=>?_)⟩
  .rw[rM]at z;rcases qM.mp z with z | z
   .show qT z (Nat.succ_ne_self _)
   .let z': ~~~s2+1=a:=‹z›
    show qT lp (by rw[<-z'];show xI (yR _))
  .show⟨⟨_,qF _ (qQ _ O),O,O⟩,(pl.isList.push _).push _⟩
  .let⟨t,rfl⟩:=lA rv _ _ hP;let⟨m,BA,rfl,le⟩:=qn (λz=>by rw[hn,z]at h0;cases h0)
   first | rw[Nh hn BA le] | rw[BV hn BA le]
   show⟨.int m,H2,I2.kept λb o e=>k b o ‹rD (qK e)› (λz=>?_) (qF _ (qF _ e)),⟨t,O⟩,q⟩;have:=qK e;rw[z,rM]at this;show qT this (xI (yR _))
  .rw[hn]at h0;let e0:=q0 (rR h0);subst e0;show⟨y,H2,I2.kept λb o e=>k b o ‹rD (qK e)› (λz=>?_) (qF _ (qF _ e)),ry,q⟩;have:=qK e;rw[z,rM]at this;show qT this (xI (yR _))
end
end L2
namespace L2
def OX{as:TQ}:fV ↑as none (!-1)=↑as.dropLast:=by
 unfold fV;rw[HT.sIx_none,show HT.sIx (↑as)⁻¹ (↑as)⁻¹ (!-1)=(↑as)⁻¹-1 from by
  show(if(-1:Int)<0 then((-1:Int)+(((↑as)⁻¹:Nat):Int)).toNat else min (-1:Int).toNat (↑as)⁻¹)=_;rw[qX {}];omega]
 rw[vS,qA,Nat.sub_zero,<-vN,List.dropLast_eq_take]
end L2
namespace K33
open L2 Bk Gen Gd
open Bd
open Bw
abbrev OY:=top 44
abbrev OZ:=top 45
abbrev O0:=top 38
abbrev O1:=top 46
abbrev O2:=top 47
abbrev O3:=top 48
abbrev GY:=top 50
abbrev O4:=top 49
abbrev O5:=top 51
def O6:iV (s!"inset") 3:=⟨by ac_rfl,by ac_rfl⟩
def BV:iV (s!"least") 5:=⟨by ac_rfl,by ac_rfl⟩
def qbh:iV (s!"most") 6:=⟨by ac_rfl,by ac_rfl⟩
def GZ:iV (s!"columns") 7:=⟨by ac_rfl,by ac_rfl⟩
def O7:iV (s!"span") 8:=⟨by ac_rfl,by ac_rfl⟩
def He:iV (s!"wide") 11:=⟨by ac_rfl,by ac_rfl⟩
def sj(u v:Int):(if v>u then v else u)=max u v:=by
 by_cases z:u<v
 .rw[qX z];omega
 .rw[qY z];omega
def Hf(u v:Int):(if v<u then v else u)=min u v:=by
 by_cases z:v<u
 .rw[qX z];omega
 .rw[qY z];omega
def qbi(F:Fu K "with_insets" OY f fd)(cA:⋯ 1 "look_at" ["looks", "node", "word"] fL):(~~~0) 2 f fd ["looks", "node", "low", "great"] FO:=by
 rcases F.go ["looks", "node", "low", "great", "both"] with⟨p,n,a,b,ls,rfl,lk,hn,cZ,q⟩;show⟨_,(ax (sv 4 (aG eR ao (cF cA hr (a3 '0' '1' aU))))
  (aA (aH (bR (a2 (aG a9 '2' '4') (aG a9 '3' '4')))))),?_⟩
 show¬⟨p,n,3,_,ls,O,lk,hn,cZ,{},O6,_,_,O,O,.inl ⟨{},{}⟩,_,O,_,O,_,_,O,O,_,O,_,O,_,_,O,O,aT,λt ht=>?_⟩;show q t _ (ay ht _) ar
def qbj(F:Fu K "units_low" OZ f fd)(T:bY mg)(U:NumsB mg):(~~~0) 1 f fd ["units"] Gb:=by
 rcases F.go ["units"] with⟨p,r,rfl,⟨as,hp,pr⟩,ne,oZ,q⟩;let⟨_,Hg⟩:=U.uw;let la:=qU pr;show⟨_,(aA (aH (cb (oK (by rfl)) T.max dU (a1 (cm ["unit"] [] [] (bc '0') (nv 0) br (px (r:=bZ K) aF '0' (gi Hg))))))),_,O,p,O,⟨_,ag hp⟩,bB (xs:=↑as) (λi ys ae H'=>H'=H/\ys=⇑((r.take i).map Un.w)/\∃z,ae=[z]) (by rw[qA];show aW ()) ⟨O,O,none,O⟩ ?_ ?_ ?_⟩
 .ext i ys ae H' hi ⟨rfl,rfl,_⟩;show ag hp
 .ext i y ys ae H' hy ⟨rfl,rfl,z,rfl⟩;let⟨c,ec,rfl⟩:=cJ hy;let⟨u,eu,nl,hc,_⟩:=bW pr ec;show-⟨c,_,_,_,O,O,aC hc,O,O,?_,_,O⟩;rw[qO,eu,qD,qD];rfl
 .ext ys ae H' ⟨rfl,rfl,_⟩ D hD;rw[qI (by rw[qA];omega)];show⟨D,_,lD r,O,ag ar,jT ‹ne›,jU,?_⟩;show q _ (ay hD _)
def qbk(F:Fu K "row_length" O0 f fd)(T:bY mg)(U:NumsB mg):(~~~0) 1 f fd ["units"] BU:=by
 rcases F.go ["units"] with⟨p,r,rfl,⟨as,hp,pr⟩,ne,oZ,q⟩;let⟨_,Hg⟩:=U.uw;let⟨_,qbl⟩:=U.ub;let la:=qU pr;show⟨_,(aA (aH (aG a9 (cb (ir (by rfl)) T.sum fJ (a1 (cm ["unit"] [] [] (bc '0') (nv 0) br (px (r:=bZ K) aF '0' (gi Hg))))) (cb (ir (by rfl)) T.sum fJ (a1 (cm ["unit"] [] [] (bc (jL mw '0' oa (hG (dJ dL ao)))) (nv 0) br (px (r:=bZ K) aF '0' (gi qbl)))))))),_,O,p,O,⟨_,ag hp⟩,bB (xs:=↑as) (λi ys ae H'=>H'=H/\ys=⇑((r.take i).map Un.w)/\∃z,ae=[z]) (by rw[qA];show aW ()) ⟨O,O,none,O⟩ ?_ ?_ ?_⟩
 .ext i ys ae H' hi ⟨rfl,rfl,_⟩;show ag hp
 .ext i y ys ae H' hy ⟨rfl,rfl,z,rfl⟩;let⟨c,ec,rfl⟩:=cJ hy;let⟨u,eu,nl,hc,_⟩:=bW pr ec;show-⟨c,_,_,_,O,O,aC hc,O,O,?_,_,O⟩;rw[qO,eu,qD,qD];rfl
 ext ys ae H' ⟨rfl,rfl,_⟩ D hD;rw[qI (by rw[qA];omega)];let sD:=ay hD (.lst ⇑(r.map Un.w));show⟨D,_,O,ag ar,?_⟩;generalize af H' D (.lst ⇑(r.map Un.w))=H1 at sD⊢;show¬⟨_,O,p,_,O,ag (sD _ _ hp),λS hS=>?_⟩;rw[OX];let sS:=ay hS (.lst ↑as.dropLast);let gK:af H1 S (.lst ↑as.dropLast) S=!.lst ↑as.dropLast:=ar;let s2:=sD.trans sS;generalize af H1 S (.lst ↑as.dropLast)=H2 at sS gK s2⊢;show⟨S,O,⟨_,ag gK⟩,bB (xs:=↑as.dropLast) (λi ys ae H'=>H'=H2/\ys=⇑((r.dropLast.take i).map Un.b)/\∃z,ae=[z]) (by rw[qA,List.length_dropLast];show aW ()) ⟨O,O,none,O⟩ ?_ ?_ ?_⟩
 .ext i ys ae H3 hi ⟨rfl,rfl,_⟩;show ag gK
 .ext i y ys ae H3 hy ⟨rfl,rfl,z,rfl⟩;let⟨c,gx,rfl⟩:=cJ hy;let il:i<as⁻¹-1:=by
   have:=(qE.mp gx).1;rw[List.length_dropLast]at this;show this
  let ec2:as[i]?=!c:=by
   rw[List.dropLast_eq_take,List.getElem?_take_of_lt il]at gx;show gx
  let⟨u,eu,nl,hc,_⟩:=bW pr ec2;let eu2:r.dropLast[i]?=!u:=by rw[List.dropLast_eq_take,List.getElem?_take_of_lt ()];show eu
  show-⟨c,_,_,_,O,O,aC (s2 _ _ hc),O,O,?_,_,O⟩;rw[qO,eu2,qD,qD];rfl
 ext ys ae H3 ⟨rfl,rfl,_⟩ D2 ju;rw[qI (by rw[qA,List.length_dropLast,List.length_dropLast];omega)];show⟨D2,_,O,ag ar,_,_,O,O,?_⟩;show q _ (s2.trans (ay ju _))
def yn{bs:TC}{m:Nat}(h:m<bs⁻¹):bs[m]?=!aJ bs m:=by
 unfold aJ;rw[qB h];rfl
def qbm(F:Fu K "floor_of" O1 f fd)(T:bY mg)(U:NumsB mg)(cA:⋯ 1 "look_at" ["looks", "node", "word"] fL):(~~~0) 2 f fd ["looks", "bounds", "one"] (jp cD):=by
 rcases F.go ["looks", "bounds", "one"] with⟨p,L,m,ls,bs,rfl,lk,⟨as,hL,pr⟩,ml,mb,cZ,q⟩;let⟨_,Cs⟩:=U.low;let⟨a,ea,ha⟩:=dP pr (yn mb);show⟨_,(aA (aH (cb (kH (by rfl)) T.max dU (a2 (px aF (px aK '1' '2') (gi Cs)) (cF cA hr (a3 '0' '2' aU)))))),_,O,_,O,L,_,_,_,O,O,ag hL,aX ea,a,_,_,_,O,O,aC ha,O,_,O,_,O,p,m,5,_,ls,O,lk,ml,cZ,{},BV,_,_,O,?_⟩;rw[sj];show q
def qbn(F:Fu K "roof_of" O2 f fd)(T:bY mg)(cA:⋯ 1 "look_at" ["looks", "node", "word"] fL)(o7:⋯ 2 "floor_of" ["looks", "bounds", "one"] (jp cD)):(~~~0) 3 f fd ["looks", "bounds", "one"] (jp ge):=by
 rcases F.go ["looks", "bounds", "one"] with⟨p,L,m,ls,bs,rfl,lk,lb,ml,mb,cZ,q⟩;show⟨_,(aA (aH (cb (kH (by rfl)) T.max dU (a2 (cF cA hr (a3 '0' '2' aU)) (cF o7 hr (a3 '0' '1' '2')))))),_,O,_,O,p,m,6,_,ls,O,lk,ml,cZ,{},qbh,_,O,_,O,_,O,p,L,m,ls,bs,O,lk,lb,ml,mb,cZ,_,_,O,?_⟩;rw[sj];show q
def qbo(F:Fu K "wish_of" O3 f fd)(T:bY mg)(U:NumsB mg)(o7:⋯ 2 "floor_of" ["looks", "bounds", "one"] (jp cD))(Hh:⋯ 3 "roof_of" ["looks", "bounds", "one"] (jp ge)):(~~~0) 4 f fd ["looks", "bounds", "one"] (jp mM):=by
 rcases F.go ["looks", "bounds", "one"] with⟨p,L,m,ls,bs,rfl,lk,⟨as,hL,pr⟩,ml,mb,cZ,q⟩;let⟨_,Ct⟩:=U.great;let⟨a,ea,ha⟩:=dP pr (yn mb);show⟨_,(aA (aH (cb (tZ (by rfl)) T.min mK (a2 (cb (kH (by rfl)) T.max dU (a2 (px aF (px aK '1' '2') (gi Ct)) (cF o7 hr (a3 '0' '1' '2')))) (cF Hh hr (a3 '0' '1' '2')))))),_,O,_,O,L,_,_,_,O,O,ag hL,aX ea,a,_,_,_,O,O,aC ha,O,_,O,_,O,_,O,p,L,m,ls,bs,O,lk,⟨as,hL,pr⟩,ml,mb,cZ,_,_,O,_,O,_,O,_,O,p,L,m,ls,bs,O,lk,⟨as,hL,pr⟩,ml,mb,cZ,_,_,O,?_⟩;rw[sj,Hf];show q
def qbp(F:Fu K "rounded_up" GY f fd):(~~~0) 1 f fd ["length", "parts"] FP:=by
 rcases F.go ["length", "parts"] with⟨l,sp,rfl,s1,s6,q⟩;show⟨_,(aA (aH (dJ dL (aG vd (dJ dL '0') '1')))),?_⟩;show¬⟨_,O,_,_,O,O,⟨(),()⟩,_,O,q⟩
def qbq(F:Fu K "grid_width" O4 f fd)(T:bY mg)(cA:⋯ 1 "look_at" ["looks", "node", "word"] fL)(Hi:⋯ 1 "rounded_up" ["length", "parts"] FP):(~~~0) 2 f fd ["looks", "columns", "held", "wides"] FQ:=by
 rcases F.go ["looks", "columns", "held", "wides", "needed"] with⟨p,a,b,c,ls,zs,rfl,lk,ha,hb,ne,oZ,c1,c6,cQ,zl,q⟩;let cZ:∀l∈ls,l⁻¹=13:=λl hl=>(cQ l hl).len
 show⟨_,(ax (sm 4 ["one", "wide"] ["columns", "looks"] [1,0] (FC (by rfl) T.zip (a2 '2' '3')) (mH K (n:=2) (by rfl) (by rfl) (bF (nv 0) (bF (nv 1) dZ))) br (cF Hi hr (a2 '1' (cb (tZ (by rfl)) T.min mK (a2 (cF cA hr (a3 '3' '0' aU)) '2')))))
  (aA (aH (aG eR '1' (cb (oK (by rfl)) T.max dU (a1 '4')))))),?_⟩
 let lz:(zs.map λx=>V.int ((x.1:Nat):Int))⁻¹=(zs.map λx=>V.int x.2)⁻¹:=by rw[qA,qA]
 show¬⟨a,b,O,⟨_,ag ha⟩,⟨_,ag hb⟩,FF (xs:=zs.map λx=>V.int ((x.1:Nat):Int)) (ys:=zs.map λx=>V.int x.2) lz (λi ys ae H'=>Same H H'/\ys=⇑((zs.take i).map λx=>dA x.2 (min (aB ls x.1 8) c))/\∃z1 z2,ae=[z1,z2,!.int c,!.ref p]) (by rw[qA];show aW ()) ⟨Same.refl _,O,none,none,O⟩ ?_ ?_ ?_⟩
 .ext i ys ae H' hi ⟨s1,rfl,_⟩;show⟨ag (s1 _ _ ha),ag (s1 _ _ hb)⟩
 .ext i x y ys ae H' T' hx hy hT ⟨s1,rfl,z1,z2,rfl⟩;rw[qH]at hx hy;let⟨z,ez,rfl⟩:=rP.mp hx;rw[ez]at hy;obtain rfl:=(qZ hy).symm;let zm:=zl z (qN ez);let s2:=s1.trans (ay hT (.tup [.int ((z.1:Nat):Int),.int z.2]));let fj:af H' T' (.tup [.int ((z.1:Nat):Int),.int z.2]) T'=!.tup [.int ((z.1:Nat):Int),.int z.2]:=ar;generalize af H' T' (.tup [.int ((z.1:Nat):Int),.int z.2])=H2 at s2 fj⊢;show⟨T',_,O,aC fj,O,_,_,O,_,_,O,O,?_⟩;let ok:=cQ _ (rJ zm);let ev:aB ls z.1 8=ls[z.1].getD 8 0:=by
   unfold aB;rw[qB zm];rfl
  show¬⟨_,O,p,z.1,8,_,ls,O,dg s2 lk,zm,cZ,{},O7,_,O,_,_,O,z.2,min (aB ls z.1 8) c,by show[V.int z.2,V.int (if c<aB ls z.1 8 then c else aB ls z.1 8)]=_;rw[Hf],by have:=ok.span;omega,by have:=ok.span;omega,s2,?_,_,_,O⟩;rw[qO,ez,qD,qD];rfl
 .ext ys ae H' ⟨s1,rfl,z1,z2,rfl⟩ D hD;rw[qI (by rw[qA];show qG _)];show¬⟨D,_,bC (zs.map λx=>dA x.2 (min (aB ls x.1 8) c)),O,ag ar,jT ‹ne›,jU,_,_,O,O,.inl ⟨(),()⟩,?_⟩;show q _ (s1.trans (ay hD _))
def qbr(F:Fu K "bounds_in_pile" O5 f fd)(U:NumsB mg)(cA:⋯ 1 "look_at" ["looks", "node", "word"] fL):(~~~0) 2 f fd ["book", "looks", "bounds", "one"] FR:=by
 rcases F.go ["book", "looks", "bounds", "one"] with⟨B,p,L,m,ds,ls,bs,rfl,⟨bs',hB,nd⟩,lk,⟨as,hL,pr⟩,md,ml,mb,cZ,q⟩;let⟨_,dW⟩:=U.kind;let⟨c,ec,nc⟩:=nd.get (qB md);let⟨m',s',hc,_⟩:=nc.ex;show⟨_,(ax (ba (tc bv (px aF (px aK '0' '3') (gi dW)) aU) (aA (aH (bR (a2 (cF cA hr (a3 '1' '3' aU)) (cF cA hr (a3 '1' '3' aU)))))) bi)
  (aA (aH (px aK '2' '3')))),?_⟩
 show¬⟨B,_,_,_,O,O,ag hB,aX ec,c,_,_,_,O,O,aC hc,O,O,_,O,?_⟩;rw[show decide (V.str ds[m].k.s=V.str (s!"aside"))=decide (ds[m].k=.aside)from bH ds[m].k .aside];let ek:ds[m]?.map Nd.k=!ds[m].k:=by rw[qB md];rfl
 by_cases hk:ds[m].k=.aside
 .show eS hk ⟨_,O,_,O,p,m,11,_,ls,O,lk,ml,cZ,{},He,_,O,_,O,p,m,11,_,ls,O,lk,ml,cZ,{},He,aT,λt ht=>?_⟩;show q t _ (ay ht _) ?_;unfold cX;rw[ek,hk,qX O];show ar
 .show dM hk ?_;let⟨a,ea,ha⟩:=dP pr (yn mb);show¬⟨L,_,_,_,O,O,ag hL,aX ea,?_⟩;show q a _ (Same.refl _) ?_;unfold cX;rw[ek,qY (λz=>hk (qZ z))];show ha
abbrev O8:=top 43
abbrev O9:=top 42
def qbs{ls:TB}{bs:TC}{n:Nat}(h:ds[n]?=!d)(hk:d.k=.text\/d.k=.head\/d.k=.note):fe ds ls us bs n=(lD (bg us n)+2*aB ls n 3,iU (bg us n)+2*aB ls n 3):=by
 unfold fe jo;rw[h];rcases hk with e | e | e<;>simp only[e]<;>rfl
def qbt{ls:TB}{bs:TC}{n:Nat}(h:ds[n]?=!d)(hk:d.k=.picture):fe ds ls us bs n=(iT d,iT d):=by
 unfold fe;rw[h];simp only[hk,if_true]
def qbu{ls:TB}{bs:TC}{n:Nat}(h:ds[n]?=!d)(hk:d.k=.shelf):fe ds ls us bs n=(((aw ds n).map (cD ls bs)).sum+2*aB ls n 3,((aw ds n).map (mM ls bs)).sum+2*aB ls n 3):=by
 unfold fe jo;rw[h];simp only[hk];rfl
def qbv{ls:TB}{bs:TC}{n:Nat}(h:ds[n]?=!d)(hk:d.k=.grid):fe ds ls us bs n=(lB ls (aB ls n 7) ((aw ds n).map λm=>(m,(aJ bs m).1))+2*aB ls n 3,lB ls (aB ls n 7) ((aw ds n).map λm=>(m,(aJ bs m).2))+2*aB ls n 3):=by
 unfold fe jo;rw[h];simp only[hk];rfl
def qbw{ls:TB}{bs:TC}{n:Nat}(h:ds[n]?=!d)(h1:d.k≠.picture)(h2:¬(d.k=.text\/d.k=.head\/d.k=.note))(h3:d.k≠.shelf)(h4:d.k≠.grid) :
  fe ds ls us bs n=(bC ((aw ds n).map λm=>(cX ds ls bs m).1)+2*aB ls n 3,bC ((aw ds n).map λm=>(cX ds ls bs m).2)+2*aB ls n 3):=by
 unfold fe jo;rw[h];cases e:d.k<;>simp_all
def yo{n i:Nat}(h:(⇑((aw ds n).map λ(j:Nat)=>(j:Int)))[i]?=!x):∃m,(aw ds n)[i]?=!m/\x=.int (m:Nat):=by
 rw[qH,qH]at h;cases e:(aw ds n)[i]? with
 | none=>rw[e]at h;cases h
 | some m=>rw[e]at h;show⟨m,O,(qZ h).symm⟩
def qbx(F:Fu K "node_bounds" O8 f fd)(T:bY mg)(U:NumsB mg)(lH:mg "KINDS_OF_PIECES" = !.ref gJ)(KP:∀H:Hp,SqT K H gJ (pieceKinds.map V.str))(cA:⋯ 1 "look_at" ["looks", "node", "word"] fL)(Cu:⋯ 2 "with_insets" ["looks", "node", "low", "great"] FO)(qby:⋯ 1 "units_low" ["units"] Gb)(Hj:⋯ 1 "row_length" ["units"] BU)(jr:⋯ 1 "holds" ["book", "node"] mR)(o7:⋯ 2 "floor_of" ["looks", "bounds", "one"] (jp cD))(qbz:⋯ 4 "wish_of" ["looks", "bounds", "one"] (jp mM))(O':⋯ 2 "grid_width" ["looks", "columns", "held", "wides"] FQ)(qbA:⋯ 2 "bounds_in_pile" ["book", "looks", "bounds", "one"] FR) :
  (~~~0) 5 f fd ["book", "looks", "units", "bounds", "node"] Gc:=by
 rcases F.go ["book", "looks", "units", "bounds", "node", "kind", "held", "low", "columns", "inner"] with⟨B,p,Un,L,n,ds,ls,us,bs,rfl,I,lb,yp,hn,cx,q⟩;let⟨_,dW⟩:=U.kind;let⟨_,mU⟩:=U.stuff;let⟨_,Cs⟩:=U.low;let⟨_,Ct⟩:=U.great;let cZ:∀l∈ls,l⁻¹=13:=λl hl=>(cx.lk l hl).len
 let nl:n<ls⁻¹:=by rw[cx.ll];show hn
 let le:=cx.le;let⟨ab,hB,nd⟩:=I.bk;let ed:ds[n]?=!ds[n]:=qB hn;let⟨c,ec,nc⟩:=nd.get ed;let⟨m',s',hc,_,_,_,mV,bu,fi⟩:=nc.ex;generalize ds[n]=d at ed hc fi nc;show⟨_,(ax (sv 5 (px aF (px aK '0' '4') (gi dW)))
  (ax (ba (tc bv '5' aU) (aA (aH (bR (a2 (px aK (px aF (px aK '0' '4') (gi mU)) ao) (px aK (px aF (px aK '0' '4') (gi mU)) ao))))) bi)
  (ax (ba (tc DX '5' (gr lH)) (aA (aH (cF Cu hr (aO '1' (a3 '4' (cF qby hr (a1 (px aK '2' '4'))) (cF Hj hr (a1 (px aK '2' '4')))))))) bi)
  (ax (sv 6 (cF jr hr (a2 '0' '4')))
  (ax (ba (tc bv '5' aU) (ax (sv 7 (cb (ir (by rfl)) T.sum fJ (a1 (cm ["one"] ["looks", "bounds"] [1,3] (bc '6') (nv 0) br (cF o7 hr (a3 '1' '2' '0'))))))
  (aA (aH (cF Cu hr (aO '1' (a3 '4' '7' (cb (ir (by rfl)) T.sum fJ (a1 (cm ["one"] ["looks", "bounds"] [1,3] (bc '6') (nv 0) br (cF qbz hr (a3 '1' '2' '0'))))))))))) bi)
  (ax (ba (tc bv '5' aU) (ax (sv 8 (cF cA hr (a3 '1' '4' aU)))
  (ax (sv 7 (cF O' hr (aO '1' (a3 '8' '6' (cm ["one"] ["bounds"] [3] (bc '6') (nv 0) br (px (r:=bZ K) aF (px (r:=du K) aK '1' '0') (gi Cs)))))))
  (aA (aH (cF Cu hr (aO '1' (a3 '4' '7' (cF O' hr (aO '1' (a3 '8' '6' (cm ["one"] ["bounds"] [3] (bc '6') (nv 0) br (px (r:=bZ K) aF (px (r:=du K) aK '1' '0') (gi Ct))))))))))))) bi)
  (ax (sm 9 ["one"] ["book", "looks", "bounds"] [0,1,3] (bc '6') (nv 0) br (cF qbA hr (aO '1' (a3 '2' '3' '0'))))
  (ax (sv 7 (ym true (by rfl) (by rfl) T.max dU (a1 (cm ["one"] [] [] (bc '9') (nv 0) br (px (r:=bZ K) aF '0' (gi Cs)))) ao))
  (aA (aH (cF Cu hr (aO '1' (a3 '4' '7' (ym true (by rfl) (by rfl) T.max dU (a1 (cm ["one"] [] [] (bc '9') (nv 0) br (px (r:=bZ K) aF '0' (gi Ct)))) ao)))))))))))))),?_⟩
 show mC λC hC=>?_
 show¬⟨B,_,_,_,O,O,ag hB,aX ec,c,_,_,_,O,O,aC hc,O,?_⟩;show bG hC λC hC=>-⟨O,_,O,?_⟩
 by_cases hp:d.k=.picture
 .show hV (bH d.k .picture) hp ?_;let⟨w1,h1,jZ,_⟩:=cx.pic n d ed hp;let sn:mV[0]?=!.int w1:=by
   rw[jZ]at fi;cases fi with
   | cons q1 _=>rw[show _=V.int w1 from q1];rfl
  show¬⟨B,_,_,_,O,O,ag hB,aX ec,c,_,_,_,O,O,aC hc,O,s',_,_,_,O,O,ag bu,fX (j:=0) sn,_,O,_,O,B,_,_,_,O,O,ag hB,aX ec,c,_,_,_,O,O,aC hc,O,s',_,_,_,O,O,ag bu,fX (j:=0) sn,aT,λt ht=>?_⟩;show q t _ (ay ht _) ?_;rw[qbt ed hp];unfold iT PrAt;rw[jZ,ar]
 show h8 (bH d.k .picture) hp ?_;show bG hC λC hC=>-⟨gJ,_,O,.inr (KP _),O,vw _,_,O,?_⟩
 rw[qY rA,xn]
 by_cases ht:d.k=.text\/d.k=.head\/d.k=.note
 .show eS ht ?_;let nu:n<us⁻¹:=by rw[cx.ul];show hn
  let⟨au,hU,pu⟩:=I.un;let⟨r,er,rr⟩:=dP pu (qB nu);let eu:bg us n=us[n]:=by unfold bg;rw[qB nu];rfl
  let eX:=cx.un n d ed ht;rw[eu]at eX;let ul:=(cx.pos _ (rJ nu)).1;show¬⟨_,O,_,O,Un,_,_,_,O,O,ag hU,aX er,r,us[n],O,rr,eX,ul,λH1 s1=>?_⟩;show¬⟨Un,_,_,_,O,O,ag (s1 _ _ hU),aX er,r,us[n],O,rr.same s1,eX,ul,λH2 s2=>?_⟩;show⟨p,n,_,_,ls,O,dg (s1.trans s2) I.lk,nl,cZ,λt H3 s3 pt=>?_⟩;show q t H3 ((s1.trans s2).trans s3) ?_;rw[qbs ed ht,eu];show pt
 show dM ht ?_;show bG hC λC hC=>¬⟨B,n,ds,_,O,⟨ab,hB,nd⟩,(),hn,λK0 H1 hK s1 di=>?_⟩
 let kl:=mO ds n;let kz:(⇑((aw ds n).map λ(j:Nat)=>(j:Int)))⁻¹<sizeLine:=by rw[qA,qA];show aW ()
 let yq:∀{i m:Nat},(aw ds n)[i]?=!m->m<ds⁻¹:=λe=>cO (qN e)
 dsimp only[aY];show bG hC λC hC=>-⟨O,_,O,?_⟩
 by_cases hs:d.k=.shelf
 .show hV (bH d.k .shelf) hs ⟨_,O,K0,O,⟨_,ag di⟩,bB (xs:=⇑((aw ds n).map λ(j:Nat)=>(j:Int))) (λi ys ae H'=>H'=H1/\ys=⇑(((aw ds n).take i).map (cD ls bs))/\∃z,ae=[z,!.ref p,!.ref L]) kz ⟨O,O,none,O⟩ ?_ ?_ ?_⟩
  .ext i ys ae H' hi ⟨rfl,rfl,_⟩;show ag di
  .ext i y ys ae H' hy ⟨rfl,rfl,z,rfl⟩;let⟨m,em,rfl⟩:=yo hy;let gh:=yq em;show¬⟨_,O,p,L,m,ls,bs,O,dg s1 I.lk,gf s1 lb,by rw[cx.ll];show gh,by rw[yp];show gh,cZ,O,?_,_,O⟩;rw[qO,em,qD,qD];rfl
  ext ys ae H' ⟨rfl,rfl,_⟩ D hD;rw[qI (by rw[qA,qA];show qG _)];let sD:=s1.trans (ay hD (.lst ⇑((aw ds n).map (cD ls bs))));let gL:=(ay hD (.lst ⇑((aw ds n).map (cD ls bs)))) _ _ di;show⟨D,_,O,ag ar,?_⟩;generalize af H' D (.lst ⇑((aw ds n).map (cD ls bs)))=H2 at sD gL⊢;show¬⟨_,O,_,O,K0,O,⟨_,ag gL⟩,bB (xs:=⇑((aw ds n).map λ(j:Nat)=>(j:Int))) (λi ys ae H'=>H'=H2/\ys=⇑(((aw ds n).take i).map (mM ls bs))/\∃z,ae=[z,!.ref p,!.ref L]) kz ⟨O,O,none,O⟩ ?_ ?_ ?_⟩
  .ext i ys ae H' hi ⟨rfl,rfl,_⟩;show ag gL
  .ext i y ys ae H' hy ⟨rfl,rfl,z,rfl⟩;let⟨m,em,rfl⟩:=yo hy;let gh:=yq em;show¬⟨_,O,p,L,m,ls,bs,O,dg sD I.lk,gf sD lb,by rw[cx.ll];show gh,by rw[yp];show gh,cZ,O,?_,_,O⟩;rw[qO,em,qD,qD];rfl
  ext ys ae H' ⟨rfl,rfl,_⟩ D2 ju;rw[qI (by rw[qA,qA];show qG _)];let Pa:=sD.trans (ay ju (.lst ⇑((aw ds n).map (mM ls bs))));show⟨D2,_,O,ag ar,p,n,_,_,ls,O,dg Pa I.lk,nl,cZ,λt H3 s3 pt=>?_⟩;show q t H3 (Pa.trans s3) ?_;rw[qbu ed hs];show pt
 show h8 (bH d.k .shelf) hs ?_;show bG hC λC hC=>-⟨O,_,O,?_⟩
 by_cases hg:d.k=.grid
 .show hV (bH d.k .grid) hg ?_;let lT:=cx.gr n d ed hg;let sr:=(cx.lk _ (rJ nl)).cols;let ecol:aB ls n 7=ls[n].getD 7 0:=by unfold aB;rw[qB nl];rfl
  show¬⟨p,n,7,_,ls,O,dg s1 I.lk,nl,cZ,{},GZ,?_⟩;let part:∀(g:Int×Int->Int) (H2:Hp),Same H1 H2->∀(i:Nat) (m:Nat),(aw ds n)[i]?=!m->⇑(((aw ds n).take (i+1)).map λm=>g (aJ bs m))=⇑(((aw ds n).take i).map λm=>g (aJ bs m))++[V.int (g (aJ bs m))]:=λg H2 _ i m em=>by
   rw[qO,em,qD,qD];rfl
  show¬⟨_,O,_,O,K0,O,⟨_,ag di⟩,bB (xs:=⇑((aw ds n).map λ(j:Nat)=>(j:Int))) (λi ys ae H'=>H'=H1/\ys=⇑(((aw ds n).take i).map λm=>(aJ bs m).1)/\∃z,ae=[z,!.ref L]) kz ⟨O,O,none,O⟩ ?_ ?_ ?_⟩
  .ext i ys ae H' hi ⟨rfl,rfl,_⟩;show ag di
  .ext i y ys ae H' hy ⟨rfl,rfl,z,rfl⟩;let⟨m,em,rfl⟩:=yo hy;let gh:=yq em;let⟨al,hL,pl⟩:=gf s1 lb;let⟨a,ea,ha⟩:=dP pl (yn (m:=m) (by rw[yp];show gh));show¬⟨L,_,_,_,O,O,ag hL,aX ea,a,_,_,_,O,O,aC ha,O,O,(part Prod.fst H' (Same.refl _) i m em).symm ▸ rfl,_,O⟩
  ext ys ae H' ⟨rfl,rfl,_⟩ D hD;rw[qI (by rw[qA,qA];show qG _)];let sD:=s1.trans (ay hD (.lst ⇑((aw ds n).map λm=>(aJ bs m).1)));let gL:=(ay hD (.lst ⇑((aw ds n).map λm=>(aJ bs m).1))) _ _ di;let dD:af H' D (.lst ⇑((aw ds n).map λm=>(aJ bs m).1)) D=!.lst ⇑((aw ds n).map λm=>(aJ bs m).1):=ar;generalize af H' D (.lst ⇑((aw ds n).map λm=>(aJ bs m).1))=H2 at sD gL dD⊢;let zk:∀(g:Int×Int->Int),(((aw ds n).map λm=>(m,g (aJ bs m))).map λx=>V.int ((x.1:Nat):Int))=⇑((aw ds n).map λ(j:Nat)=>(j:Int)):=λg=>by rw[xO,xO];rfl
  let zv:∀(g:Int×Int->Int),(((aw ds n).map λm=>(m,g (aJ bs m))).map λx=>V.int x.2)=⇑((aw ds n).map λm=>g (aJ bs m)):=λg=>by rw[xO,xO];rfl
  let zl:∀(g:Int×Int->Int),∀x∈(aw ds n).map λm=>(m,g (aJ bs m)),x.1<ls⁻¹:=λg x hx=>by
   let⟨m,hm,rfl⟩:=qP.mp hx;rw[cx.ll];show cO hm
  show⟨p,K0,D,aB ls n 7,ls,(aw ds n).map λm=>(m,(aJ bs m).1),O,dg sD I.lk,by rw[zk Prod.fst];show gL,by rw[zv Prod.fst];show dD,‹lT›,by rw[List.length_map];omega,(),(),cx.lk,zl Prod.fst,λH3 s3=>?_⟩;let gj:=sD.trans s3;let Hk:=s3 _ _ gL;show¬⟨_,O,_,O,_,O,_,O,_,O,K0,O,⟨_,ag Hk⟩,bB (xs:=⇑((aw ds n).map λ(j:Nat)=>(j:Int))) (λi ys ae H'=>H'=H3/\ys=⇑(((aw ds n).take i).map λm=>(aJ bs m).2)/\∃z,ae=[z,!.ref L]) kz ⟨O,O,none,O⟩ ?_ ?_ ?_⟩
  .ext i ys ae H' hi ⟨rfl,rfl,_⟩;show ag Hk
  .ext i y ys ae H' hy ⟨rfl,rfl,z,rfl⟩;let⟨m,em,rfl⟩:=yo hy;let gh:=yq em;let⟨al,hL,pl⟩:=gf gj lb;let⟨a,ea,ha⟩:=dP pl (yn (m:=m) (by rw[yp];show gh));show¬⟨L,_,_,_,O,O,ag hL,aX ea,a,_,_,_,O,O,aC ha,O,O,(part Prod.snd _ (Same.refl _) i m em).symm ▸ rfl,_,O⟩
  ext ys ae H' ⟨rfl,rfl,_⟩ D2 ju;rw[qI (by rw[qA,qA];show qG _)];let sE:=gj.trans (ay ju (.lst ⇑((aw ds n).map λm=>(aJ bs m).2)));let Pb:=(ay ju (.lst ⇑((aw ds n).map λm=>(aJ bs m).2))) _ _ Hk;let kf:af H' D2 (.lst ⇑((aw ds n).map λm=>(aJ bs m).2)) D2=!.lst ⇑((aw ds n).map λm=>(aJ bs m).2):=ar;generalize af H' D2 (.lst ⇑((aw ds n).map λm=>(aJ bs m).2))=H4 at sE Pb kf⊢;show⟨p,K0,D2,aB ls n 7,ls,(aw ds n).map λm=>(m,(aJ bs m).2),O,dg sE I.lk,by rw[zk Prod.snd];show Pb,by rw[zv Prod.snd];show kf,‹lT›,by rw[List.length_map];omega,(),(),cx.lk,zl Prod.snd,λH5 s5=>?_⟩;show⟨p,n,_,_,ls,O,dg (sE.trans s5) I.lk,nl,cZ,λt H6 s6 pt=>?_⟩;show q t H6 ((sE.trans s5).trans s6) ?_;rw[qbv ed hg];show pt
 show h8 (bH d.k .grid) hg ?_;show bG hC λC hC=>-⟨K0,O,⟨_,ag di⟩,bB (xs:=⇑((aw ds n).map λ(j:Nat)=>(j:Int))) (λi ys ae H'=>Same H1 H'/\(∃as,ys=↑as/\Paired (PrAt H') as (((aw ds n).take i).map (cX ds ls bs)))/\∃z,ae=[z,!.ref B,!.ref p,!.ref L]) kz ⟨Same.refl _,⟨[],O,.nil⟩,none,O⟩ ?_ ?_ ?_⟩
 .ext i ys ae H' hi ⟨s2,⟨as,rfl,pa⟩,_⟩;show ag (s2 _ _ di)
 .ext i y ys ae H' hy ⟨s2,⟨as,rfl,pa⟩,z,rfl⟩;let⟨m,em,rfl⟩:=yo hy;let gh:=yq em;let kg:=s1.trans s2;show¬⟨_,O,_,O,B,p,L,m,ds,ls,bs,O,(I.same kg).bk,dg kg I.lk,gf kg lb,gh,by rw[cx.ll];show gh,by rw[yp];show gh,cZ,λt H3 s3 pt=>?_⟩;show⟨s2.trans s3,⟨as++[t],by rw[qD];rfl,?_⟩,_,O⟩;rw[qO,em,qD];show(pa.mono λ_ _ h=>PrAt.same s3 h).snoc pt
 ext ys ae H2 ⟨s2,⟨as,rfl,pa⟩,_⟩ I0 hI0;rw[qI (by rw[qA,qA];show qG _)]at pa;let lpa:=qU pa;rw[qA]at lpa;let sI:=ay hI0 (.lst ↑as);let yr:af H2 I0 (.lst ↑as) I0=!.lst ↑as:=ar;let Pc:Paired (PrAt (af H2 I0 (.lst ↑as))) as ((aw ds n).map (cX ds ls bs)):=pa.mono λ_ _ h=>PrAt.same sI h
 let s3:=(s1.trans s2).trans sI;generalize af H2 I0 (.lst ↑as)=H3 at sI yr Pc s3⊢;let az:(↑as)⁻¹<sizeLine:=by rw[qA];show aW ()
 let one:∀(H4:Hp),Same H3 H4->∀{i:Nat} {y:V},(↑as)[i]?=!y->∃(a:Addr) (m:Nat),y=.ref a/\(aw ds n)[i]?=!m/\PrAt H4 a (cX ds ls bs m):=λH4 s4 i y hy=>by
  let⟨a,ea,rfl⟩:=cJ hy;let⟨b,eb,hb⟩:=bW Pc ea;rw[qH]at eb;let⟨m,em,rfl⟩:=rP.mp eb;show⟨a,m,O,em,hb.same s4⟩
 let m0:∀(g:Int×Int->Int),((aw ds n).map λm=>g (cX ds ls bs m))=[]->V.int 0=V.int (bC ((aw ds n).map λm=>g (cX ds ls bs m))):=λg e=>by rw[e];rfl
 show bG hC λC hC=>-⟨I0,O,⟨_,ag yr⟩,bB (xs:=↑as) (λi ys ae H'=>H'=H3/\ys=⇑(((aw ds n).take i).map λm=>(cX ds ls bs m).1)/\∃z,ae=[z]) az ⟨O,O,none,O⟩ ?_ ?_ ?_⟩
 .ext i ys ae H' hi ⟨rfl,rfl,_⟩;show ag yr
 .ext i y ys ae H' hy ⟨rfl,rfl,z,rfl⟩;let⟨a,m,rfl,em,ha⟩:=one _ (Same.refl _) hy;show-⟨a,_,_,_,O,O,aC ha,O,O,?_,_,O⟩;rw[qO,em,qD,qD];rfl
 ext ys ae H' ⟨rfl,rfl,_⟩ D hD;rw[qI (by rw[qA];omega)];let sD:=ay hD (.lst ⇑((aw ds n).map λm=>(cX ds ls bs m).1));show⟨D,_,.int (bC ((aw ds n).map λm=>(cX ds ls bs m).1)),O,ag ar,m0 Prod.fst,λz=>⟨_,jT z,O,jU⟩,?_⟩;generalize af H' D (.lst ⇑((aw ds n).map λm=>(cX ds ls bs m).1))=H4 at sD⊢;show mD hC ⟨_,O,_,O,_,O,_,O,I0,O,⟨_,ag (sD _ _ yr)⟩,bB (xs:=↑as) (λi ys ae H'=>H'=H4/\ys=⇑(((aw ds n).take i).map λm=>(cX ds ls bs m).2)/\∃z,ae=[z]) az ⟨O,O,none,O⟩ ?_ ?_ ?_⟩
 .ext i ys ae H5 hi ⟨rfl,rfl,_⟩;show ag (sD _ _ yr)
 .ext i y ys ae H5 hy ⟨rfl,rfl,z,rfl⟩;let⟨a,m,rfl,em,ha⟩:=one _ sD hy;show-⟨a,_,_,_,O,O,aC ha,O,O,?_,_,O⟩;rw[qO,em,qD,qD];rfl
 ext ys ae H5 ⟨rfl,rfl,_⟩ D2 ju;rw[qI (by rw[qA];omega)];let sE:=(s3.trans sD).trans (ay ju (.lst ⇑((aw ds n).map λm=>(cX ds ls bs m).2)));show⟨D2,_,.int (bC ((aw ds n).map λm=>(cX ds ls bs m).2)),O,ag ar,m0 Prod.snd,λz=>⟨_,jT z,O,jU⟩,p,n,_,_,ls,O,dg sE I.lk,nl,cZ,λt H6 s6 pt=>?_⟩;show q t H6 (sE.trans s6) ?_;rw[qbw ed hp ht hs hg];show pt
def qbB(F:Fu K "all_bounds" O9 f fd)(T:bY mg)(qbC:⋯ 5 "node_bounds" ["book", "looks", "units", "bounds", "node"] Gc):(~~~0) 6 f fd ["book", "looks", "units"] spAll:=by
 rcases F.go ["book", "looks", "units", "bounds", "node"] with⟨B,p,U,ds,ls,us,rfl,I,cx,q⟩;let le:=cx.le;let⟨ab,hB,nd⟩:=I.bk;let dR:ab⁻¹=ds⁻¹:=nd⁻¹;show⟨_,(ax (sm 3 ["node"] [] [] (bc '0') (nv 0) br (bR (a2 ao ao)))
  (ax (fv (FG (by rfl) T.range (a3 (aG c9 (ln T.len '0') ao) (dJ dL ao) (dJ dL ao))) (nv 4)
  (aA (nW (cF qbC hr (aO '0' (aO '1' (a3 '2' '3' '4')))) (tP '3' '4' pX))))
  (aA (aH '3')))),?_⟩
 show-⟨B,O,⟨_,ag hB⟩,bB (xs:=↑ab) (λi ys ae H'=>Same H H'/\(∃as,ys=↑as/\Paired (PrAt H') as (List.replicate i (0,0)))/\∃z,ae=[z]) (by rw[qA];show aW ()) ⟨Same.refl _,⟨[],O,.nil⟩,none,O⟩ ?_ ?_ ?_⟩
 .ext i ys ae H' hi ⟨s1,⟨as,rfl,pa⟩,_⟩;show ag (s1 _ _ hB)
 .ext i y ys ae H' hy ⟨s1,⟨as,rfl,pa⟩,z,rfl⟩;show⟨aT,λt ht=>?_⟩;let s2:=ay ht (.tup [.int 0,.int 0]);show⟨s1.trans s2,⟨as++[t],by rw[qD];rfl,?_⟩,_,O⟩;rw[List.replicate_succ'];show(pa.mono λ_ _ h=>PrAt.same s2 h).snoc ar
 ext ys ae H1 ⟨s1,⟨as,rfl,pa⟩,_⟩ L yt;rw[qA,dR]at pa;let sL:=ay yt (.lst ↑as);let bo:af H1 L (.lst ↑as) L=!.lst ↑as:=ar;let Pd:Paired (PrAt (af H1 L (.lst ↑as))) as (List.replicate ds⁻¹ (0,0)):=pa.mono λ_ _ h=>PrAt.same sL h
 let s2:=s1.trans sL;let hL:H L=none:=s1.free yt;generalize af H1 L (.lst ↑as)=H2 at sL bo Pd s2⊢;let qbD:∀{H':Hp} {o:HO} {ys:List V},H' L=!.lst ys->∀a x,PrAt H' a x->PrAt (af H' L o) a x:=λh a x hx=>by
  unfold PrAt;rw[aM (λz=>by unfold PrAt at hx;rw[z,h]at hx;cases hx)];show hx
 show-⟨B,_,O,.inl (ag (s2 _ _ hB)),_,_,O,O,_,O,_,O,_,_,O,⟨(),by rw[qA,dR];omega,{},{}⟩,FI (λk σ H'=>Same H H'/\(∃z,σ=[!.ref B,!.ref p,!.ref U,!.ref L,z])/\LstAt PrAt H' L (eE ds ls us k)) ⟨s2,⟨none,O⟩,as,bo,Pd⟩ ?_ ?_⟩
 .ext k σ H' hk ⟨s3,⟨z,rfl⟩,al,cr,pl⟩;let jQ:k<ds⁻¹:=by rw[qA,dR]at hk;omega
  let en:(((↑ab)⁻¹:Nat):Int)-1-(k:Int)=((ds⁻¹-1-k:Nat):Int):=by rw[qA,dR];omega
  show aY 4 (V.int ((((↑ab)⁻¹:Nat):Int)-1-(k:Int))) _ _ _;rw[en];let lal:al⁻¹=ds⁻¹:=by rw[qU pl,qx]
  show¬⟨_,O,_,O,_,O,B,p,U,L,ds⁻¹-1-k,ds,ls,us,eE ds ls us k,O,I.same s3,⟨al,cr,pl⟩,qx k,(),cx,λt H4 s4 pt=>?_⟩;let cS:=s4 _ _ cr;let lx:(↑al)⁻¹=ds⁻¹:=by rw[qA,lal]
  show¬⟨L,_,_,ds⁻¹-1-k,O,O,cS,?_,?_⟩
  .unfold fW;rw[lx];simp;omega
  show⟨iq (s3.trans s4) hL,⟨_,O⟩,al.set (ds⁻¹-1-k) t,by rw[ar,List.map_set],?_⟩;rw[eE];show(Paired.set (F:=PrAt H4) (pl.mono λ_ _ h=>PrAt.same s4 h) pt _).mono (qbD cS)
 .ext σ H' ⟨s3,⟨z,rfl⟩,lb⟩;let ek:((((↑ab)⁻¹:Nat):Int)-1-(-1)).toNat=ds⁻¹:=by rw[qA,dR];omega
  rw[ek]at lb;show-⟨q L H' hL s3 lb⟩
end K33
namespace K33
open L2 Bk Gen Gd
abbrev Pe:=top 78
abbrev Pf:=top 77
abbrev Pg:=top 76
def qbE(F:Fu K "spots_of" Pe f fd)(T:qp mg)(U:BD mg):(~~~0) 1 f fd ["place"] BB:=by
 rcases F.go ["place", "spots", "row"] with⟨t,p,rfl,ht,d4,s6,r0,c0,q⟩;let⟨_,nj⟩:=U.row;let⟨_,su⟩:=U.column;let⟨_,Hl⟩:=U.span;let⟨_,Hm⟩:=U.deep;show⟨_,(ax (sv 1 (bf bX))
  (ax (fv (AN (by rfl) T.range (a2 (px aF '0' (gi nj)) (aG a9 (px aF '0' (gi nj)) (px aF '0' (gi Hm))))) (nv 2)
  (aA (cI (jM yM vW vY Lc '1' (a1 (cm ["column"] ["row"] [2] (AN (by rfl) T.range (a2 (px aF '0' (gi su)) (aG a9 (px aF '0' (gi su)) (px aF '0' (gi Hl))))) (nv 0) br (bR (a2 '1' '0'))))))))
  (aA (aH '1')))),?_⟩
 show⟨aT,λL hL=>?_⟩;let s1:=ay hL (.lst []);let t1:=s1 _ _ ht;show-⟨t,_,_,_,O,O,aC t1,O,_,O,t,_,_,_,O,O,aC t1,O,_,O,t,_,_,_,O,O,aC t1,O,_,_,O,O,_,_,O,⟨(),(),(),()⟩,gY (λi σ H'=>Same H H'/\(∃z,σ=[!.ref t,!.ref L,z])/\LstAt TupAt H' L (jS p i)) ⟨s1,⟨none,O⟩,[],ar,.nil⟩ ?_ ?_⟩
 .ext i σ H' hi ⟨s2,⟨z,rfl⟩,as,eI,pr⟩;let cC:i<p.d:=()
  let t2:=s2 _ _ ht;let l1:=qU pr;let l3:=Fj (p:=p) (n:=i) () s6;show-⟨.inl ⟨O,_,ag eI⟩,_,O,t,_,_,_,O,O,aC t2,O,_,O,t,_,_,_,O,O,aC t2,O,_,O,t,_,_,_,O,O,aC t2,O,_,_,O,O,_,_,O,⟨(),(),(),()⟩,jO (λj ys ae H3=>Same H' H3/\(∃z,ae=[z,!.int ((p.r:Int)+i)])/\∃bs,ys=↑bs/\Paired (TupAt H3) bs ((mJ p i).take j)) (aW ()) ⟨Same.refl _,⟨none,O⟩,[],O,.nil⟩ ?_ ?_⟩
  .ext j ys ae H3 hj ⟨s3,⟨z,rfl⟩,bs,rfl,jv⟩;let Cv:j<p.s:=()
   show¬⟨aT,λt' yu=>?_⟩;let s4:=ay yu (.tup [.int ((p.r:Int)+i),.int ((p.c:Int)+j)]);show⟨s3.trans s4,⟨_,O⟩,bs++[t'],by rw[qD];rfl,?_⟩;let e:(mJ p i)[j]?=!(p.r+i,p.c+j):=by simp[mJ,Cv]
   rw[qO,e];show(qo (.of s4) jv).snoc ar
  .ext ys ae H3 ⟨s3,⟨z,rfl⟩,bs,rfl,jv⟩ D hD;rw[qI (by rw[Fi];omega)]at jv;let l2:=qU jv;rw[Fi]at l2;let s4:=ay hD (.lst ↑bs);let cr:=s4 _ _ (s3 _ _ eI);show⟨L,D,_,_,O,O,cr,ar,by rw[qA,qA];show xD (aW ()),?_⟩;let tt:=Tups.lst (o:=.lst (↑as++↑bs)) cr;show⟨iq ((s2.trans s3).trans s4) hL,⟨_,O⟩,as++bs,by rw[ar,qD],?_⟩;rw[M5];show vq (qo ((Tups.of (s3.trans s4)).trans tt) pr) (qo ((Tups.of s4).trans tt) jv)
 .ext σ H' ⟨s2,⟨z,rfl⟩,la⟩;let en:((p.r:Int)+p.d-p.r).toNat=p.d:=()
  rw[en]at la;show-⟨q L H' hL s2 la⟩
def qbF(F:Fu K "first_place" Pf f fd)(T:qp mg)(Hn:⋯ 1 "spots_of" ["place"] BB):(~~~0) 2 f fd ["columns", "taken", "span", "deep"] Fm:=by
 rcases F.go ["columns", "taken", "span", "deep", "row", "column", "place"] with⟨tk,cols,sp,d,n,ps,rfl,⟨aj,htk,qj,hv⟩,ok,pl,s1,s2,c6,d1,d4,q⟩;let cV:=mB hr;show⟨_,(ax (sv 4 ao)
  (aA (AK vE (kE gp) (ax (fv (r1 T.range (aG a9 (aG c9 '0' '2') ao)) (nv 5)
  (ax (sv 6 (bR (aO '4' (a3 '5' '2' '3'))))
  (aA (ba (tM (kE (cb (Yv (by rfl)) T.any Yx (a1 (cm ["spot"] ["taken"] [1] (bc (cF Hn hr (a1 '6'))) (nv 0) br (UM (M3 cV '0' '1'))))))) (aA (aH '6')) bi))))
  (aA (av 4 ao DH)))))),?_⟩
 show⟨λm σ H'=>Same H H'/\∃(r:Nat) (z1 z2:Option V),σ=[!.int cols,!.ref tk,!.int sp,!.int d,!.int r,z1,z2]/\r<=4*ps⁻¹/\m=4*ps⁻¹-r/\(∀r',r'<r->∀c,c+sp<=cols->free ps ⟨r',c,sp,d⟩=false),⟨_,Same.refl H,0,none,none,O,rO _,O,λ_ h=>qT h (xS _)⟩,?_⟩;ext m σ H' ⟨sm,r,z1,z2,rfl,rl,rfl,nr⟩;show-⟨bK ⟨λae gM=>Same H gM/\∃(z1 z2:Option V),ae=[!.int cols,!.ref tk,!.int sp,!.int d,!.int ((r+1:Nat):Int),z1,z2]/\r+1<=4*ps⁻¹/\(∀r',r'<r+1->∀c,c+sp<=cols->free ps ⟨r',c,sp,d⟩=false),?_,?_⟩⟩
 .ext ae gM ⟨s3,z1,z2,rfl,Ho,nr'⟩;show⟨4*ps⁻¹-(r+1),(),s3,r+1,z1,z2,O,Ho,O,nr'⟩
 show¬⟨_,_,O,O,_,_,O,O,_,O,(),(),gY (λk σ H2=>Same H H2/\(∃(z1 z2:Option V),σ=[!.int cols,!.ref tk,!.int sp,!.int d,!.int r,z1,z2])/\∀c,c<k->free ps ⟨r,c,sp,d⟩=false) ⟨sm,⟨_,_,O⟩,λ_ h=>qT h (xS _)⟩ ?_ ?_⟩
 .rintro k σ H2 hk ⟨sH,⟨y1,y2,rfl⟩,nc⟩;let jQ:k+sp<=cols:=()
  rw[show(0:Int)+(k:Int)=(k:Int)from uY _];show¬⟨_,O,_,O,aT,λt ht=>?_⟩;let sT:=ay ht (.tup [.int r,.int k,.int sp,.int d]);let hT:PlAt (af H2 t (.tup [.int r,.int k,.int sp,.int d])) t ⟨r,k,sp,d⟩:=ar;generalize af H2 t (.tup [.int r,.int k,.int sp,.int d])=H3 at sT hT⊢;show-⟨t,⟨r,k,sp,d⟩,O,hT,d4,by show sp<=6;omega,by show r<=1000;omega,by show k<=1000;omega,λL H4 hL s4 la=>?_⟩;let⟨as,cS,pr⟩:=la;let fI:=sT.trans s4;let Hq:=sH.trans fI;let tk4:=Hq _ _ htk;let le:=Fj (p:=⟨r,k,sp,d⟩) (n:=d) d4 (by show sp<=6;omega);let l1:as⁻¹=(jS ⟨r,k,sp,d⟩ d)⁻¹:=qU pr;show⟨L,O,⟨_,ag cS⟩,bB (xs:=↑as) (λi ys ae H5=>H5=H4/\ys=(((gd ⟨r,k,sp,d⟩).take i).map λx=>V.bl (ps.any λp=>iS p x))/\∃z,ae=[z,!.ref tk]) (by rw[qA];show aW ()) ⟨O,O,none,O⟩ ?_ ?_ ?_⟩
  .ext i ys ae H5 hi ⟨rfl,rfl,_⟩;show ag cS
  .ext i y ys ae H5 hy ⟨rfl,rfl,z,rfl⟩;let⟨b,eb,rfl⟩:=cJ hy;let⟨x,ex,hb⟩:=bW pr eb;show¬⟨tk,_,O,DGet.t (k:=[.inl x.1,.inl x.2]) tk4 hb,O,?_,_,O⟩;rw[qO,ex,qD,hv];rfl
  .rintro ys ae H5 ⟨rfl,rfl,_⟩ D hD;let el:(((gd ⟨r,k,sp,d⟩).take (↑as)⁻¹).map λx=>V.bl (ps.any λp=>iS p x))=((gd ⟨r,k,sp,d⟩).map λx=>ps.any λp=>iS p x).map V.bl:=by
    rw[qI (by rw[qA];show Nat.le_of_eq l1.symm),xO];rfl
   rw[el];let sD:=ay hD (.lst (((gd ⟨r,k,sp,d⟩).map λx=>ps.any λp=>iS p x).map V.bl));let dD:af H5 D (.lst (((gd ⟨r,k,sp,d⟩).map λx=>ps.any λp=>iS p x).map V.bl)) D=!.lst (((gd ⟨r,k,sp,d⟩).map λx=>ps.any λp=>iS p x).map V.bl):=ar;generalize af H5 D (.lst (((gd ⟨r,k,sp,d⟩).map λx=>ps.any λp=>iS p x).map V.bl))=H6 at sD dD⊢;let ea:((gd ⟨r,k,sp,d⟩).map λx=>ps.any λp=>iS p x).any id=(Bool.not (free ps ⟨r,k,sp,d⟩)):=by
    rw[List.any_map];show Yu ok.one s1 d1
   show⟨D,_,O,ag dD,_,O,?_⟩;rw[ea];cases hf:free ps ⟨r,k,sp,d⟩with
   | true =>
     show bK ⟨_,O,?_⟩
     show q t _ ⟨r,k,sp,d⟩ ⟨O,O,jQ,hf,nc,nr⟩ ((s4.trans sD) _ _ hT) (Hq.trans sD)
   | false =>
     show bj ⟨Hq.trans sD,⟨_,_,O⟩,λc hc=>?_⟩
     rcases yE.mp hc with h | h
     · show nc c h
     · rw[h];show hf
 .ext σ H2 ⟨sH,⟨y1,y2,rfl⟩,nc⟩;let Ph:∀c,c+sp<=cols->free ps ⟨r,c,sp,d⟩=false:=λc hc=>nc c ()
  let Ho:r+1<=4*ps⁻¹:=by
   show Nat.lt_of_le_of_ne rl λz=>?_
   have:=Ph 0 ();rw[M7 ok ()]at this;cases this
  show-⟨_,_,O,O,sH,_,_,O,Ho,λr' yw c hc=>?_⟩;rcases yE.mp yw with h | h
  .show nr r' h c hc
  .rw[h];show Ph c hc
def qbG(F:Fu K "grid_places" Pg f fd)(T:qp mg)(Hn:⋯ 1 "spots_of" ["place"] BB)(qbH:⋯ 2 "first_place" ["columns", "taken", "span", "deep"] Fm):(~~~0) 3 f fd ["columns", "cells"] BC:=by
 rcases F.go ["columns", "cells", "places", "taken", "span", "deep", "place", "spot"] with⟨cl,cols,cs,rfl,⟨as,eV,pr⟩,sr,c20,c1,c6,q⟩;let cV:=mB hr;show⟨_,(ax (sv 2 (bf bX))
  (ax (sv 3 Yt)
  (ax (fv (bc '1') (jJ (by rfl) (bF (nv 4) (bF (nv 5) dZ)))
  (ax (sv 6 (cF qbH hr (aO '0' (a3 '3' (cb (tZ (by rfl)) T.min mK (a2 '4' '0')) '5'))))
  (ax (cI (ap '2' '6'))
  (aA (fv (bc (cF Hn hr (a1 '6'))) (nv 7)
  (aA (Fh cV '3' '7' gp (by rfl))))))))
  (aA (aH '2'))))),?_⟩
 show⟨aT,λL hL=>?_⟩;let sL:=ay hL (.lst []);let bo:af H L (.lst []) L=!.lst ↑([]:TQ):=ar;generalize af H L (.lst [])=H1 at sL bo⊢;intro D hD;let sD:=ay hD (.dT []);let dD:af H1 D (.dT []) D=!.dT []:=ar;let Pi:=sD _ _ bo;let DL:D≠L:=λz=>by rw[z,bo]at hD;cases hD
 let hD0:H D=none:=sL.free hD;let s1:=sL.trans sD;generalize af H1 D (.dT [])=H2 at sD dD Pi s1⊢;let l0:as⁻¹=cs⁻¹:=qU pr;show-⟨cl,O,⟨_,ag (s1 _ _ eV)⟩,iK (xs:=↑as) (λi σ H'=>Same H H'/\(∃z4 z5 z6 z7,σ=[!.int cols,!.ref cl,!.ref L,!.ref D,z4,z5,z6,z7])/\∃ps,LstAt PlAt H' L ps/\Tk H' D ps (24*i)/\Placed cols (cs.take i) ps/\PsOk cols ps/\ps⁻¹=i) ⟨s1,⟨none,none,none,none,O⟩,[],⟨[],Pi,.nil⟩,⟨[],dD,qG _,λ_=>rfl⟩,.nil,(λp hp=>nomatch hp),O⟩ ?_ ?_ ?_⟩
 .ext i σ H' hi ⟨s2,_⟩;show ag (s2 _ _ eV)
 .rintro i y σ H' hy ⟨s2,⟨z4,z5,z6,z7,rfl⟩,ps,⟨bs,hLb,pb⟩,tk,pd,ok,pl⟩;let⟨b,eb,rfl⟩:=cJ hy;let⟨x,ex,hb⟩:=bW pr eb;let⟨x1,x2,x3,x4⟩:=sr x (qN ex);let hi:i<cs⁻¹:=(qE.mp ex).1;let Ba:=s2 _ _ hb;show⟨b,_,O,aC Ba,O,_,_,O,_,_,O,O,_,O,_,O,_,O,_,O,_,_,O,_,O,?_⟩;let em:(if(cols:Int)<(x.1:Int)then(cols:Int)else(x.1:Int))=((min x.1 cols:Nat):Int):=by
   by_cases z:cols<x.1
   .rw[qX (),Nat.min_eq_right ()]
   .rw[qY (),uN ()]
  show⟨D,cols,min x.1 cols,x.2,24*i,ps,by show[V.int cols,V.ref D,V.int (if(cols:Int)<(x.1:Int)then(cols:Int)else(x.1:Int)),V.int x.2]=_;rw[em],tk,ok,(),(),(),c6,x3,x4,λt H3 pq fq hq s3=>?_⟩;let cr:=s3 _ _ hLb;let lb:=qU pb;show-⟨.inl ⟨O,_,ag cr⟩,_,O,L,_,_,O,O,cr,aW (by rw[qA];omega),?_⟩;let tL:=Tups.lst (o:=.lst (↑bs++[.ref t])) cr;let Hr:PlAt (af H3 L (.lst (↑bs++[.ref t]))) t pq:=hq.keep tL;let cS:af H3 L (.lst (↑bs++[.ref t])) L=!.lst ↑(bs++[t]):=by rw[ar,qD];rfl
  let Pj:Paired (PlAt (af H3 L (.lst (↑bs++[.ref t])))) (bs++[t]) (ps++[pq]):=(M8 ((Tups.of s3).trans tL) pb).snoc Hr;let⟨aj,hkv,qj,hv⟩:=tk;let kf:af H3 L (.lst (↑bs++[.ref t])) D=!.dT aj:=by rw[aM DL];show s3 _ _ hkv
  let s4:Same H (af H3 L (.lst (↑bs++[.ref t]))):=iq (s2.trans s3) hL;generalize af H3 L (.lst (↑bs++[.ref t]))=H4 at Hr cS Pj kf s4⊢;let qr:=fq.row ok ();let qs:=fq.es;let qd:=fq.ed;let qc:=fq.ec;show-⟨t,pq,O,Hr,(),(),(),(),λS H5 hS s5 la=>?_⟩;let⟨ss,gK,Pk⟩:=la;let SD:S≠D:=λz=>by rw[z,kf]at hS;cases hS
  let ls:ss⁻¹=(gd pq)⁻¹:=qU Pk;let le:=Fj (p:=pq) (n:=pq.d) () ();let le':(gd pq)⁻¹<=24:=le;show⟨S,O,⟨_,ag gK⟩,iK (xs:=↑ss) (λj σ H6=>Same H H6/\(∃z4 z5 z6 z7,σ=[!.int cols,!.ref cl,!.ref L,!.ref D,z4,z5,z6,z7])/\H6 L=!.lst ↑(bs++[t])/\Tups H5 H6/\H6 S=!.lst ↑ss/\∃aj,H6 D=!.dT aj/\aj⁻¹<=24*i+j/\∀x:Nat×Nat,(bP aj [.inl x.1,.inl x.2]).isSome=((ps.any λp=>iS p x) || decide (x∈(gd pq).take j))) ⟨s4.trans s5,⟨_,_,_,_,O⟩,s5 _ _ cS,(λ_ _ e=>e),gK,aj,s5 _ _ kf,qj,λx=>by rw[hv];simp⟩ ?_ ?_ ?_⟩
  .ext j σ H6 hj ⟨_,_,_,_,h6,_⟩;show ag h6
  .rintro j y σ H6 hy ⟨s6,⟨y4,y5,y6,y7,rfl⟩,gn,t6,lU,Hs,iZ,Pm,Ht⟩;let⟨b',nB,rfl⟩:=cJ hy;let⟨x',JT,hb'⟩:=bW Pk nB;let hj:j<ss⁻¹:=(qE.mp nB).1;let Hu:TupAt H6 b' x':=t6 _ _ hb';show¬⟨D,_,O,DPut.t (k:=[.inl x'.1,.inl x'.2]) iZ Hu (yB (show _<=3000 by omega) (by show 3000<sizeLine;decide)),iq s6 hD0,⟨_,_,_,_,O⟩,by rw[aM (rV DL)];show gn,t6.trans (Tups.dct iZ),by rw[aM SD];show lU,_,ar,by have:=qk Hs [Sum.inl (x'.1:Int),Sum.inl (x'.2:Int)] (V.bl true);omega,λz=>?_⟩;rw[Fd,qO,JT]
   by_cases e:z=x'
   .subst e;simp
   .let ne:¬([Sum.inl (z.1:Int),Sum.inl (z.2:Int)]:List aV)=[Sum.inl (x'.1:Int),Sum.inl (x'.2:Int)]:=λh=>e (by
     let h1:=(vU h).1;let h2:=(vU (vU h).2).1;let h3:=Sum.inl.inj h1;let h4:=Sum.inl.inj h2;show Prod.ext () ())
    rw[qY ne,Ht];simp[e]
  .ext σ H6 ⟨s6,⟨y4,y5,y6,y7,rfl⟩,gn,t6,lU,Hs,iZ,Pm,Ht⟩;show⟨s6,⟨_,_,_,_,O⟩,ps++[pq],⟨bs++[t],gn,M8 ((Tups.of s5).trans t6) Pj⟩,⟨Hs,iZ,by rw[qA]at Pm;omega,λz=>?_⟩,?_,ok.snoc fq () () c6 x3 x4,by rw[qJ,pl];rfl⟩
   .rw[Ht,qI (by rw[qA];omega),List.any_append,vC,List.any_nil,Bool.or_false]
    congr 1
    rw[yZ,decide_eq_true_iff];show Fk
   .rw[qO,ex];show pd.snoc fq
 .ext σ H' ⟨s2,⟨z4,z5,z6,z7,rfl⟩,ps,lp,tk,pd,ok,pl⟩;rw[qI (by rw[qA];omega)]at pd;show-⟨q L H' ps hL s2 lp pd ok⟩
end K33
namespace Shr
open L2 Bk Gen Gd
structure Cw(F R W:TN):Prop where
 n:F.length<=100
 lr:R.length=F.length
 lw:W.length=F.length
 w:∀k,1<=W.getD k 1/\W.getD k 1<=9
def InB(Bd:Int)(l:TN):=∀v∈l,0<=v/\v<=Bd
def InB.snoc{Bd:Int}{l:TN}{v:Int}(h:InB Bd l)(h0:0<=v)(h1:v<=Bd):InB Bd (l++[v]):=λu hu=>by
 rcases rG.mp hu with z | z
 .show h u z
 .rw[rT.mp z];show⟨h0,h1⟩
def InB.set{Bd:Int}{l:TN}{v:Int}(h:InB Bd l)(k:Nat)(h0:0<=v)(h1:v<=Bd):InB Bd (l.set k v):=λu hu=>by
 rcases List.mem_or_eq_of_mem_set hu with z | z
 .show h u z
 .rw[z];show⟨h0,h1⟩
def InB.at{Bd:Int}{l:TN}(h:InB Bd l){k:Nat}{v:Int}(e:l[k]?=!v):0<=v/\v<=Bd:=h v (qN e)
inductive Cy:List V->Hp->VK->XK->Prop
|m (lev M Bd:Int) (f r w:Addr) (F R W:TN):vs=[.int lev,.ref f,.ref r,.ref w,.int M]->LI H f F->LI H r R->LI H w W->Cw F R W->InB Bd F->InB Bd R->0<M->M<=2520->(∀(t:Addr) (x:TN) (H':Hp),H t=none->Same H H'->LI H' t x->x⁻¹=F.length->InB Bd x->Q (.ref t) H')->Cy vs H Q E
inductive Hv:List V->Hp->VK->XK->Prop
|m (w:Addr) (W:TN):vs=[.ref w]->LI H w W->(∀k,1<=W.getD k 1/\W.getD k 1<=9)->(∀M:Int,0<M->M<=2520->Q (.int M) H)->Hv vs H Q E
inductive Hw:List V->Hp->VK->XK->Prop
|m (wd M Bd:Int) (f r w:Addr) (F R W:TN):vs=[.int wd,.ref f,.ref r,.ref w,.int M]->LI H f F->LI H r R->LI H w W->Cw F R W->InB Bd F->InB Bd R->0<M->M<=2520->R≠[]->(∀(lev:Int) (H':Hp),Same H H'->Q (.int lev) H')->Hw vs H Q E
inductive Hx:List V->Hp->VK->XK->Prop
|m (wd Bd:Int) (f r w:Addr) (F R W:TN):vs=[.int wd,.ref f,.ref r,.ref w]->LI H f F->LI H r R->LI H w W->Cw F R W->InB Bd F->InB Bd R->(∀(t:Addr) (x:TN) (H':Hp),H t=none->Same H H'->LI H' t x->x⁻¹=F.length->InB Bd x->Q (.ref t) H')->Hx vs H Q E
end Shr
namespace Sp0
open L2 Bk Gen Gd Bd Shr
structure Cx3(M:Int)(ds:List Nd)(ls:TB)(bs:TC):Prop where
 le:ds⁻¹<=100
 pos:0<ds⁻¹
 ll:ls⁻¹=ds⁻¹
 bl:bs⁻¹=ds⁻¹
 lk:∀l∈ls,lN l
 bb:∀b∈bs,0<=b.1/\b.1<=M
 m4:4000<=M
def SpB(Bd:Int)(z:TC):=∀s∈z,0<=s.2/\s.2<=Bd
section
variable{ds:List Nd}{ls:TB}{bs:TC}{M:Int}
def Cx3.look(c:Cx3 M ds ls bs){n:Nat}(h:n<ds⁻¹):∃l,ls[n]?=!l/\lN l/\∀i,aB ls n i=l.getD i 0:=by
 let hl:n<ls⁻¹:=by rw[c.ll];show h
 show⟨ls[n],qB hl,c.lk _ (rJ hl),λi=>?_⟩;unfold aB;rw[qB hl];rfl
def Cx3.l13(c:Cx3 M ds ls bs):∀l∈ls,l⁻¹=13:=λl h=>(c.lk l h).len
def Cx3.ok(c:Cx3 M ds ls bs)(n:Nat):Cw ((aw ds n).map (cD ls bs)) ((aw ds n).map (ge ls bs)) ((aw ds n).map λm=>aB ls m 4):=by
 let le:=c.le;let kl:=mO ds n;show⟨by rw[qA];omega,by rw[qA,qA],by rw[qA,qA],λk=>?_⟩
 by_cases hk:k<(aw ds n)⁻¹
 .let⟨l,_,ok,lv⟩:=c.look (cO (rJ hk));rw[at_getD (n:=aB ls (aw ds n)[k] 4) (by rw[qH,qB hk];rfl),lv];show ok.wt
 .rw[qW,xN (by rw[qA];omega)];decide
def Cx3.cells(c:Cx3 M ds ls bs)(n:Nat):wv (b8 ls (aw ds n)):=λx hx=>by
 let⟨m,hm,rfl⟩:=qP.mp hx;let⟨l,_,ok,lv⟩:=c.look (cO hm);let h1:=ok.span;let h2:=ok.deep;rw[<-lv]at h1 h2;show⟨by show 1<=(aB ls m 8).toNat;omega,by show(aB ls m 8).toNat<=6;omega,by show 1<=(aB ls m 9).toNat;omega,by show(aB ls m 9).toNat<=4;omega⟩
def Cx3.fr(c:Cx3 M ds ls bs){n m:Nat}(h:m∈aw ds n):0<=cD ls bs m/\cD ls bs m<=M/\0<=ge ls bs m/\ge ls bs m<=M:=by
 let hm:=cO h;let⟨l,_,ok,lv⟩:=c.look hm;let b:=c.bb _ (rJ (show m<bs⁻¹ by rw[c.bl];show hm));let eb:aJ bs m=bs[m]'(by rw[c.bl];show hm):=by unfold aJ;rw[qB (by rw[c.bl];show hm)];rfl
 let h1:=ok.least4;let h2:=ok.most4;let h3:=c.m4;unfold ge cD;rw[lv,lv,eb];omega
def Cx3.inF(c:Cx3 M ds ls bs)(n:Nat):InB M ((aw ds n).map (cD ls bs))/\InB M ((aw ds n).map (ge ls bs)):=by
 show⟨λv hv=>?_,λv hv=>?_⟩<;>let⟨m,hm,rfl⟩:=qP.mp hv<;>have:=c.fr hm
 .show⟨this.1,this.2.1⟩
 .show this.2.2
end
def InB.mono{B B':Int}{l:TN}(h:InB B l)(le:B<=B'):InB B' l:=λv hv=>⟨(h v hv).1,xW (h v hv).2 le⟩
def SpB.mono{B B':Int}{l:TC}(h:SpB B l)(le:B<=B'):SpB B' l:=λv hv=>⟨(h v hv).1,xW (h v hv).2 le⟩
def SpB.at{B:Int}{l:TC}(h:SpB B l){n:Nat}(hn:n<l⁻¹):0<=(aJ l n).2/\(aJ l n).2<=B:=by
 unfold aJ;rw[qB hn];show h _ (rJ hn)
theorem SpB.put{B:Int}:∀{ks:TM} {zs sp:TC},SpB B sp->SpB B zs->SpB B (putAll sp ks zs)
 | [],_,_,h,_=>by unfold putAll;show h
 | _::_,[],_,h,_=>by unfold putAll;show h
 | k :: ks, z :: zs, sp, h, hz => by
   unfold putAll
   show SpB.put (λs hs=>?_) λs hs=>hz s (qS _ hs)
   rcases List.mem_or_eq_of_mem_set hs with e | e
   · show h s e
   · rw[e];show hz z rE
def SpB.behind{B left:Int}{x:TN}(h:InB B x):SpB B (iA left x):=λs hs=>by
 unfold iA at hs;let⟨k,hk,rfl⟩:=qP.mp hs;let hk:=xC.mp hk;show 0<=x.getD k 0/\x.getD k 0<=B;rw[qW,qB hk];show h _ (rJ hk)
def Pn{B:Int}{ls:TB}{sp:TC}{n:Nat}(h0:0<=aB ls n 3)(hs:0<=(aJ sp n).2/\(aJ sp n).2<=B):0<=(cf ls sp n).2/\(cf ls sp n).2<=B:=by
 unfold cf;show 0<=max 0 _/\max 0 _<=B;omega
theorem sum_b{B:Int}(hB:0<=B):∀{l:TN} {n:Nat},l⁻¹<=n->(∀v∈l,0<=v/\v<=B)->0<=l.sum/\l.sum<=n*B
 | [],n,_,_=>⟨xF _,Int.mul_nonneg (Int.natCast_nonneg n) hB⟩
 | x::l,0,h,_=>by simp at h
 | x :: l, n + 1, h, q => by
   let ih:=sum_b hB (l:=l) (n:=n) ‹h› λv hv=>q v (qS _ hv)
   have:=q x rE
   rw[List.sum_cons,show((n+1:Nat):Int)*B=n*B+B by rw[Int.natCast_add,Int.add_mul];simp]
   omega
def gW(M:Int):Nat->Int
 | 0=>M
 | k+1=>6*gW M k+6
theorem Hy{M:Int}(h:4000<=M):∀k,M<=gW M k
 | 0=>xF _
 | k + 1 => by
   have:=Hy h k
   show M<=6*gW M k+6
   omega
structure HeldP(ds:List Nd)(ls:TB)(rm:Int×Int)(n:Nat)(d:Nd)(zs:TC):Prop where
 sh:d.k=.shelf->∃x:TN,(∀v∈x,0<=v)/\zs=iA rm.1 x
 gr:d.k=.grid->∃pl,Placed (aB ls n 7).toNat (b8 ls (aw ds n)) pl/\PsOk (aB ls n 7).toNat pl/\zs=pl.map (cR rm (aB ls n 7))
 pi:¬(d.k=.text\/d.k=.head\/d.k=.note)->d.k≠.shelf->d.k≠.grid->zs=(aw ds n).map (m7 ds ls rm)
section
variable{ds:List Nd}{ls:TB}{rm:Int×Int}{n:Nat}{d:Nd}{zs:TC}
def HeldP.text(h:d.k=.text\/d.k=.head\/d.k=.note):HeldP ds ls rm n d zs:=by
 show⟨λz=>?_,λz=>?_,λz=>qT h z⟩<;>rw[z]at h<;>rcases h with h | h | h<;>cases h
def HeldP.shelf(h:d.k=.shelf){x:TN}(hx:∀v∈x,0<=v):HeldP ds ls rm n d (iA rm.1 x):=⟨λ_=>⟨x,hx,O⟩,(λz=>by rw[h]at z;cases z),λ_ z=>qT h z⟩
def HeldP.grid(h:d.k=.grid)(h1:Placed (aB ls n 7).toNat (b8 ls (aw ds n)) pl)(h2:PsOk (aB ls n 7).toNat pl):HeldP ds ls rm n d (pl.map (cR rm (aB ls n 7))):=⟨(λz=>by rw[h]at z;cases z),λ_=>⟨pl,h1,h2,O⟩,λ_ _ z=>qT h z⟩
def HeldP.pile(h1:d.k≠.shelf)(h2:d.k≠.grid):HeldP ds ls rm n d ((aw ds n).map (m7 ds ls rm)):=⟨λz=>qT z h1,λz=>qT z h2,λ_ _ _=>rfl⟩
end
def SpG(ds:List Nd)(ls:TB)(k:Nat)(sp:TC):=∀(n:Nat) (d:Nd),n<k->ds[n]?=!d->HeldP ds ls (cf ls sp n) n d ((aw ds n).map (aJ sp))
def SpG.step{ls:TB}{k:Nat}{sp zs:TC}(bh:Behind ds)(h:SpG ds ls k sp)(ls':sp⁻¹=ds⁻¹)(hl:zs⁻¹=(aw ds k)⁻¹)(ed:ds[k]?=!d)(hz:HeldP ds ls (cf ls sp k) k d zs):SpG ds ls (k+1) (putAll sp (aw ds k) zs):=λn c hn ec=>by
 let nk:n∉aw ds k:=λz=>by
  let⟨c',e1,e2⟩:=fK z;have:=bh n c' e1;omega
 rw[qaZ (Cc nk)]
 by_cases e:n=k
 .subst e;rw[ed]at ec;cases ec;rw[OC (Cd n) hl.symm λj hj=>by rw[ls'];show cO hj];show hz
 .rw[uU λm hm=>Cc λz=>e (OE hm z)];show h n c () ec
def qbI{rm:Int×Int}{cols:Int}(h:0<=rm.2)(hc:0<cols)(hs:p.s<=6):0<=(cR rm cols p).2/\(cR rm cols p).2<=6*rm.2+6:=by
 unfold cR m9;let h1:=Int.ediv_nonneg h (v5 hc);let h2:=Int.ediv_le_self cols h;let h3:=uE rm.2 (show cols≠0 by omega);let e:((p.c+p.s:Nat):Int)*(rm.2 / cols)=(p.c:Int)*(rm.2 / cols)+(p.s:Int)*(rm.2 / cols):=by rw[show((p.c+p.s:Nat):Int)=(p.c:Int)+p.s by omega,Int.add_mul]
 let h4:0<=(p.s:Int)*(rm.2 / cols):=Int.mul_nonneg () h1;let h5:(p.s:Int)*(rm.2 / cols)<=6*rm.2:=Int.mul_le_mul () h2 h1 {};show 0<=rm.1+((p.c+p.s:Nat):Int)*(rm.2 / cols)+min ((p.c+p.s:Nat):Int) (rm.2 % cols)-(rm.1+(p.c:Int)*(rm.2 / cols)+min (p.c:Int) (rm.2 % cols))/\rm.1+((p.c+p.s:Nat):Int)*(rm.2 / cols)+min ((p.c+p.s:Nat):Int) (rm.2 % cols)-(rm.1+(p.c:Int)*(rm.2 / cols)+min (p.c:Int) (rm.2 % cols))<=6*rm.2+6;omega
inductive Hz:List V->Hp->VK->XK->Prop
|m (r C:Addr) (rm:Int×Int) (cols:Int) (cs:List (Nat×Nat)):vs=[.ref r,.int cols,.ref C]->PrAt H r rm->0<=rm.2->LstAt TupAt H C cs->wv cs->cs⁻¹<=100->1<=cols->cols<=6->(∀(t:Addr) (pl:List Pl) (H':Hp),H t=none->Same H H'->Placed cols.toNat cs pl->PsOk cols.toNat pl->LstAt PrAt H' t (pl.map (cR rm cols))->Q (.ref t) H')->Hz vs H Q E
inductive HB:List V->Hp->VK->XK->Prop
|m (M Bd:Int) (B p L S:Addr) (n:Nat) (d:Nd) (ds:List Nd) (ls:TB) (bs sp:TC):vs=[.ref B,.ref p,.ref L,.ref S,.int n]->InS H B p L ds ls bs->LstAt PrAt H S sp->sp⁻¹=ds⁻¹->ds[n]?=!d->Cx3 M ds ls bs->M<=Bd->SpB Bd sp->(∀(t:Addr) (z:TC) (H':Hp),H t=none->Same H H'->z⁻¹=(aw ds n)⁻¹->SpB (6*Bd+6) z->HeldP ds ls (cf ls sp n) n d z->LstAt PrAt H' t z->Q (.ref t) H')->HB vs H Q E
inductive HC:List V->Hp->VK->XK->Prop
|m (M:Int) (B p L:Addr) (wide:Int) (ds:List Nd) (ls:TB) (bs:TC):vs=[.ref B,.ref p,.ref L,.int wide]->InS H B p L ds ls bs->Cx3 M ds ls bs->Behind ds->0<=wide->wide<=M->(∀(t:Addr) (sp:TC) (H':Hp),H t=none->Same H H'->LstAt PrAt H' t sp->sp⁻¹=ds⁻¹->SpB (gW M ds⁻¹) sp->SpG ds ls ds⁻¹ sp->Q (.ref t) H')->HC vs H Q E
end Sp0
namespace K33
open L2 Bk Gen Gd Bd Shr Sp0
structure sw(mg:TJ):Prop where
 kind:∃t,mg "KIND" = !.int 1 t
 low:∃t,mg "LOW" = !.int 0 t
 left:∃t,mg "LEFT" = !.int 0 t
 wide:∃t,mg "WIDE_spans" = !.int 1 t
 column:∃t,mg "COLUMN" = !.int 1 t
 span:∃t,mg "SPAN" = !.int 2 t
def qbJ:iV (s!"weight") 4:=⟨by ac_rfl,by ac_rfl⟩
def qbK:iV (s!"deep") 9:=⟨by ac_rfl,by ac_rfl⟩
def qbL:iV (s!"side") 10:=⟨by ac_rfl,by ac_rfl⟩
abbrev Po:=top 75
abbrev Pp:=top 91
abbrev Pq:=top 92
abbrev Pr:=top 93
abbrev Ps:=top 94
abbrev Pu:=top 95
abbrev Pw:=top 97
abbrev Px:=top 96
abbrev Py:=top 98
def qbM(F:Fu K "cells_of" Po fn fd)(cA:⋯ 1 "look_at" ["looks", "node", "word"] fL):(~~~0) 2 fn fd ["looks", "held"] Cg:=by
 rcases F.go ["looks", "held"] with⟨p,k,ks,ls,rfl,lk,hk,oZ,kin,cQ,q⟩;show⟨_,(aA (aH (cm ["one"] ["looks"] [0] (bc '1') (nv 0) br (bR (a2 (cF cA hr (a3 '1' '0' aU)) (cF cA hr (a3 '1' '0' aU))))))),_,O,k,O,⟨_,ag hk⟩,bB (xs:=⇑(ks.map λ(j:Nat)=>(j:Int))) (λi ys ae H'=>Same H H'/\(∃z,ae=[z,!.ref p])/\∃as,ys=↑as/\Paired (TupAt H') as ((b8 ls ks).take i)) (by rw[qA,qA];show aW ()) ⟨Same.refl H,⟨none,O⟩,[],O,.nil⟩ ?_ ?_ ?_⟩
 .ext i ys ae H' hi ⟨s1,_,as,rfl,pr⟩;show ag (s1 _ _ hk)
 .ext i y ys ae H' hy ⟨s1,⟨z,rfl⟩,as,rfl,pr⟩;let⟨m,em,rfl⟩:=fN hy;let hm:=kin m (qN em);let l13:∀l∈ls,l⁻¹=13:=λl h=>(cQ l h).len
  let lo:=cQ _ (rJ hm);let lv:∀i,aB ls m i=ls[m].getD i 0:=λi=>by unfold aB;rw[qB hm];rfl
  let b1:=lo.span;let b2:=lo.deep;rw[<-lv]at b1 b2;show¬⟨p,m,8,_,ls,O,dg s1 lk,hm,l13,{},O7,_,O,_,O,p,m,9,_,ls,O,dg s1 lk,hm,l13,{},qbK,aT,λt ht=>?_⟩;let s2:=ay ht (.tup [.int (aB ls m 8),.int (aB ls m 9)]);show⟨s1.trans s2,⟨_,O⟩,as++[t],by rw[qD];rfl,?_⟩;let ec:(b8 ls ks)[i]?=!((aB ls m 8).toNat,(aB ls m 9).toNat):=by unfold b8;rw[qH,em];rfl
  rw[qO,ec];show(qo (.of s2) pr).snoc ?_;show af H' t _ t=!.tup [.int (((aB ls m 8).toNat:Nat):Int),.int (((aB ls m 9).toNat:Nat):Int)];rw[ar,Int.toNat_of_nonneg (),Int.toNat_of_nonneg ()]
 .ext ys ae H' ⟨s1,_,as,rfl,pr⟩ D hD;rw[qI (by rw[Ci,qA,qA];show qG _)]at pr;show q D _ (s1.free hD) (s1.trans (ay hD _)) ⟨as,ar,qo (.of (ay hD _)) pr⟩
def qbN(F:Fu K "room_of" Pp fn fd)(T:bY mg)(U:sw mg)(cA:⋯ 1 "look_at" ["looks", "node", "word"] fL):(~~~0) 2 fn fd ["looks", "spans", "node"] Cf:=by
 rcases F.go ["looks", "spans", "node", "inset"] with⟨p,S,n,ls,sp,rfl,lk,⟨as,hS,pr⟩,hn,hs,l13,q⟩;let⟨_,kh⟩:=U.left;let⟨_,gN⟩:=U.wide;let⟨a,ea,ha⟩:=dP pr (rz hs);show⟨_,(ax (sv 3 (cF cA hr (a3 '0' '2' aU)))
  (aA (aH (bR (a2 (aG a9 (px aF (px aK '1' '2') (gi kh)) '3') (cb (kH (by rfl)) T.max dU (a2 (aG c9 (px aF (px aK '1' '2') (gi gN)) (aG eR ao '3')) ao))))))),?_⟩
 show¬⟨p,n,3,_,ls,O,lk,hn,l13,{},O6,_,O,_,O,S,_,_,_,O,O,ag hS,aX ea,a,_,_,_,O,O,aC ha,O,_,O,_,_,O,O,_,O,_,O,S,_,_,_,O,O,ag hS,aX ea,a,_,_,_,O,O,aC ha,O,_,O,_,_,O,O,.inl ⟨{},{}⟩,_,_,O,O,_,_,O,aT,λt ht=>?_⟩;show q t _ ht (ay ht _) ?_;show af H t _ t=_;rw[ar,sj];unfold cf;rw[show max 0 ((aJ sp n).2-2*aB ls n 3)=max ((aJ sp n).2-2*aB ls n 3) 0 by omega]
def qbO(F:Fu K "floors_of" Pq fn fd)(o7:⋯ 2 "floor_of" ["looks", "bounds", "one"] (jp cD)):(~~~0) 3 fn fd ["looks", "bounds", "held"] (yc cD):=by
 rcases F.go ["looks", "bounds", "held"] with⟨p,L,k,ks,ls,bs,rfl,lk,lb,hk,oZ,kin,l13,q⟩;show⟨_,(aA (aH (cm ["one"] ["looks", "bounds"] [0,1] (bc '2') (nv 0) br (cF o7 hr (a3 '1' '2' '0'))))),_,O,k,O,⟨_,ag hk⟩,bB (xs:=⇑(ks.map λ(j:Nat)=>(j:Int))) (λi ys ae H'=>H'=H/\(∃z,ae=[z,!.ref p,!.ref L])/\ys=⇑((ks.map (cD ls bs)).take i)) (by rw[qA,qA];show aW ()) ⟨O,⟨none,O⟩,O⟩ ?_ ?_ ?_⟩
 .ext i ys ae H' hi ⟨rfl,_,rfl⟩;show ag hk
 .ext i y ys ae H' hy ⟨rfl,⟨z,rfl⟩,rfl⟩;let⟨m,em,rfl⟩:=fN hy;let⟨m1,m2⟩:=kin m (qN em);show¬⟨_,O,p,L,m,ls,bs,O,lk,lb,m1,m2,l13,O,⟨_,O⟩,?_⟩;let ec:(ks.map (cD ls bs))[i]?=!cD ls bs m:=by rw[qH,em];rfl
  rw[qO,ec,qD];rfl
 .ext ys ae H' ⟨rfl,_,rfl⟩ D hD;rw[qI (by rw[qA,qA,qA];show qG _)];show q D _ hD (ay hD _) ar
def qbP(F:Fu K "roofs_of" Pr fn fd)(Hh:⋯ 3 "roof_of" ["looks", "bounds", "one"] (jp ge)):(~~~0) 4 fn fd ["looks", "bounds", "held"] (yc ge):=by
 rcases F.go ["looks", "bounds", "held"] with⟨p,L,k,ks,ls,bs,rfl,lk,lb,hk,oZ,kin,l13,q⟩;show⟨_,(aA (aH (cm ["one"] ["looks", "bounds"] [0,1] (bc '2') (nv 0) br (cF Hh hr (a3 '1' '2' '0'))))),_,O,k,O,⟨_,ag hk⟩,bB (xs:=⇑(ks.map λ(j:Nat)=>(j:Int))) (λi ys ae H'=>H'=H/\(∃z,ae=[z,!.ref p,!.ref L])/\ys=⇑((ks.map (ge ls bs)).take i)) (by rw[qA,qA];show aW ()) ⟨O,⟨none,O⟩,O⟩ ?_ ?_ ?_⟩
 .ext i ys ae H' hi ⟨rfl,_,rfl⟩;show ag hk
 .ext i y ys ae H' hy ⟨rfl,⟨z,rfl⟩,rfl⟩;let⟨m,em,rfl⟩:=fN hy;let⟨m1,m2⟩:=kin m (qN em);show¬⟨_,O,p,L,m,ls,bs,O,lk,lb,m1,m2,l13,O,⟨_,O⟩,?_⟩;let ec:(ks.map (ge ls bs))[i]?=!ge ls bs m:=by rw[qH,em];rfl
  rw[qO,ec,qD];rfl
 .ext ys ae H' ⟨rfl,_,rfl⟩ D hD;rw[qI (by rw[qA,qA,qA];show qG _)];show q D _ hD (ay hD _) ar
def qbQ(F:Fu K "weights_of" Ps fn fd)(cA:⋯ 1 "look_at" ["looks", "node", "word"] fL):(~~~0) 2 fn fd ["looks", "held"] GK:=by
 rcases F.go ["looks", "held"] with⟨p,k,ks,ls,rfl,lk,hk,oZ,kin,l13,q⟩;show⟨_,(aA (aH (cm ["one"] ["looks"] [0] (bc '1') (nv 0) br (cF cA hr (a3 '1' '0' aU))))),_,O,k,O,⟨_,ag hk⟩,bB (xs:=⇑(ks.map λ(j:Nat)=>(j:Int))) (λi ys ae H'=>H'=H/\(∃z,ae=[z,!.ref p])/\ys=⇑((ks.map λm=>aB ls m 4).take i)) (by rw[qA,qA];show aW ()) ⟨O,⟨none,O⟩,O⟩ ?_ ?_ ?_⟩
 .ext i ys ae H' hi ⟨rfl,_,rfl⟩;show ag hk
 .ext i y ys ae H' hy ⟨rfl,⟨z,rfl⟩,rfl⟩;let⟨m,em,rfl⟩:=fN hy;let m1:=kin m (qN em);show¬⟨p,m,4,_,ls,O,lk,m1,l13,{},qbJ,O,⟨_,O⟩,?_⟩;let ec:(ks.map λm=>aB ls m 4)[i]?=!aB ls m 4:=by rw[qH,em];rfl
  rw[qO,ec,qD];rfl
 .ext ys ae H' ⟨rfl,_,rfl⟩ D hD;rw[qI (by rw[qA,qA,qA];show qG _)];show q D _ hD (ay hD _) ar
def qbR(F:Fu K "one_behind_the_other" Pu fn fd)(T:bY mg):(~~~0) 1 fn fd ["left", "wides"] GL:=by
 rcases F.go ["left", "wides"] with⟨left,a,x,rfl,ha,oZ,q⟩;show⟨_,(aA (aH (cm ["place", "wide"] ["left", "wides"] [0,1] (qa (by rfl) T.enumerate (a1 '1')) (mH K (n:=2) (by rfl) (by rfl) (bF (nv 0) (bF (nv 1) dZ))) br (bR (a2 (aG a9 '2' (cb (r:=xb K) (GP K (by rfl) (by rfl)) T.sum fJ (a1 (jL (r:=pY K) (FE K (by rfl)) '3' oa (hG '0'))))) '1'))))),_,O,a,O,⟨_,ag ha⟩,L8 (xs:=⇑x) (λi ys ae H'=>Same H H'/\(∃z0 z1,ae=[z0,z1,!.int left,!.ref a])/\∃as,ys=↑as/\Paired (PrAt H') as ((iA left x).take i)) (by rw[qA];show aW ()) ⟨Same.refl H,⟨none,none,O⟩,[],O,.nil⟩ ?_ ?_ ?_⟩
 .ext i ys ae H' hi ⟨s1,_,as,rfl,pr⟩;show ag (s1 _ _ ha)
 .ext i y ys ae H' T' hy hT ⟨s1,⟨z0,z1,rfl⟩,as,rfl,pr⟩;let⟨v,ev,rfl⟩:=oW hy;let hi:i<x⁻¹:=(qE.mp ev).1;let s2:=ay hT (.tup [.int (i:Int),.int v]);let be:=s1.trans s2;let qy:Paired (PrAt (af H' T' (.tup [.int (i:Int),.int v]))) as ((iA left x).take i):=pr.mono λ_ _ z=>s2 _ _ z
  show⟨T',_,O,aC ar,O,_,_,O,_,_,O,O,?_⟩;generalize af H' T' (.tup [.int (i:Int),.int v])=H2 at be qy⊢;show¬⟨_,O,(i:Int),O,a,_,O,ag (be _ _ ha),λS hS=>?_⟩;rw[GO];let s3:=ay hS (.lst ⇑(x.take i));show⟨S,_,O,ag ar,_,_,O,O,_,O,aT,λt ht=>?_⟩;let s4:=s3.trans (ay ht (.tup [.int (left+(x.take i).sum),.int v]));show⟨be.trans s4,⟨_,_,O⟩,as++[t],by rw[qD];rfl,?_⟩;let ec:(iA left x)[i]?=!(left+(x.take i).sum,v):=by
   unfold iA;rw[qH,rX hi];show some (left+(x.take i).sum,x.getD i 0)=_;rw[at_getD ev]
  rw[qO,ec];show(qy.mono λ_ _ z=>s4 _ _ z).snoc ar
 .ext ys ae H' ⟨s1,_,as,rfl,pr⟩ D hD;rw[qI (by rw[GJ,qA];show qG _)]at pr;show q D _ (s1.free hD) (s1.trans (ay hD _)) ⟨as,ar,pr.mono λ_ _ z=>ay hD _ _ _ z⟩
def qbS(F:Fu K "even_columns" Pw fn fd)(T:bY mg):(~~~0) 1 fn fd ["wide", "columns"] GM:=by
 rcases F.go ["wide", "columns", "each", "rest"] with⟨wd,cols,rfl,c1,c6,q⟩;show⟨_,(ax (sv 2 (aG vd '0' '1'))
  (ax (sv 3 (aG c9 '0' (aG eR '2' '1')))
  (aA (aH (cm ["column"] ["each", "rest"] [2,3] (r1 T.range '1') (nv 0) br (jI (tc jd '0' '2') (aG a9 '1' ao) '1')))))),?_⟩
 show¬⟨_,_,O,O,⟨(),()⟩,_,O,_,O,_,O,_,_,O,O,.inr ⟨(),()⟩,_,_,O,O,_,O,_,O,(),(),jO (n:=cols.toNat) (λi ys ae H'=>H'=H/\(∃z,ae=[z,!.int (wd / cols),!.int (wd-wd / cols*cols)])/\ys=⇑((dq wd cols).take i)) (aW ()) ⟨O,⟨none,O⟩,O⟩ ?_ ?_⟩
 .ext i ys ae H' hi ⟨rfl,⟨z,rfl⟩,rfl⟩;rw[show(0:Int)+(i:Int)=(i:Int)from uY _];let ec:(dq wd cols)[i]?=!(if(i:Int)<wd-wd / cols*cols then wd / cols+1 else wd / cols):=by
   unfold dq;rw[qH,rX hi];rfl
  show¬⟨_,_,O,O,_,O,?_⟩;show cz (λc=>?_) (λc=>?_)
  .show-⟨_,_,O,O,O,⟨_,O⟩,?_⟩;rw[qO,ec,qX (rF c),qD];rfl
  .show-⟨O,⟨_,O⟩,?_⟩;rw[qO,ec,qY (λz=>c (qR z)),qD];rfl
 .ext ys ae H' ⟨rfl,_,rfl⟩ D hD;rw[qI (by rw[OH];show qG _)];show q D _ hD (ay hD _) ar
def qbT(F:Fu K "cell_spans" Px fn fd)(T:bY mg)(U:sw mg)(qbU:⋯ 1 "even_columns" ["wide", "columns"] GM)(HE:⋯ 3 "grid_places" ["columns", "cells"] BC):(~~~0) 4 fn fd ["room", "columns", "cells"] Hz:=by
 rcases F.go ["room", "columns", "cells", "wides", "spans", "place", "left"] with⟨r,C,rm,cols,cs,rfl,hR,r0,lC,sr,qbV,c1,c6,q⟩;let⟨_,kh⟩:=U.left;let⟨_,gN⟩:=U.wide;let⟨_,su⟩:=U.column;let⟨_,Hl⟩:=U.span;show⟨_,(ax (sv 3 (cF qbU hr (a2 (px aF '0' (gi gN)) '1')))
  (ax (sv 4 (bf bX))
  (ax (fv (bc (cF HE hr (a2 '1' '2'))) (nv 5)
  (ax (sv 6 (aG a9 (px aF '0' (gi kh)) (cb (ir (by rfl)) T.sum fJ (a1 (jL mw '3' oa (hG (px aF '5' (gi su))))))))
  (aA (cI (ap '4' (bR (a2 '6' (cb (ir (by rfl)) T.sum fJ (a1 (jL mw '3' (hG (px aF '5' (gi su))) (hG (aG a9 (px aF '5' (gi su)) (px aF '5' (gi Hl))))))))))))))
  (aA (aH '4'))))),?_⟩
 show-⟨r,_,_,_,O,O,aC hR,O,_,O,rm.2,cols,O,c1,c6,λW H1 hW s1 HF=>?_⟩;show⟨aT,λL hL=>?_⟩;let s2:=ay hL (.lst []);let bo:af H1 L (.lst []) L=!.lst ↑([]:TQ):=ar;let L0:H L=none:=s1.free hL;let be:=s1.trans s2;let Cz:LI (af H1 L (.lst [])) W (dq rm.2 cols):=s2 _ _ HF;generalize af H1 L (.lst [])=H2 at s2 bo be Cz⊢;obtain⟨cn,rfl⟩:∃cn:Nat,cols=(cn:Int):=⟨cols.toNat,()⟩;show¬⟨C,cn,cs,O,lC.tup be,sr,qbV,(),(),λM H3 ps hM s3 lM pd jY=>?_⟩;let dC:=be.trans s3;let lp:=pd.len;let⟨as,lJ,pr⟩:=lM;let la:=qU pr;let LM:M≠L:=λz=>by rw[z]at hM;rw[bo]at hM;cases hM
 show⟨M,O,⟨_,ag lJ⟩,iK (xs:=↑as) (λi σ H'=>Keep1 L H3 H'/\(∃z5 z6,σ=[!.ref r,!.int (cn:Int),!.ref C,!.ref W,!.ref L,z5,z6])/\LstAt PrAt H' L ((ps.take i).map (cR rm cn))) ⟨KeepN.refl,⟨none,none,O⟩,[],s3 _ _ bo,.nil⟩ ?_ ?_ ?_⟩
 .ext i σ H' hi ⟨k1,_⟩;show ag (k1 _ _ LM lJ)
 .ext i y σ H' hy ⟨k1,⟨z5,z6,rfl⟩,bs,F3,fQ⟩;let⟨a,ea,rfl⟩:=cJ hy;let⟨p,pe,ha⟩:=bW pr ea;let pk:=jY p (qN pe);let nL:∀{b:Addr} {xs:List V},H3 b=!.tup xs->b≠L:=λe z=>by rw[z,s3 _ _ bo]at e;cases e
  let mL:PlAt H' a p:=k1 _ _ (nL ha) ha;let hR':PrAt H' r rm:=k1 _ _ (nL (dC _ _ hR)) (dC _ _ hR);let WL:W≠L:=λz=>by
   rw[z]at HF;rw[show H1 L=_ from HF]at hL;cases hL
  let Pz:LI H' W (dq rm.2 cn):=k1 _ _ WL (s3 _ _ Cz);let cle:p.c+p.s<=cn:=pk.2.2.2.2.2;let HG:(0:Int)<(cn:Int):=()
  show-⟨r,_,_,_,O,O,aC hR',O,_,O,_,O,a,_,_,_,O,O,aC mL,O,(p.c:Int),O,W,_,O,ag Pz,λS hS=>?_⟩;rw[GO];let s4:=ay hS (.lst ⇑((dq rm.2 cn).take p.c));show⟨S,_,O,ag ar,_,_,O,O,?_⟩;show aY 6 (V.int (rm.1+((dq rm.2 cn).take p.c).sum)) _ _ _;let e1:rm.1+((dq rm.2 cn).take p.c).sum=(cR rm cn p).1:=by
   rw[Ce HG ()];show _=rm.1+_+_;omega
  rw[e1];let k4:=k1.trans s4.keep;let CA:PlAt (af H' S (.lst ⇑((dq rm.2 cn).take p.c))) a p:=s4 _ _ mL;let PB:LI (af H' S (.lst ⇑((dq rm.2 cn).take p.c))) W (dq rm.2 cn):=s4 _ _ Pz;let cS:=s4 _ _ F3;let PD:Paired (PrAt (af H' S (.lst ⇑((dq rm.2 cn).take p.c)))) bs ((ps.take i).map (cR rm cn)):=fQ.mono λ_ _ z=>s4 _ _ z
  generalize af H' S (.lst ⇑((dq rm.2 cn).take p.c))=H4 at k4 CA PB cS PD⊢;show-⟨.inl ⟨O,_,ag cS⟩,_,O,_,O,_,O,a,_,_,_,O,O,aC CA,O,(p.c:Int),O,_,O,a,_,_,_,O,O,aC CA,O,_,O,a,_,_,_,O,O,aC CA,O,_,_,O,O,((p.c+p.s:Nat):Int),by show V.int ((p.c:Int)+(p.s:Int))=_;rw[show((p.c+p.s:Nat):Int)=(p.c:Int)+(p.s:Int) by omega],W,_,O,ag PB,λS2 hS2=>?_⟩;rw[qaD () (by rw[OH];omega),show p.c+p.s-p.c=p.s by omega];let s5:=ay hS2 (.lst ⇑(((dq rm.2 cn).drop p.c).take p.s));show⟨S2,_,O,ag ar,aT,λt ht=>?_⟩;let e2:(((dq rm.2 cn).drop p.c).take p.s).sum=(cR rm cn p).2:=by
   rw[OI,Ce HG (),Ce HG ()];show _=rm.1+_+_-(rm.1+_+_);omega
  rw[e2];let s6:=s5.trans (ay ht (.tup [.int (cR rm cn p).1,.int (cR rm cn p).2]));let PF:af (af H4 S2 (.lst ⇑(((dq rm.2 cn).drop p.c).take p.s))) t (.tup [.int (cR rm cn p).1,.int (cR rm cn p).2]) t=!.tup [.int (cR rm cn p).1,.int (cR rm cn p).2]:=ar;let k6:=k4.trans s6.keep;let gn:=s6 _ _ cS;let PH:Paired (PrAt (af (af H4 S2 (.lst ⇑(((dq rm.2 cn).drop p.c).take p.s))) t (.tup [.int (cR rm cn p).1,.int (cR rm cn p).2]))) bs ((ps.take i).map (cR rm cn)):=PD.mono λ_ _ z=>s6 _ _ z
  generalize af (af H4 S2 (.lst ⇑(((dq rm.2 cn).drop p.c).take p.s))) t (.tup [.int (cR rm cn p).1,.int (cR rm cn p).2])=H6 at PF k6 gn PH⊢;let lbs:=qU fQ;let hi:i<as⁻¹:=(qE.mp ea).1;show⟨L,_,_,O,O,gn,aW (by rw[qA,lbs,qA,yC];omega),?_⟩;let tl:=Tups.lst (o:=.lst (↑bs++[.ref t])) gn;show⟨λb o n e=>by rw[aM n];show k6 b o n e,⟨_,_,O⟩,bs++[t],by rw[ar,qD];rfl,?_⟩;let et:(ps.take (i+1)).map (cR rm cn)=(ps.take i).map (cR rm cn)++[cR rm cn p]:=by rw[qO,pe,qD];rfl
  rw[et];show(PH.mono λ_ _ z=>tl _ _ z).snoc (tl _ _ PF)
 .ext σ H' ⟨k1,⟨z5,z6,rfl⟩,lL⟩;rw[qI (by rw[qA,la];show qG _)]at lL;show-⟨q L ps H' L0 (λb o e=>k1 _ _ (λz=>by rw[z,L0]at e;cases e) (dC _ _ e)) pd jY lL⟩
def qbW(F:Fu K "aside_span" Py fn fd)(T:bY mg)(U:sw mg)(cA:⋯ 1 "look_at" ["looks", "node", "word"] fL):(~~~0) 2 fn fd ["looks", "room", "aside"] GN:=by
 rcases F.go ["looks", "room", "aside", "wide"] with⟨p,r,m,ls,rm,rfl,lk,hR,hm,cQ,q⟩;let⟨_,kh⟩:=U.left;let⟨_,gN⟩:=U.wide;let l13:∀l∈ls,l⁻¹=13:=λl h=>(cQ l h).len
 let lv:aB ls m 10=ls[m].getD 10 0:=by unfold aB;rw[qB hm];rfl
 let sd:=(cQ _ (rJ hm)).side;rw[<-lv]at sd;show⟨_,(ax (sv 3 (cb (tZ (by rfl)) T.min mK (a2 (cF cA hr (a3 '0' '2' aU)) (aG DN (px aF '1' (gi gN)) ao))))
  (ax (ba (tc bv (cF cA hr (a3 '0' '2' aU)) ao) (aA (aH (bR (a2 (px aF '1' (gi kh)) '3')))) bi)
  (aA (aH (bR (a2 (aG c9 (aG a9 (px aF '1' (gi kh)) (px aF '1' (gi gN))) '3') '3')))))),?_⟩
 show¬⟨p,m,11,_,ls,O,lk,hm,l13,{},He,_,O,r,_,_,_,O,O,aC hR,O,_,_,O,O,⟨{},{}⟩,_,_,O,?_⟩;rw[Hf];show¬⟨p,m,10,_,ls,O,lk,hm,l13,{},qbL,O,_,O,?_⟩;rcases sd with e | e
 .rw[qR (show V.int (aB ls m 10)=V.int 0 by rw[e])];show bK ⟨_,O,r,_,_,_,O,O,aC hR,O,_,O,aT,λt ht=>q t _ ht (ay ht _) ?_⟩;show af H t _ t=_;rw[ar,e,Int.zero_mul,Int.add_zero];rfl
 .show dM (show¬V.int (aB ls m 10)=V.int 0 from λz=>by have:=V.int.inj z;omega) ⟨_,O,r,_,_,_,O,O,aC hR,O,_,O,r,_,_,_,O,O,aC hR,O,_,_,O,O,_,O,_,_,O,O,_,O,aT,λt ht=>q t _ ht (ay ht _) ?_⟩;show af H t _ t=_;rw[ar,e,Int.one_mul];unfold iX;rw[show rm.1+(rm.2-min (aB ls m 11) (rm.2 / 2))=rm.1+rm.2-min (aB ls m 11) (rm.2 / 2) by omega]
end K33
namespace K33
open L2 Bk Gen Gd Shr
abbrev PJ:=top 85
abbrev PK:=top 83
abbrev PL:=top 84
abbrev PM:=top 82
def qbX(F:Fu K "had_below" PJ f fd)(T:BnS mg):(~~~0) 1 f fd ["level", "floors", "roofs", "weights", "multiple"] Cy:=by
 rcases F.go ["level", "floors", "roofs", "weights", "multiple", "told", "floor", "roof", "weight"] with⟨lev,M,Bd,f,r,w,F,R,W,rfl,hf,hR,hw,ok,iF,iR,M0,M9,q⟩;show⟨_,(ax (sv 5 (bf bX))
  (ax (fv (qaR (by rfl) T.zip (a3 '1' '2' '3')) (jJ (by rfl) (bF (nv 6) (bF (nv 7) (bF (nv 8) dZ))))
  (aA (cI (ap '5' (cb (tZ (by rfl)) T.min mK (a2 (cb (kH (by rfl)) T.max dU (a2 (dJ dL (aG vd (aG eR (dJ dL '0') '8') '4')) '6')) '7'))))))
  (aA (aH '5')))),?_⟩
 show⟨aT,λL hL=>?_⟩;let s1:=ay hL (.lst []);let bo:LI (af H L (.lst [])) L []:=ar;generalize af H L (.lst [])=H1 at s1 bo⊢;let n9:=ok.n;show¬⟨_,O,f,r,w,O,⟨_,ag (s1 _ _ hf)⟩,⟨_,ag (s1 _ _ hR)⟩,⟨_,ag (s1 _ _ hw)⟩,qaT (xs:=F.map V.int) (ys:=R.map V.int) (zs:=W.map V.int) (by rw[qA,qA,ok.lr]) (by rw[qA,qA,ok.lw])
  (λi σ H'=>Same H H'/\(∃z6 z7 z8,σ=[!.int lev,!.ref f,!.ref r,!.ref w,!.int M,!.ref L,z6,z7,z8])/\∃x:TN,LI H' L x/\x⁻¹=i/\InB Bd x) ⟨s1,⟨none,none,none,O⟩,[],bo,O,λv hv=>nomatch hv⟩ ?_ ?_ ?_⟩
 .ext i σ H' hi ⟨s2,_⟩;show⟨ag (s2 _ _ hf),ag (s2 _ _ hR),ag (s2 _ _ hw)⟩
 .rintro i x y z σ H' T' hx hy hz hT ⟨s2,⟨z6,z7,z8,rfl⟩,l,h2,ll,il⟩;let⟨a,ea,rfl⟩:=oW hx;let⟨b,eb,rfl⟩:=oW hy;let⟨c,ec,rfl⟩:=oW hz;let hi:i<F.length:=(qE.mp ea).1;let wi:=ok.w i;rw[at_getD ec 1]at wi;let s3:=s2.trans (ay hT (.tup [.int a,.int b,.int c]));let fj:af H' T' (.tup [.int a,.int b,.int c]) T'=!.tup [.int a,.int b,.int c]:=ar;let h3:LI (af H' T' (.tup [.int a,.int b,.int c])) L l:=ay hT _ _ _ h2;generalize af H' T' (.tup [.int a,.int b,.int c])=H3 at s3 fj h3⊢;show⟨T',_,O,aC fj,O,_,_,O,_,_,O,_,_,O,O,_,O,.inl ⟨O,_,ag h3⟩,_,O,_,O,_,O,_,_,O,O,.inr ⟨(),()⟩,_,O,_,_,O,O,⟨M0,()⟩,_,O,_,O,_,_,O,_,O,_,_,O,L,_,_,O,O,h3,?_,?_⟩
  .rw[qA,ll];show aW ()
  .show⟨iq s3 hL,⟨_,_,_,O⟩,l++[if b<(if a > -(-lev*c / M)then a else -(-lev*c / M))then b else(if a > -(-lev*c / M)then a else -(-lev*c / M))],?_,by rw[qJ,ll];rfl,il.snoc ?_ ?_⟩;show af H3 L _ L=_;rw[ar,qD];rfl
   .let ia:=iF.at ea;let ib:=iR.at eb
    split<;>split<;>omega
   .let ia:=iF.at ea;let ib:=iR.at eb
    split<;>split<;>omega
 .ext σ H' ⟨s2,⟨z6,z7,z8,rfl⟩,l,h2,ll,il⟩;show-⟨q L l H' hL s2 h2 (by rw[ll,qA]) il⟩
def qbY(F:Fu K "common_multiple" PK f fd):(~~~0) 1 f fd ["weights"] Hv:=by
 rcases F.go ["weights", "multiple", "weight", "step"] with⟨w,W,rfl,hw,ok,q⟩;show⟨_,(ax (sv 1 ao)
  (ax (fv (bc '0') (nv 2)
  (ax (sv 3 '1')
  (aA (AK vE (tc jc (aG mq '1' '2') ao) (aA (av 1 '3' DH))))))
  (aA (aH '1')))),?_⟩
 show-⟨w,O,⟨_,ag hw⟩,iK (xs:=W.map V.int) (λi σ H'=>H'=H/\∃(M:Int) (z2 z3:Option V),σ=[!.ref w,!.int M,z2,z3]/\0<M/\M∣2520) ⟨O,1,none,none,O,{},⟨2520,O⟩⟩ ?_ ?_ ?_⟩
 .ext i σ H' hi ⟨rfl,_⟩;show ag hw
 .rintro i x σ H' hx ⟨rfl,M,z2,z3,rfl,M0,M9⟩;let⟨c,ec,rfl⟩:=oW hx;let wi:=ok i;rw[at_getD ec 1]at wi;show-⟨λm σ H2=>H2=H'/\∃t:Nat,m=c.toNat-t/\σ=[!.ref w,!.int (M*((t:Int)+1)),!.int c,!.int M]/\∀s:Nat,s<t->M*((s:Int)+1) % c≠0,-⟨0,O,by rw[show M*(((0:Nat):Int)+1)=M by omega];rfl,λs hs=>qT hs (xS _)⟩,?_⟩;ext m σ H2 ⟨rfl,t,rfl,rfl,ne⟩;let te:=Oo M0 () ne;show¬⟨_,_,O,O,(show 0<c by omega),O,_,O,?_⟩
  by_cases c0:M*((t:Int)+1) % c=0
  .rw[qR (show V.int (M*((t:Int)+1) % c)=V.int 0 by rw[c0])];show bj ⟨O,M*((t:Int)+1),_,_,O,Int.mul_pos M0 (),qaX M0 M9 (qaY wi.1 wi.2) ne c0⟩
  .rw[qV (show¬V.int (M*((t:Int)+1) % c)=V.int 0 from λz=>c0 (V.int.inj z))];let PN:∀s:Nat,s<t+1->M*((s:Int)+1) % c≠0:=λs hs=>by
    rcases yE.mp hs with h | h
    .show ne s h
    .rw[h];show c0
   let te':=Oo M0 () PN;show bK ⟨λσ H3=>H3=H2/\σ=[!.ref w,!.int (M*(((t+1:Nat):Int)+1)),!.int c,!.int M],?_,?_⟩
   .ext σ H3 ⟨rfl,rfl⟩;show⟨c.toNat-(t+1),(),O,t+1,O,O,PN⟩
   .show¬⟨_,_,O,O,O,?_⟩;let e:M*((t:Int)+1)+M=M*(((t+1:Nat):Int)+1):=by
     rw[show(((t+1:Nat):Int)+1)=((t:Int)+1)+1 by omega,Int.mul_add M ((t:Int)+1) 1,Int.mul_one]
    rw[<-e];rfl
 .ext σ H' ⟨rfl,M,z2,z3,rfl,M0,M9⟩;show-⟨q M M0 (Int.le_of_dvd {} M9)⟩
def qbZ(F:Fu K "last_level" PL f fd)(T:BnS mg)(HH:⋯ 1 "had_below" ["level", "floors", "roofs", "weights", "multiple"] Cy):(~~~0) 2 f fd ["width", "floors", "roofs", "weights", "multiple"] Hw:=by
 rcases F.go ["width", "floors", "roofs", "weights", "multiple", "low", "high", "middle"] with⟨wd,M,Bd,f,r,w,F,R,W,rfl,hf,hR,hw,ok,iF,iR,M0,M9,ne,q⟩;obtain⟨top,ht,hm⟩:∃top,top∈R/\∀x∈R,x<=top:=OA ne;show⟨_,(ax (sv 5 ao)
  (ax (sv 6 (aG eR (cb (oK (by rfl)) T.max dU (a1 '2')) '4'))
  (ax (AK vE (tc gZ (aG c9 '6' '5') ao) (ax (sv 7 (aG DN (aG a9 '5' '6') ao))
  (aA (ba (tc tX (cb (ir (by rfl)) T.sum fJ (a1 (cF HH hr (aO '7' (aO '1' (a3 '2' '3' '4')))))) '0') (aA (sv 5 '7')) (aA (sv 6 '7'))))))
  (aA (aH '5'))))),?_⟩
 show-⟨r,R,top,O,ag hR,ht,hm,_,O,_,_,O,O,.inr ⟨(),()⟩,λm σ H'=>Same H H'/\∃(lo hi:Int) (z:Option V),σ=[!.int wd,!.ref f,!.ref r,!.ref w,!.int M,!.int lo,!.int hi,z]/\m=(hi-lo).toNat,⟨_,Same.refl H,0,top*M,none,O,O⟩,?_⟩;ext m σ H' ⟨s1,lo,hi,z,rfl,rfl⟩;show¬⟨_,_,O,O,_,_,O,O,_,O,?_⟩;show cz (λc=>?_) (λc=>?_)
 .let c':hi-lo>1:=rF c;show⟨λσ H'=>Same H H'/\∃(yx cC:Int) (z:Option V),σ=[!.int wd,!.ref f,!.ref r,!.ref w,!.int M,!.int yx,!.int cC,z]/\cC-yx<hi-lo,?_,?_⟩
  .ext σ H' ⟨s2,yx,cC,z,rfl,d⟩;show⟨(cC-yx).toNat,(),s2,yx,cC,z,O,O⟩
  show¬⟨_,_,O,O,_,_,O,O,⟨{},{}⟩,_,O,_,O,_,O,_,O,_,O,_,M,Bd,f,r,w,F,R,W,O,s1 _ _ hf,s1 _ _ hR,s1 _ _ hw,ok,iF,iR,M0,M9,λt x H2 wf s2 h2 _ _=>?_⟩;show⟨t,_,O,ag h2,_,O,_,_,O,O,_,O,?_⟩;show cz (λd=>?_) (λd=>?_)
  .show-⟨s1.trans s2,(lo+hi) / 2,hi,_,O,()⟩
  .show-⟨s1.trans s2,lo,(lo+hi) / 2,_,O,()⟩
 .show-⟨q lo H' s1⟩
def qb0(F:Fu K "shares" PM f fd)(T:BnS mg)(qb1:⋯ 1 "common_multiple" ["weights"] Hv)(qb2:⋯ 2 "last_level" ["width", "floors", "roofs", "weights", "multiple"] Hw)(HH:⋯ 1 "had_below" ["level", "floors", "roofs", "weights", "multiple"] Cy):(~~~0) 3 f fd ["width", "floors", "roofs", "weights"] Hx:=by
 rcases F.go ["width", "floors", "roofs", "weights", "multiple", "level", "told", "left", "place", "weight"] with⟨wd,Bd,f,r,w,F,R,W,rfl,hf,hR,hw,ok,iF,iR,q⟩;show⟨_,(ax (ba (tc AQ (cb (ir (by rfl)) T.sum fJ (a1 '1')) '0') (aA (aH (iL DZ (by rfl) T.list EI (a1 '1')))) bi)
  (ax (ba (tc tX (cb (ir (by rfl)) T.sum fJ (a1 '2')) '0') (aA (aH (iL DZ (by rfl) T.list EI (a1 '2')))) bi)
  (ax (sv 4 (cF qb1 hr (a1 '3')))
  (ax (sv 5 (cF qb2 hr (aO '0' (aO '1' (a3 '2' '3' '4')))))
  (ax (sv 6 (cF HH hr (aO '5' (aO '1' (a3 '2' '3' '4')))))
  (ax (sv 7 (aG c9 '0' (cb (ir (by rfl)) T.sum fJ (a1 '6'))))
  (ax (fv (qa (by rfl) T.enumerate (a1 '3')) (jJ (by rfl) (bF (nv 8) (bF (nv 9) dZ)))
  (aA (ba (PW.pt (gX (tc gZ '7' ao) (gX (tc jd (px aK '6' '8') (px aK '2' '8')) (i9 (tc bv (aG eR (px aK '6' '8') '4') (aG eR '5' '9')))))) (ax (U7 '6' '8' qaV ao DH pX)
  (aA (av 7 ao U9))) bi)))
  (aA (aH '6'))))))))),?_⟩
 show mC λC hC=>?_
 show-⟨f,F,O,ag hf,_,O,_,_,O,O,_,O,?_⟩;show cz (λc=>?_) (λc=>?_)
 .show-⟨f,_,O,.inl (ag hf),λt ht=>q t F _ ht (ay ht _) ar O iF⟩
 let c':¬F.sum≥wd:=λz=>c (qR z)
 show bG hC λC hC=>-⟨r,R,O,ag hR,_,O,_,_,O,O,_,O,?_⟩
 show cz (λd=>?_) (λd=>?_)
 .show-⟨r,_,O,.inl (ag hR),λt ht=>q t R _ ht (ay ht _) ar ok.lr iR⟩
 let d':¬R.sum<=wd:=λz=>d (qR z)
 let ne:R≠[]:=λz=>by
  let l:=ok.lr;rw[z]at l d';have:F=[]:=rR l.symm;rw[this]at c';let e:([]:TN).sum=0:=rfl;omega
 show bG hC λC hC=>-⟨w,W,O,hw,ok.w,λM M0 M9=>?_⟩
 show bG hC λC hC=>¬⟨_,O,_,O,_,O,wd,M,Bd,f,r,w,F,R,W,O,hf,hR,hw,ok,iF,iR,M0,M9,ne,λlev H1 s1=>?_⟩
 show bG hC λC hC=>¬⟨_,O,_,O,_,O,lev,M,Bd,f,r,w,F,R,W,O,s1 _ _ hf,s1 _ _ hR,s1 _ _ hw,ok,iF,iR,M0,M9,λt x H2 ht s2 h3 lx ix=>?_⟩
 let t0:H t=none:=s1.free ht;let be:=s1.trans s2;show bG hC λC hC=>¬⟨t,_,O,ag h3,_,_,O,O,?_⟩
 show bG hC λC hC=>-⟨w,O,⟨_,ag (be _ _ hw)⟩,BE (xs:=W.map V.int) (λk σ H'=>Same H H'/\(∃(u:Int) (z8 z9:Option V),σ=[!.int wd,!.ref f,!.ref r,!.ref w,!.int M,!.int lev,!.ref t,!.int u,z8,z9])/\∃y:TN,LI H' t y/\y⁻¹=F.length/\InB Bd y) ⟨be,⟨_,none,none,O⟩,x,h3,lx,ix⟩ ?_ ?_ ?_⟩
 .ext i σ H' hi ⟨s3,_⟩;show ag (s3 _ _ hw)
 .ext k z σ H' T' hx hT ⟨s3,⟨u,z8,z9,rfl⟩,y,h4,ly,iy⟩;let⟨c,ec,rfl⟩:=oW hx;let hk:k<F.length:=by rw[<-ok.lw];show(qE.mp ec).1
  let wk:=ok.w k;rw[at_getD ec 1]at wk;let s4:=s3.trans (ay hT (.tup [.int (k:Int),.int c]));let fj:af H' T' (.tup [.int (k:Int),.int c]) T'=!.tup [.int (k:Int),.int c]:=ar;let h5:LI (af H' T' (.tup [.int (k:Int),.int c])) t y:=ay hT _ _ _ h4;generalize af H' T' (.tup [.int (k:Int),.int c])=H3 at s4 fj h5⊢;let gy:y[k]?=!y.getD k 0:=by rw[qW,qB (by rw[ly];show hk)];rfl
  let gR:R[k]?=!R.getD k 0:=by rw[qW,qB (by rw[ok.lr];show hk)];rfl
  let gk:(⇑y)[k]?=!.int (y.getD k 0):=by
   rw[qH,qW,qB (by rw[ly];show hk)];rfl
  let PP:bO ⇑y (k:Int)=!.int (y.getD k 0):=fX gk;let at2:bO (R.map V.int) (k:Int)=!.int (R.getD k 0):=qaW (by rw[ok.lr];show hk) 0;show⟨T',_,O,aC fj,O,_,_,O,_,_,O,O,_,O,_,_,O,O,_,O,?_⟩;show cz (λe1=>?_) (λe1=>bj ⟨s4,⟨_,_,_,O⟩,y,h5,ly,iy⟩);show¬⟨t,_,_,_,O,O,ag h5,PP,_,O,_,O,r,_,_,_,O,O,ag (s4 _ _ hR),at2,_,_,O,O,_,O,?_⟩;show cz (λe2=>?_) (λe2=>bj ⟨s4,⟨_,_,_,O⟩,y,h5,ly,iy⟩);show¬⟨t,_,_,_,O,O,ag h5,PP,_,O,_,_,O,O,.inr ⟨(),()⟩,_,O,_,O,_,_,O,O,.inr ⟨(),()⟩,O,_,O,?_⟩;show cz (λe3=>?_) (λe3=>⟨s4,⟨_,_,_,O⟩,y,h5,ly,iy⟩);show¬⟨t,_,k,_,O,O,ag h5,gk,_,_,O,O,t,_,k,k,O,O,h5,?_,?_⟩
  .rw[qA,ly];show GH hk
  .show-⟨_,_,O,O,iq s4 t0,⟨_,_,_,O⟩,y.set k (y.getD k 0+1),?_,by rw[u7,ly],iy.set k ?_ ?_⟩;show af H3 t _ t=_;rw[ar,List.map_set]
   .let i1:=iy.at gy;omega
   .let p8:y.getD k 0<R.getD k 0:=rF e2;let i2:=iR.at gR;omega
 .ext σ H' ⟨s3,⟨u,z8,z9,rfl⟩,y,h4,ly,iy⟩;show mD hC ⟨_,O,q t y H' t0 s3 h4 ly iy⟩
end K33
namespace K33
open L2 Bk Gen Gd Bd Shr Sp0
abbrev PQ:=top 90
abbrev PR:=top 89
def qb3(F:Fu K "held_spans" PQ fn fd)(T:bY mg)(U:sw mg)(lH:mg "KINDS_OF_PIECES" = !.ref gJ)(KP:∀H:Hp,SqT K H gJ (pieceKinds.map V.str))(jr:⋯ 1 "holds" ["book", "node"] mR)(cA:⋯ 1 "look_at" ["looks", "node", "word"] fL)(CB:⋯ 2 "room_of" ["looks", "spans", "node"] Cf)(qb4:⋯ 3 "floors_of" ["looks", "bounds", "held"] (yc cD))(qb5:⋯ 4 "roofs_of" ["looks", "bounds", "held"] (yc ge))(qb6:⋯ 2 "weights_of" ["looks", "held"] GK)(qb7:⋯ 3 "shares" ["width", "floors", "roofs", "weights"] Hx)(qb8:⋯ 1 "one_behind_the_other" ["left", "wides"] GL)(HI:⋯ 2 "cells_of" ["looks", "held"] Cg)(qb9:⋯ 4 "cell_spans" ["room", "columns", "cells"] Hz)(qca:⋯ 2 "aside_span" ["looks", "room", "aside"] GN) :
  (~~~0) 5 fn fd ["book", "looks", "bounds", "spans", "node"] HB:=by
 rcases F.go ["book", "looks", "bounds", "spans", "node", "kind", "held", "room", "wides"] with⟨M,Bd,B,p,L,S,n,d,ds,ls,bs,sp,rfl,I,lS,gO,ed,cx,hM,sb,q⟩;let hn:n<ds⁻¹:=(qE.mp ed).1;let⟨_,dW⟩:=U.kind;let⟨_,kh⟩:=U.left;let⟨_,gN⟩:=U.wide;let le:=cx.le;let l13:=cx.l13;let nl:n<ls⁻¹:=by rw[cx.ll];show hn
 let ns:n<sp⁻¹:=by rw[gO];show hn
 let rb:∀m,m<ds⁻¹->0<=(cf ls sp m).2/\(cf ls sp m).2<=Bd:=λm hm=>by
  let⟨l,_,ok,lv⟩:=cx.look hm;show Pn (by rw[lv];show ok.ins) (sb.at (by rw[gO];show hm))
 let rn:=rb n hn;let⟨ab,hB,nd⟩:=I.bk;let⟨c,ec,nc⟩:=nd.get ed;let⟨m',s',hc,_⟩:=nc.ex;show⟨_,(ax (sv 5 (px aF (px aK '0' '4') (gi dW)))
  (ax (sv 6 (cF jr hr (a2 '0' '4')))
  (ax (ba (tc DX '5' (gr lH)) (aA (aH (cm ["one"] ["looks", "spans"] [1,3] (bc '6') (nv 0) br (cF CB hr (a3 '1' '2' ao))))) bi)
  (ax (sv 7 (cF CB hr (a3 '1' '3' '4')))
  (ax (ba (tc bv '5' aU) (ax (sv 8 (cF qb7 hr (aO (px aF '7' (gi gN)) (a3 (cF qb4 hr (a3 '1' '2' '6')) (cF qb5 hr (a3 '1' '2' '6')) (cF qb6 hr (a2 '1' '6'))))))
  (aA (aH (cF qb8 hr (a2 (px aF '7' (gi kh)) '8'))))) bi)
  (ax (ba (tc bv '5' aU) (aA (aH (cF qb9 hr (a3 '7' (cF cA hr (a3 '1' '4' aU)) (cF HI hr (a2 '1' '6')))))) bi)
  (aA (aH (cm ["one"] ["room", "looks", "book"] [7,1,0] (bc '6') (nv 0) br (jI (tc bv (px (r:=bZ K) aF (px (r:=du K) aK '3' '0') (gi dW)) aU) (cF qca hr (a3 '2' '1' '0')) '1')))))))))),?_⟩
 show mC λC hC=>?_
 show¬⟨B,_,_,_,O,O,ag hB,aX ec,c,_,_,_,O,O,aC hc,O,?_⟩;show bG hC λC hC=>¬⟨B,n,ds,_,O,⟨ab,hB,nd⟩,(),hn,λK0 H1 hK s1 di=>?_⟩
 let kl:=mO ds n;let kz:(⇑((aw ds n).map λ(j:Nat)=>(j:Int)))⁻¹<sizeLine:=by rw[qA,qA];show aW ()
 let kin:∀m∈aw ds n,m<ls⁻¹:=λm hm=>by rw[cx.ll];show cO hm
 let PU:∀m∈aw ds n,m<ls⁻¹/\m<bs⁻¹:=λm hm=>⟨kin m hm,by rw[cx.bl];show cO hm⟩
 dsimp only[aY];show bG hC λC hC=>-⟨gJ,_,O,.inr (KP _),O,vw _,_,O,?_⟩
 rw[qY rA,xn]
 by_cases gP:d.k=.text\/d.k=.head\/d.k=.note
 .show eS gP ⟨_,O,K0,O,⟨_,ag di⟩,bB (xs:=⇑((aw ds n).map λ(j:Nat)=>(j:Int))) (λi ys ae H'=>Same H1 H'/\(∃z,ae=[z,!.ref p,!.ref S])/\∃as,ys=↑as/\Paired (PrAt H') as (((aw ds n).map λ_=>cf ls sp 0).take i)) kz ⟨Same.refl _,⟨none,O⟩,[],O,.nil⟩ ?_ ?_ ?_⟩
  .ext i ys ae H' hi ⟨s2,_,as,rfl,pr⟩;show ag (s2 _ _ di)
  .ext i y ys ae H' hy ⟨s2,⟨z,rfl⟩,as,rfl,pr⟩;let⟨m,em,rfl⟩:=fN hy;let be:=s1.trans s2;show¬⟨p,S,0,ls,sp,O,dg be I.lk,gf be lS,by rw[cx.ll];show cx.pos,by rw[gO];show cx.pos,l13,λt gM ht s3 pt=>?_⟩;show⟨s2.trans s3,⟨_,O⟩,as++[t],by rw[qD];rfl,?_⟩;let e2:((aw ds n).map λ_=>cf ls sp 0)[i]?=!cf ls sp 0:=by rw[qH,em];rfl
   rw[qO,e2];show(pr.mono λ_ _ z=>s3 _ _ z).snoc pt
  .ext ys ae H' ⟨s2,_,as,rfl,pr⟩ D hD;rw[qI (by rw[qA,qA,qA];show qG _)]at pr;show q D _ _ ((s1.trans s2).free hD) ((s1.trans s2).trans (ay hD _)) (qA _) (λs hs=>by let⟨_,_,rfl⟩:=qP.mp hs;have:=rb 0 cx.pos;omega) (.text gP) ⟨as,ar,pr.mono λ_ _ z=>ay hD _ _ _ z⟩
 show dM gP ?_;show bG hC λC hC=>¬⟨_,O,p,S,n,ls,sp,O,dg s1 I.lk,gf s1 lS,nl,ns,l13,λr H2 CC s2 hR=>?_⟩
 let be:=s1.trans s2;let gL:KL H2 K0 (aw ds n):=s2 _ _ di;let lV:=dg be I.lk;let PV:=gf be I.bd;dsimp only[aY];show bG hC λC hC=>-⟨O,_,O,?_⟩
 by_cases hs:d.k=.shelf
 .show hV (bH d.k .shelf) hs ⟨_,O,r,_,_,_,O,O,aC hR,O,?_⟩;show¬⟨_,O,p,L,K0,_,ls,bs,O,lV,PV,gL,(),PU,l13,λf H3 hf s3 lf=>?_⟩;show¬⟨_,O,p,L,K0,_,ls,bs,O,dg s3 lV,gf s3 PV,s3 _ _ gL,(),PU,l13,λg H4 hg s4 lg=>?_⟩;let sA:=s3.trans s4;show¬⟨p,K0,_,ls,O,dg sA lV,sA _ _ gL,(),kin,l13,λv H5 hv s5 lv=>?_⟩;let s25:=sA.trans s5;show⟨_,Bd,f,g,v,_,_,_,O,(s4.trans s5) _ _ lf,s5 _ _ lg,lv,cx.ok n,InB.mono (cx.inF n).1 hM,InB.mono (cx.inF n).2 hM,λx y H6 hx s6 ly PX iy=>?_⟩;let HJ:=s25.trans s6;rw[qA]at PX;show-⟨r,_,_,_,O,O,aC (HJ _ _ hR),O,_,O,_,x,y,O,ly,(),λt H7 ht s7 lt=>?_⟩;show q t _ H7 ((be.trans HJ).free ht) ((be.trans HJ).trans s7) (by rw[GJ];show PX) ((SpB.behind iy).mono ()) (.shelf hs λv hv=>(iy v hv).1) lt
 show h8 (bH d.k .shelf) hs ?_;show bG hC λC hC=>-⟨O,_,O,?_⟩
 by_cases hg:d.k=.grid
 .show hV (bH d.k .grid) hg ?_;let⟨l,_,cQ,lv⟩:=cx.look hn;let cb:=cQ.cols;rw[<-lv]at cb;show¬⟨_,O,p,n,7,_,ls,O,lV,nl,l13,{},GZ,_,O,_,O,p,K0,_,ls,O,lV,gL,(),kin,cx.lk,λC' H3 hC s3 lC=>?_⟩;show⟨r,C',_,_,_,O,s3 _ _ hR,rn.1,lC,cx.cells n,by rw[Ci];omega,cb.1,cb.2,λt pl H4 ht s4 pd jY lt=>?_⟩;show q t _ H4 ((be.trans s3).free ht) ((be.trans s3).trans s4) (by rw[qA,pd.len,Ci]) (λs hs=>by
   let⟨u,hu,rfl⟩:=qP.mp hs;have:=qbI (p:=u) rn.1 (show 0<aB ls n 7 by omega) (jY u hu).2.2.2.1;omega) (.grid hg pd jY) lt
 show h8 (bH d.k .grid) hg ?_;show mD hC ⟨_,O,K0,O,⟨_,ag gL⟩,bB (xs:=⇑((aw ds n).map λ(j:Nat)=>(j:Int))) (λi ys ae H'=>Same H2 H'/\(∃z,ae=[z,!.ref r,!.ref p,!.ref B])/\∃as,ys=↑as/\Paired (PrAt H') as (((aw ds n).map (m7 ds ls (cf ls sp n))).take i)) kz ⟨Same.refl _,⟨none,O⟩,[],O,.nil⟩ ?_ ?_ ?_⟩
 .ext i ys ae H' hi ⟨s3,_,as,rfl,pr⟩;show ag (s3 _ _ gL)
 .ext i y ys ae H' hy ⟨s3,⟨z,rfl⟩,as,rfl,pr⟩;let⟨m,em,rfl⟩:=fN hy;let hm:=cO (qN em);let dC:=be.trans s3;obtain⟨dm,CD⟩:∃dm,ds[m]?=!dm:=⟨_,qB hm⟩;let⟨cm,ecm,ncm⟩:=nd.get CD;let⟨_,_,hcm,_⟩:=ncm.ex;let e2:((aw ds n).map (m7 ds ls (cf ls sp n)))[i]?=!m7 ds ls (cf ls sp n) m:=by rw[qH,em];rfl
  let e3:=OK (ls:=ls) (rm:=cf ls sp n) CD;show¬⟨B,_,_,_,O,O,ag (dC _ _ hB),aX ecm,cm,_,_,_,O,O,aC (dC _ _ hcm),O,O,_,O,?_⟩
  by_cases ha:dm.k=.aside
  .show hV (bH dm.k .aside) ha ?_;rw[qX ha]at e3;show¬⟨_,O,p,r,m,ls,_,O,dg dC I.lk,s3 _ _ hR,by rw[cx.ll];show hm,cx.lk,λt H4 ht s4 pt=>?_⟩;show⟨s3.trans s4,⟨_,O⟩,as++[t],by rw[qD];rfl,?_⟩;rw[qO,e2,e3];show(pr.mono λ_ _ z=>s4 _ _ z).snoc pt
  .show h8 (bH dm.k .aside) ha ?_;rw[qY ha]at e3;show-⟨s3,⟨_,O⟩,as++[r],by rw[qD];rfl,?_⟩;rw[qO,e2,e3];show pr.snoc (s3 _ _ hR)
 .ext ys ae H' ⟨s3,_,as,rfl,pr⟩ D hD;rw[qI (by rw[qA,qA,qA];show qG _)]at pr;show q D _ _ ((be.trans s3).free hD) ((be.trans s3).trans (ay hD _)) (qA _) (λs hs=>by
   let⟨m,hm,rfl⟩:=qP.mp hs;obtain⟨dm,CD⟩:∃dm,ds[m]?=!dm:=⟨_,qB (cO hm)⟩;let⟨l,_,ok,lv⟩:=cx.look (cO hm);let hw:=ok.wide;rw[<-lv]at hw;rw[OK CD]
   split
   .show 0<=iX ls (cf ls sp n) m/\iX ls (cf ls sp n) m<=_;unfold iX;omega
   .omega) (.pile hs hg) ⟨as,ar,pr.mono λ_ _ z=>ay hD _ _ _ z⟩
def qcb(F:Fu K "all_spans" PR fn fd)(T:bY mg)(jr:⋯ 1 "holds" ["book", "node"] mR)(qcc:⋯ 5 "held_spans" ["book", "looks", "bounds", "spans", "node"] HB):(~~~0) 6 fn fd ["book", "looks", "bounds", "wide"] HC:=by
 rcases F.go ["book", "looks", "bounds", "wide", "spans", "node", "within", "place", "one"] with⟨M,B,p,L,wide,ds,ls,bs,rfl,I,cx,bh,w0,w1,q⟩;let le:=cx.le;let⟨ab,hB,nd⟩:=I.bk;let dR:ab⁻¹=ds⁻¹:=nd⁻¹;show⟨_,(ax (sm 4 ["node"] ["wide"] [3] (bc '0') (nv 0) br (bR (a2 ao '1')))
  (ax (fv (r1 T.range (ln T.len '0')) (nv 5)
  (ax (sv 6 (cF qcc hr (aO '0' (aO '1' (a3 '2' '4' '5')))))
  (aA (fv (qa (by rfl) T.enumerate (a1 (cF jr hr (a2 '0' '5')))) (jJ (by rfl) (bF (nv 7) (bF (nv 8) dZ)))
  (aA (nW (px aK '6' '7') (tP '4' '8' pX)))))))
  (aA (aH '4')))),?_⟩
 show-⟨B,O,⟨_,ag hB⟩,bB (xs:=↑ab) (λi ys ae H'=>Same H H'/\(∃z,ae=[z,!.int wide])/\∃as,ys=↑as/\Paired (PrAt H') as (List.replicate i (0,wide))) (by rw[qA];show aW ()) ⟨Same.refl H,⟨none,O⟩,[],O,.nil⟩ ?_ ?_ ?_⟩
 .ext i ys ae H' hi ⟨s1,_,as,rfl,pr⟩;show ag (s1 _ _ hB)
 .ext i y ys ae H' hy ⟨s1,⟨z,rfl⟩,as,rfl,pr⟩;show-⟨aT,λt ht=>?_⟩;let s2:=ay ht (.tup [.int 0,.int wide]);show⟨s1.trans s2,⟨_,O⟩,as++[t],by rw[qD];rfl,?_⟩;rw[List.replicate_succ'];show(pr.mono λ_ _ z=>s2 _ _ z).snoc ar
 ext ys ae H1 ⟨s1,_,as,rfl,pr⟩ S hS;rw[qA,dR]at pr;let s2:=ay hS (.lst ↑as);let lS:LstAt PrAt (af H1 S (.lst ↑as)) S (List.replicate ds⁻¹ (0,wide)):=⟨as,ar,pr.mono λ_ _ z=>s2 _ _ z⟩;let be:=s1.trans s2;let S0:H S=none:=s1.free hS;generalize af H1 S (.lst ↑as)=H2 at lS be⊢;clear s2 hS s1 pr as;let el:(((↑ab)⁻¹:Nat):Int)=ds⁻¹:=by rw[qA,dR]
 show-⟨B,_,O,.inl (ag (be _ _ hB)),_,O,(),(),gY (λk σ H'=>Same H H'/\(∃sp,LstAt PrAt H' S sp/\sp⁻¹=ds⁻¹/\SpB (gW M k) sp/\SpG ds ls k sp)/\∃z5 z6 z7 z8,σ=[!.ref B,!.ref p,!.ref L,!.int wide,!.ref S,z5,z6,z7,z8]) ⟨be,⟨_,lS,yH,λs hs=>by rw[vD hs];show⟨w0,w1⟩,λn d z=>qT z (xS _)⟩,none,none,none,none,O⟩ ?_ ?_⟩
 .rintro n σ H3 hn0 ⟨dC,⟨sp,yy,gO,sb,sg⟩,z5,z6,z7,z8,rfl⟩;let hn:n<ds⁻¹:=()
  rw[show(0:Int)+(n:Int)=(n:Int)from uY _];show¬⟨_,O,_,O,_,O,M,gW M n,B,p,L,S,n,_,ds,ls,bs,_,O,I.same dC,yy,gO,qB hn,cx,Hy cx.m4 n,sb,λt zs H4 ht s4 hl zb hz lt=>?_⟩;let iB:=dC.trans s4;let PY:=gf s4 yy;let⟨PZ,yf,wm⟩:=(I.same iB).bk;show¬⟨B,n,ds,_,O,⟨PZ,yf,wm⟩,(),hn,λK0 H5 hK s5 P0=>?_⟩;let jw:=iB.trans s5;let⟨ts,hts,prt⟩:=gf s5 lt;let P1:=gf s5 PY;let nS:∀{b:Addr} {o:HO},H b=!o->b≠S:=λe z=>by rw[z,S0]at e;cases e
  let KS:K0≠S:=λz=>by
   let⟨_,e,_⟩:=PY;rw[z,e]at hK;cases hK
  let tS:t≠S:=λz=>by
   let⟨_,e,_⟩:=yy;rw[z,e]at ht;cases ht
  show⟨K0,O,⟨_,ag P0⟩,BE (xs:=⇑((aw ds n).map λ(j:Nat)=>(j:Int))) (λi σ H'=>Keep1 S H5 H'/\LstAt PrAt H' S (putAll sp ((aw ds n).take i) (zs.take i))/\∃z7 z8,σ=[!.ref B,!.ref p,!.ref L,!.int wide,!.ref S,!.int (n:Int),!.ref t,z7,z8]) ⟨KeepN.refl,P1,_,_,O⟩ ?_ ?_ ?_⟩
  .ext i σ H' hi ⟨k1,_⟩;show ag (k1 _ _ KS P0)
  .ext i y σ H' T' hy hT ⟨k1,⟨as,gK,jx⟩,z7,z8,rfl⟩;let⟨m,em,rfl⟩:=fN hy;let hm:=cO (qN em);let hi:i<(aw ds n)⁻¹:=(qE.mp em).1;let P2:i<zs⁻¹:=by rw[hl];show hi
   let⟨b,eb,hb⟩:=dP prt (qB P2);let st:=ay hT (.tup [.int (i:Int),.int (m:Int)]);let kt:=k1.trans st.keep;let lU:=st _ _ gK;let jP:Paired (PrAt (af H' T' (.tup [.int (i:Int),.int (m:Int)]))) as (putAll sp ((aw ds n).take i) (zs.take i)):=jx.mono λ_ _ z=>st _ _ z
   show⟨T',_,O,aC ar,O,_,_,O,_,_,O,O,?_⟩;generalize af H' T' (.tup [.int (i:Int),.int (m:Int)])=H6 at kt lU jP⊢;let bS:b≠S:=λz=>by
    let⟨_,e,_⟩:=P1;let hb':H5 b=!.tup _:=hb;rw[z,e]at hb';cases hb'
   let Hu:PrAt H6 b zs[i]:=kt _ _ bS hb;let lse:(↑as)⁻¹=ds⁻¹:=by rw[qA,qU jx,GI,gO]
   show¬⟨t,_,_,_,O,O,ag (kt _ _ tS hts),aX eb,_,O,_,O,S,_,_,m,O,O,lU,by rw[lse];show GH hm,?_⟩;let tl:=Tups.lst (o:=.lst ((↑as).set m (.ref b))) lU;show⟨λc o nn e=>by rw[aM nn];show kt c o nn e,⟨as.set m b,by rw[ar,List.map_set],?_⟩,_,_,O⟩;let e1:(aw ds n).take (i+1)=(aw ds n).take i++[m]:=by rw[qO,em];rfl
   let e2:zs.take (i+1)=zs.take i++[zs[i]]:=by rw[qO,qB P2];rfl
   rw[e1,e2,putAll_snoc (by rw[yC,yC,hl])];show Paired.set (jP.mono λ_ _ z=>tl _ _ z) (tl _ _ Hu) m
  .ext σ H' ⟨k1,P3,z7,z8,rfl⟩;rw[qA,qA,yD,qI ()]at P3;show⟨λb o e=>k1 _ _ (nS e) (jw _ _ e),⟨_,P3,by rw[GI,gO],SpB.put (sb.mono (by show gW M n<=6*gW M n+6;have:=Hy cx.m4 n;have:=cx.m4;omega)) zb,sg.step bh gO hl (qB hn) hz⟩,_,_,_,_,O⟩
 .ext σ H3 ⟨dC,⟨sp,yy,gO,sb,sg⟩,z5,z6,z7,z8,rfl⟩;let en:(((↑ab)⁻¹:Nat):Int).toNat=ds⁻¹:=()
  rw[en]at sb sg;show-⟨q S sp H3 S0 dC yy gO sb sg⟩
end K33
namespace Ins
open L2 Bk Gen Gd Bd Shr Sp0
def cB(ds:List Nd)(e:Int)(n:Nat):TM:=(List.range n).filter λj=>decide (ds[j]?.map Nd.e=!e)
def cE(ds:List Nd)(m:Nat):Bool:=decide (ds[m]?.map Nd.k=!Kd.aside)
def bN(ds:List Nd)(n:Nat):Option Nat:=match ds[n]? with
 | some d=>if d.k=.text then(cB ds d.e n).getLast?.filter (cE ds)else none
 | none=>none
noncomputable def gQ(ls:TB)(hs:Nat->Int)(cols:Nat)(ks:TM):List (Nat×Int) :=
 (ks.zip (dY cols (b8 ls ks))).map λx=>(x.1,((bM ((dY cols (b8 ls ks)).zip (ks.map hs)) (many (dY cols (b8 ls ks)))).take x.2.r).sum)
def dI(ds:List Nd)(ls:TB)(hs:Nat->Int)(acc:List (Nat×Int)×Int)(m:Nat):List (Nat×Int)×Int :=
 match bN ds m with
 | none=>(acc.1++[(m,acc.2+if acc.1=[]then 0 else aB ls m 2)],acc.2+(if acc.1=[]then 0 else aB ls m 2)+hs m)
 | some a=>(acc.1++[(a,acc.2+if acc.1=[]then 0 else aB ls m 2),(m,acc.2+if acc.1=[]then 0 else aB ls m 2)],acc.2+(if acc.1=[]then 0 else aB ls m 2)+max (hs a) (hs m))
def gU(ds:List Nd)(ls:TB)(hs:Nat->Int)(ks:TM):List (Nat×Int)×Int:=(ks.filter λm=>(Bool.not (cE ds m))).foldl (dI ds ls hs) ([],0)
noncomputable def bJ(ds:List Nd)(ls:TB)(hs:Nat->Int)(n:Nat):List (Nat×Int) :=
 match ds[n]?.map Nd.k with
 | some .text | some .head | some .note=>[]
 | some .shelf=>(aw ds n).map λm=>(m,0)
 | some .grid=>gQ ls hs (aB ls n 7).toNat (aw ds n)
 | _=>(gU ds ls hs (aw ds n)).1
def P4{n e:Nat}(h:ds[n]?=!d)(he:d.e=(e:Int)):∃r,aw ds e=cB ds e n++n::r:=by
 let hn:n<ds⁻¹:=(qE.mp h).1;show⟨((List.range (ds⁻¹-n-1)).map (n+1 + ·)).filter λj=>decide (ds[j]?.map Nd.e=!(e:Int)),?_⟩;let e1:List.range ds⁻¹=List.range n++n::(List.range (ds⁻¹-n-1)).map (n+1 + ·):=by
  have:ds⁻¹=n+(1+(ds⁻¹-n-1)):=()
  conv=>lhs;rw[this,List.range_add,List.range_add]
  rw[qD,xO];simp[Function.comp_def,Nat.add_assoc]
 unfold aw cB;rw[e1,rS,uV,qX (by rw[h];show qR (xH some he))]
def yz{e:Int}{n m:Nat}(h:m∈cB ds e n):m<n:=xC.mp (rY.mp h).1
def qcd{e n m:Nat}(hn:n<ds⁻¹)(h:m∈cB ds e n):m∈aw ds e:=by
 let⟨h1,h2⟩:=rY.mp h;show rY.mpr ⟨xC.mpr (uH (xC.mp h1) hn),h2⟩
def CF{n a:Nat}(h:bN ds n=!a):∃d,ds[n]?=!d/\d.k=.text/\(cB ds d.e n).getLast?=!a/\cE ds a=true:=by
 unfold bN at h;cases e:ds[n]? with
 | none=>rw[e]at h;cases h
 | some d =>
   rw[e]at h
   simp only at h
   by_cases hk:d.k=.text
   · rw[qX hk]at h
     let⟨h1,h2⟩:=Option.filter_eq_some_iff.mp h
     show⟨d,O,hk,h1,h2⟩
   · rw[qY hk]at h;cases h
def P5{n m i:Nat}(h:(aw ds n)[i]?=!m):cB ds n m=(aw ds n).take i:=by
 let⟨d,ed,he⟩:=fK (qN h);let⟨r,er⟩:=P4 ed he;let h2:(aw ds n)[(cB ds n m)⁻¹]?=!m:=by rw[er,rL (qG _),Nat.sub_self];rfl
 let ek:i=(cB ds n m)⁻¹:=(List.getElem?_inj (qE.mp h).1 (Cd n)).mp (h.trans h2.symm);rw[ek,er,List.take_left'];rfl
def P6{ls:TB}{hs:Nat->Int}{ks:TM}{m:Nat}:gU ds ls hs (ks++[m])=if cE ds m=true then gU ds ls hs ks else dI ds ls hs (gU ds ls hs ks) m:=by
 unfold gU;rw[rS,List.foldl_append];cases h:cE ds m<;>simp[h]
theorem HK{ls:TB}{hs:Nat->Int}{e:Nat}:∀k,k<=(aw ds e)⁻¹->((gU ds ls hs ((aw ds e).take k)).1.map Prod.fst).Sublist ((aw ds e).take k)
 | 0,_=>by simp[gU]
 | k + 1, hk => by
   let ih:=HK (ds:=ds) (ls:=ls) (hs:=hs) (e:=e) k ()
   obtain⟨m,em⟩:∃m,(aw ds e)[k]?=!m:=⟨_,qB ()⟩
   let et:(aw ds e).take (k+1)=(aw ds e).take k++[m]:=by rw[qO,em];rfl
   rw[et,P6]
   by_cases ha:cE ds m=true
   · rw[qX ha]
     show ih.trans (List.sublist_append_left _ _)
   · rw[if_neg ha]
     unfold dI
     cases hb:bN ds m with
     | none =>
       change (((gU ds ls hs ((aw ds e).take k)).1++[(m,_)]).map Prod.fst).Sublist _
       rw[qD]
       show ih.append (List.Sublist.refl _)
     | some a =>
       let⟨d,ed,_,hl,hA⟩:=CF hb
       let⟨d',i4,he⟩:=fK (qN em)
       rw[ed]at i4
       cases i4
       rw[he,P5 em]at hl
       obtain⟨ys,ey⟩:∃ys,(aw ds e).take k=ys++[a]:=List.getLast?_eq_some_iff.mp hl
       let l2:ys⁻¹<=k:=by
         have:=xH List.length ey
         simp at this
         omega
       let ty:(aw ds e).take ys⁻¹=ys:=by
         have:=xH (List.take ys⁻¹) ey
         rwa [List.take_take,uN l2,List.take_left']at this
         rfl
       let iO:=HK (ds:=ds) (ls:=ls) (hs:=hs) (e:=e) ys⁻¹ ()
       change (((gU ds ls hs ((aw ds e).take k)).1++[(a,_),(m,_)]).map Prod.fst).Sublist _
       rw[ey,P6,qX hA,qD]
       rw[ty]at iO
       have:=iO.append (List.Sublist.refl [a,m])
       simpa using this
theorem P7{α β:Type}:∀{l:List α} {m:List β},((l.zip m).map Prod.fst).Sublist l
 | [],_=>∅
 | _::_,[]=>∅
 | x :: l, y :: m => by
   rw[List.zip_cons_cons,xP]
   show List.Sublist.cons_cons _ P7
def sB{ls:TB}{hs:Nat->Int}{n:Nat}:((bJ ds ls hs n).map Prod.fst).Sublist (aw ds n):=by
 unfold bJ
 split
 .show List.nil_sublist _
 .show List.nil_sublist _
 .show List.nil_sublist _
 .rw[xO];show((aw ds n).map λm=>m).Sublist _;rw[List.map_id'];show List.Sublist.refl _
 .unfold gQ;rw[xO];have:((aw ds n).zip (dY (aB ls n 7).toNat (b8 ls (aw ds n)))).map (Prod.fst∘λx=>(x.1,((bM ((dY (aB ls n 7).toNat (b8 ls (aw ds n))).zip ((aw ds n).map hs)) (many (dY (aB ls n 7).toNat (b8 ls (aw ds n))))).take x.2.r).sum))=((aw ds n).zip (dY (aB ls n 7).toNat (b8 ls (aw ds n)))).map Prod.fst:=rfl;rw[this];show P7
 .have:=HK (ds:=ds) (ls:=ls) (hs:=hs) (e:=n) _ (qG _)
  rwa [yD]at this
section
variable(box:Nat->Int->List Int)(tops:Nat->List (Nat×Int))
def put(T:Nat->Option Int)(t:Int)(xs:List (Nat×Int)):Nat->Option Int:=xs.foldl (λT x=>λj=>if j=x.1 then !t+x.2else T j) T
def stepI(st:List (TN)×(Nat->Option Int))(i:Nat):List (TN)×(Nat->Option Int):=match st.2 i with
 | none=>st
 | some t=>(st.1++[box i t],put st.2 t (tops i))
end
section
variable{box:Nat->Int->List Int}{tops:Nat->List (Nat×Int)}{ds:List Nd}
theorem CG{t:Int}:∀{xs:List (Nat×Int)} {T:Nat->Option Int} {j:Nat},j∉xs.map Prod.fst->put T t xs j=T j
 | [],_,_,_=>rfl
 | x :: xs, T, j, h => by
   show put (λj=>if j=x.1 then !t+x.2else T j) t xs j=T j
   rw[CG (xs:=xs) λz=>h (qS _ z),qY λz=>h (by rw[z];show rE)]
def P8{dX:TB}{T:Nat->Option Int}{i:Nat}(h:T i=none):stepI box tops (dX,T) i=(dX,T):=by
 simp only[stepI,h]
def P9{dX:TB}{T:Nat->Option Int}{i:Nat}{t:Int}(h:T i=!t):stepI box tops (dX,T) i=(dX++[box i t],put T t (tops i)):=by
 simp only[stepI,h]
end
end Ins
namespace Gd
open L2 Gen
structure HsW(ps:List Pl)(hs:TN):Prop where
 len:hs⁻¹=ps⁻¹
 le:ps⁻¹<=100
 ro:∀p∈ps,1<=p.d/\p.r+p.d<=400
def HsW.many{hs:TN}(ok:HsW ps hs):many ps<=400:=qaz λp hp=>(ok.ro p hp).2
inductive HL:List V->Hp->VK->XK->Prop
|m (a b:Addr) (ps:List Pl) (hs:TN):vs=[.ref a,.ref b]->LstAt PlAt H a ps->H b=!.lst ⇑hs->HsW ps hs->(∀(L:Addr) (H':Hp),H L=none->Same H H'->H' L=!.lst ⇑(bM (ps.zip hs) (many ps))->Q (.ref L) H')->HL vs H Q E
def PsOk.hs{cols:Nat}{hs:TN}(ok:PsOk cols ps)(le:ps⁻¹<=100)(e:hs⁻¹=ps⁻¹):HsW ps hs:=⟨e,le,λp hp=>⟨(ok p hp).2.1,by have:=(ok p hp).2.2.2.2.1;omega⟩⟩
end Gd
namespace Ins
open L2 Bk Gen Gd Bd Shr Sp0
structure Sz where
 h:Int
 rows:List (Nat×Nat)
 sums:List (List (Option Int))
 c:Int
def SzAt(H:Hp)(a:Addr)(z:Sz):=∃A B,H a=!.tup [.int z.h,.ref A,.ref B,.int z.c]/\LstAt Br.NnAt H A z.rows/\LstAt Br.OsAt H B z.sums
def SzAt.same(s:Same H H')(h:SzAt H a z):SzAt H' a z:=by
 let⟨A,B,h1,h2,h3⟩:=h;show⟨A,B,s _ _ h1,Br.nns_same s h2,Br.sums_same s h3⟩
def Qa(s:Same H H')(h:LstAt SzAt H p z):LstAt SzAt H' p z:=gH (λ_ _=>SzAt.same s) s h
def aI(sz:List Sz)(m:Nat):Int:=(sz[m]?.map Sz.h).getD 0
def sF(pr:Paired (SzAt H) as sz){m:Nat}(h:m<sz⁻¹):∃a A B c,as[m]?=!a/\H a=!.tup [.int (aI sz m),.ref A,.ref B,.int c]:=by
 let l:=qU pr;let⟨z,ez,A,B,h1,_⟩:=bW pr (qB (show m<as⁻¹ by omega));show⟨_,A,B,z.c,qB (show m<as⁻¹ by omega),?_⟩;unfold aI;rw[ez];show h1
structure Cx4(ds:List Nd)(ls:TB)(sz:List Sz):Prop where
 bk:Book ds
 le:ds⁻¹<=100
 ll:ls⁻¹=ds⁻¹
 lk:∀l∈ls,lN l
 zl:sz⁻¹=ds⁻¹
def Cx4.l13{ls:TB}(c:Cx4 ds ls sz):∀l∈ls,l⁻¹=13:=λl h=>(c.lk l h).len
def Cx4.look{ls:TB}(c:Cx4 ds ls sz){n:Nat}(h:n<ds⁻¹):∃l,ls[n]?=!l/\lN l/\∀i,aB ls n i=l.getD i 0:=by
 let hl:n<ls⁻¹:=by rw[c.ll];show h
 show⟨ls[n],qB hl,c.lk _ (rJ hl),λi=>?_⟩;unfold aB;rw[qB hl];rfl
def Cx4.cells{ls:TB}(c:Cx4 ds ls sz)(n:Nat):wv (b8 ls (aw ds n)):=λx hx=>by
 let⟨m,hm,rfl⟩:=qP.mp hx;let⟨l,_,ok,lv⟩:=c.look (cO hm);let h1:=ok.span;let h2:=ok.deep;rw[<-lv]at h1 h2;show⟨by show 1<=(aB ls m 8).toNat;omega,by show(aB ls m 8).toNat<=6;omega,by show 1<=(aB ls m 9).toNat;omega,by show(aB ls m 9).toNat<=4;omega⟩
structure InT(H:Hp)(B p S:Addr)(ds:List Nd)(ls:TB)(sz:List Sz):Prop where
 bk:cM (λ_=>True) H B ds
 lk:LstAt LkAt H p ls
 sz:LstAt SzAt H S sz
def InT.same{H H':Hp}{B p S:Addr}{ds:List Nd}{ls:TB}{sz:List Sz}(h:InT H B p S ds ls sz)(s:Same H H'):InT H' B p S ds ls sz:=by
 let⟨as,e,nd⟩:=h.bk;show⟨⟨as,s _ _ e,nd.keep s.keep λ_ _ _=>trivial⟩,dg s h.lk,Qa s h.sz⟩
inductive HM:List V->Hp->VK->XK->Prop
|m (p S k:Addr) (cols:Nat) (ks:TM) (ls:TB) (sz:List Sz):vs=[.ref p,.ref S,.int cols,.ref k]->LstAt LkAt H p ls->LstAt SzAt H S sz->KL H k ks->ks⁻¹<=100->(∀m∈ks,m<ls⁻¹/\m<sz⁻¹)->(∀l∈ls,lN l)->wv (b8 ls ks)->1<=cols->cols<=6->(∀(t:Addr) (H':Hp),H t=none->Same H H'->LstAt Br.PnAt H' t (gQ ls (aI sz) cols ks)->Q (.ref t) H')->HM vs H Q E
inductive HN:List V->Hp->VK->XK->Prop
|m (B p S k:Addr) (ks:TM) (ds:List Nd) (ls:TB) (sz:List Sz):vs=[.ref B,.ref p,.ref S,.ref k]->InT H B p S ds ls sz->Cx4 ds ls sz->KL H k ks->ks⁻¹<=100->(∀m∈ks,m<ds⁻¹)->(∀(t:Addr) (H':Hp),H t=none->Same H H'->LstAt Br.PnAt H' t (gU ds ls (aI sz) ks).1->Q (.ref t) H')->HN vs H Q E
inductive CH:List V->Hp->VK->XK->Prop
|m (B p S:Addr) (n:Nat) (ds:List Nd) (ls:TB) (sz:List Sz):vs=[.ref B,.ref p,.ref S,.int n]->InT H B p S ds ls sz->Cx4 ds ls sz->n<ds⁻¹->(∀(t:Addr) (H':Hp),H t=none->Same H H'->LstAt Br.PnAt H' t (bJ ds ls (aI sz) n)->Q (.ref t) H')->CH vs H Q E
inductive HP:List V->Hp->VK->XK->Prop
|m (B p S:Addr) (n:Nat) (ds:List Nd) (ls:TB) (sz:List Sz):vs=[.ref B,.ref p,.ref S,.int n]->InT H B p S ds ls sz->Cx4 ds ls sz->n<ds⁻¹->(∀(H':Hp),Same H H'->Q (.int (bC ((bJ ds ls (aI sz) n).map λx=>x.2+aI sz x.1))) H')->HP vs H Q E
theorem Qb{ls:TB}{hs:Nat->Int}:∀{ks:TM} {acc:List (Nat×Int)×Int},(ks.foldl (dI ds ls hs) acc).1.length<=acc.1⁻¹+2*ks⁻¹
 | [],_=>∅
 | m :: ks, acc => by
   rw[xG]
   let h1:=Qb (ds:=ds) (ls:=ls) (hs:=hs) (ks:=ks) (acc:=dI ds ls hs acc m)
   let h2:(dI ds ls hs acc m).1.length<=acc.1⁻¹+2:=by
     unfold dI
     cases bN ds m<;>simp
   rw[rH]
   omega
def HQ{n a:Nat}(h:bN ds n=!a):a<n:=by
 let⟨d,_,_,hl,_⟩:=CF h;show yz (List.mem_of_getLast? hl)
def bz(ds:List Nd)(m:Nat):TM:=match bN ds m with
 | none=>[m]
 | some a=>[a,m]
def iC(ls:TB)(acc:List (Nat×Int)×Int)(m:Nat):Int:=acc.2+if acc.1=[]then 0 else aB ls m 2
def zc{ls:TB}{hs:Nat->Int}{acc:List (Nat×Int)×Int}{m:Nat}:dI ds ls hs acc m=(acc.1++(bz ds m).map (λe=>(e,iC ls acc m)),iC ls acc m+bC ((bz ds m).map hs)):=by
 unfold dI bz iC;cases bN ds m<;>rfl
def qce{m:Nat}:(bz ds m)⁻¹<=2/\bz ds m≠[]:=by
 unfold bz;cases bN ds m<;>simp
def qcf{m x:Nat}(h:x∈bz ds m):x<=m:=by
 unfold bz at h;cases e:bN ds m with
 | none=>rw[e]at h;simp at h;omega
 | some a =>
   rw[e]at h
   have:=HQ e
   rcases qM.mp h with z | z
   · omega
   · simp at z;omega
end Ins
namespace L2
open PyProof.Rows
def HR:List (TE×TE)->St->Hp->(List (V×V)->Hp->Prop)->Prop
 | [],_,H,Q=>Q [] H
 | (tk,tv)::r,σ,H,Q=>tk σ H λx H1=>tv σ H1 λy H2=>HR r σ H2 λps H3=>Q ((x,y)::ps) H3
abbrev VV:List (V×V)->List (Value×Value)->Prop:=Paired λp q=>RelV p.1 q.1/\RelV p.2 q.2
def CI(X:Cx)(pos:Pos)(a6:List (Option Expr))(CJ:TW)(lW:List (TE×TE)):Prop :=
 ∀(aa:TF) (s:Shared) (σ:St) (H:Hp) (Q:List (V×V)->Hp->Prop),Inv X aa σ H s->HR lW σ H Q ->
  wpAny (model X.prog X.w) X.A (evalPairs (pairTrees a6 CJ X.env pos)) (λvs s'=>∃ps H',Inv X aa σ H' s'/\VV ps vs/\Q ps H') X.xe s
def qcg:CI X pos [] [] []:=λaa s σ H Q I h=>pairTrees_nil_walk ⟨[],H,I,.nil,h⟩
def qch{lW:List (TE×TE)}(hk:PE X k tk)(hv:PE X v tv)(hr:CI X pos ks vs lW) :
  CI X pos (some k::ks) (v::vs) ((tk,tv)::lW):=λaa s σ H Q I h =>
 pairTrees_cons_walk (aR (hk aa s σ H _ I h) λu s1 ⟨x,H1,I1,rx,q1⟩=>aR (hv aa s1 σ H1 _ I1 q1) λw2 s2 ⟨y,H2,I2,ry,q2⟩ =>
  aR (hr aa s2 σ H2 _ I2 q2) λws s3 ⟨ps,H3,I3,cK,q3⟩=>⟨(x,y)::ps,H3,I3,.cons ⟨rx,ry⟩ cK,q3⟩)
def nD(aj more:List (aV×V)):List (aV×V):=more.foldl (λacc kv=>dz acc kv.1 kv.2) aj
def KV.merge:∀{more:List (aV×V)} {rs:List (aV×Value)} {aj:List (aV×V)} {vs:List (aV×Value)},KV more rs->KV aj vs->KV (nD aj more) (merged vs rs):=by
 intro more rs aj vs r;unfold KV at r
 induction r generalizing aj vs with
 | nil=>intro q;show q
 | @cons p q ps qs h t ih =>
   intro r0
   let e:KV (dz aj p.1 p.2) (stored vs q.1 q.2):=by
     have:=r0.put p.1 h.2
     rw[<-h.1];show this
   show ih e
theorem Qc:∀(more aj:List (aV×V)),(nD aj more)⁻¹<=aj⁻¹+more⁻¹
 | [],aj=>by show aj⁻¹<=aj⁻¹+0;omega
 | p :: r, aj => by
   let h1:=Qc r (dz aj p.1 p.2)
   let h2:=qk aj p.1 p.2
   show(nD (dz aj p.1 p.2) r)⁻¹<=_
   rw[rH];omega
theorem Qd:∀{aj:List (aV×V)} {ws:List (Value×Value)},VV (aj.map λkv=>(kV kv.1,kv.2)) ws->∃rs,Carries (eK P w) ws rs/\KV aj rs
 | [],_,r=>by rw[wC]at r;cases r;show⟨[],True.intro,.nil⟩
 | p :: aj, _, r => by
   rw[xP]at r
   cases r with
   | @cons a b as bs h t =>
     let⟨rs,c,q⟩:=Qd (P:=P) (w:=w) t
     let⟨b1,b2⟩:=b
     show⟨(p.1,b2)::rs,⟨oG h.1,O,c⟩,.cons ⟨O,h.2⟩ q⟩
def qci(lW:List (TE×TE)):TE:=λσ H Q=>∀p,H p=none->HR lW σ (af H p (.dK [])) λps H2=>H2 p=!.dK []/\∃aj:List (aV×V),ps=aj.map (λkv=>(kV kv.1,kv.2))/\aj⁻¹<=15/\Q (.ref p) (af H2 p (.dK (nD [] aj)))
def qcj{lW:List (TE×TE)}(h:CI X pos a6 CJ lW)(D8:a6.all (·.isSome)=true)(hl:a6⁻¹=CJ.length)(h0:a6≠[])(h15:a6⁻¹<=15):PE X (.Dict a6 CJ pos) (qci lW):=by
 intro aa s σ H Q I q;let hn:=I.hok.fresh (qG (~~~s));let I1:=I.laid (a:= ~~~s) (o:=.dK []) (h':=s.heap.push {cls:=.type "dict",data:=.dict #[]}) (t':=s.toks) (λ_ _ q=>qF _ q) (qG _) (M4 s.heap I.big);show wpAny_Dict_walk (knd:=eK X.prog X.w) D8 hl h0 h15 (aR (h aa _ σ _ _ I1 (q _ hn)) λws s2 ⟨ps,H2,I2,cK,e,aj,ep,lk,q2⟩=>?_);subst ep;let⟨rs,c,rk⟩:=Qd (P:=X.prog) (w:=X.w) cK;let⟨z,hd,vs0,r0,dd⟩:=M1 I2.hok e;cases r0;show⟨rs,c,dd,λh' oH hs=>⟨.ref (~~~s),_,?_,O,q2⟩⟩;let hz:(nD [] aj)⁻¹<=sizeLine:=by
  let h1:=Qc aj [];rw[List.length_nil]at h1;rw[sizeLine_eq];omega
 let he:∃q,h'.get? (~~~s)=!q:=let⟨q,_,_,hq,_⟩:=oH;⟨q,hq⟩;show Fe I2 (by rw[e];show True.intro) hs he (Ff hz hd (rk.merge .nil) oH)
end L2
namespace Ins
open L2 Bk Gen Gd Bd Shr Sp0
def iD(ds:List Nd)(sp:TC)(n:Nat):Int:=match ds[n]? with
 | some d=>if d.k=.picture then iT d else(aJ sp n).2
 | none=>0
def dE(ds:List Nd)(sp:TC)(sz:List Sz)(n:Nat)(t:Int):TN:=[(n:Int),(aJ sp n).1,t,iD ds sp n,aI sz n]
def km(H:Hp)(a:Addr)(b:TN):=H a=!.tup ⇑b
def DRel(aj:List (aV×V))(T:Nat->Option Int):=∀j:Nat,bP aj (.inl (j:Int))=⇑(T j)
def DRel.put{aj:List (aV×V)}{T:Nat->Option Int}(h:DRel aj T)(m:Nat)(v:Int):DRel (dz aj (.inl (m:Int)) (.int v)) (λj=>if j=m then !v else T j):=λj=>by
 rw[Fd];show _=Option.map V.int (if j=m then !v else T j)
 by_cases e:j=m
 .rw[qX e,e,qX O];rfl
 .rw[qY e,qY λz=>e (by have:=Sum.inl.inj z;omega)];show h j
def qck{T:Nat->Option Int}{t:Int}{xs:List (Nat×Int)}{x:Nat×Int}:put T t (xs++[x])=λj=>if j=x.1 then !t+x.2else put T t xs j:=by
 unfold put;rw[List.foldl_append];rfl
structure Cx5(ds:List Nd)(ls:TB)(sz:List Sz)(sp:TC):Prop extends Cx4 ds ls sz where
 sl:sp⁻¹=ds⁻¹
structure InI(H:Hp)(B p Sp S:Addr)(ds:List Nd)(ls:TB)(sp:TC)(sz:List Sz):Prop extends InT H B p S ds ls sz where
 sp:LstAt PrAt H Sp sp
def InI.same{H H':Hp}{B p Sp S:Addr}{ds:List Nd}{ls:TB}{sp:TC}{sz:List Sz}(h:InI H B p Sp S ds ls sp sz)(s:Same H H'):InI H' B p Sp S ds ls sp sz:=⟨h.toInT.same s,gf s h.sp⟩
def Cx5.pic{ls:TB}{sp:TC}(c:Cx5 ds ls sz sp):∀(m:Nat) (d:Nd),ds[m]?=!d->d.k=.picture->∃a b:Int,d.st=[.int a,.int b]:=λm d e hk=>by
 let⟨a,b,h,_⟩:=NM c.bk e hk;show⟨a,b,h⟩
theorem Qe{box:Nat->Int->List Int}{tops:Nat->List (Nat×Int)}:∀{l:TM} {st:List (TN)×(Nat->Option Int)},(l.foldl (stepI box tops) st).1.length<=st.1⁻¹+l⁻¹
 | [],_=>∅
 | i :: l, st => by
   rw[xG]
   let h1:=Qe (box:=box) (tops:=tops) (l:=l) (st:=stepI box tops st i)
   let h2:(stepI box tops st i).1.length<=st.1⁻¹+1:=by
     unfold stepI
     split<;>simp
   rw[rH]
   omega
end Ins
namespace L2
open PyProof.Rows
def i5:Int:=2 ^ 4000
def qcl:i5=((2 ^ 4000:Nat):Int):=by unfold i5;rw[Int.natCast_pow];rfl
def qcm(i j:Int):=0<=i/\i<=i5/\0<=j/\j<=i5
def Qf{i:Int}(h0:0<=i)(h1:i<=i5):Builtin.Int.intBits i<=4001:=by
 rw[qcl]at h1;show intBits_le_iff.mpr (yB (show i.natAbs<=2 ^ 4000 by generalize 2 ^ 4000=n at h1;omega) (Nat.pow_lt_pow_right {} {}))
def qcn:cw X (binaryOp .Mult) (rI qcm λi j=>.int (i*j)):=tV λ_ _ _ _ _ _ _ hc q=>mul_int q (IntMulOk.of_le (Qf hc.1 hc.2.1) (Qf hc.2.2.1 hc.2.2.2) {})
end L2
namespace Bw
open L2 Bk Gen Gd
open Bd
open Br
structure CK(us:List Un)(wd:Int)(nw:Int×Int):Prop where
 ne:us≠[]
 le:us⁻¹<=100
 ok:∀u∈us,UOk u
 w0:0<=wd
 w1:wd<=i5
 b0:0<=nw.2
def qco{wd:Int}{nw:Int×Int}(row:Int)(h0:0<=wd)(h1:wd<=i5)(h2:0<=nw.2):0<=roomR wd nw row/\roomR wd nw row<=i5:=by
 unfold roomR
 split<;>omega
inductive HS(K:W.Frag):List V->Hp->VK->XK->Prop
|m (p t:Addr) (i j:Nat) (wd row:Int) (nw:Int×Int) (us:List Un):vs=[.ref p,.int i,.int j,.int wd,.ref t,.int row]->RowAt H p us->PrK K H t nw->i<j->j<=us⁻¹->us⁻¹<=100->(∀u∈us,UOk u)->0<=wd->wd<=i5->0<=nw.2->(∀H',Same H H'->Q (ov (dB us i j (roomR wd nw row))) H')->HS K vs H Q E
inductive HU(K:W.Frag):List V->Hp->VK->XK->Prop
|m (p t:Addr) (j:Nat) (wd row:Int) (nw:Int×Int) (us:List Un):vs=[.ref p,.int j,.int wd,.ref t,.int row]->RowAt H p us->PrK K H t nw->j<=us⁻¹->CK us wd nw->(∀(L:Addr) (H':Hp),Same H H'->LstAt PnAt H' L (fM us j (roomR wd nw row))->Q (.ref L) H')->HU K vs H Q E
inductive HV(K:W.Frag):List V->Hp->VK->XK->Prop
|m (p t:Addr) (wd row:Int) (nw:Int×Int) (us:List Un):vs=[.ref p,.int wd,.ref t,.int row]->RowAt H p us->PrK K H t nw->CK us wd nw->(∀(L:Addr) (H':Hp),Same H H'->rj H' L (js us (roomR wd nw row))->Q (.ref L) H')->HV K vs H Q E
inductive HW(K:W.Frag):List V->Hp->VK->XK->Prop
|m (p t:Addr) (wd:Int) (nw:Int×Int) (us:List Un):vs=[.ref p,.int wd,.ref t]->RowAt H p us->PrK K H t nw->CK us wd nw->(∀(L:Addr) (H':Hp),Same H H'->xu H' L (jt us (roomN wd nw))->Q (.ref L) H')->HW K vs H Q E
inductive HX:List V->Hp->VK->XK->Prop
|m (p:Addr) (us:List Un):vs=[.ref p]->RowAt H p us->us⁻¹<=100->(∀(L:Addr) (H':Hp),H L=none->Same H H'->OsAt H' L (xt us)->Q (.ref L) H')->HX vs H Q E
inductive spBroken2(K:W.Frag)(nn:Addr):List V->Hp->VK->XK->Prop
|m (p t:Addr) (v:V) (wd:Int) (nw:Int×Int) (us:List Un):vs=[.ref p,.int wd,v]->(v=.ref t\/(v=.non/\t=nn))->RowAt H p us->PrK K H t nw->CK us wd nw->(∀(R A B:Addr) (rows:List (Nat×Nat)) (k:Nat) (M:Int) H',Same H H'->H R=none->H' R=!.tup [.ref A,.ref B]->H A=none->A≠B->LstAt NnAt H' A rows->qaj H H' B (sumsL us (roomN wd nw))->Ch us (roomN wd nw) k us⁻¹ rows->Few us (roomN wd nw) k M->Q (.ref R) H')->spBroken2 K nn vs H Q E
end Bw
namespace Ins
open L2 Bk Gen Gd Shr Sp0
open Bd
def SzN(N:Addr->Prop)(H:Hp)(a:Addr)(z:Sz):=∃A B,H a=!.tup [.int z.h,.ref A,.ref B,.int z.c]/\N A/\LstAt Br.NnAt H A z.rows/\N B/\∃bs:TQ,H B=!.lst ↑bs/\Paired (λc os=>Br.OsAt H c os/\N c) bs z.sums
def SzN.at{N:Addr->Prop}(h:SzN N H a z):SzAt H a z:=by
 let⟨A,B,h1,_,h2,_,bs,h3,h4⟩:=h;show⟨A,B,h1,h2,bs,h3,h4.mono λ_ _ y=>y.1⟩
def SzN.mono{N N':Addr->Prop}(k:∀b,(∃o,H b=!o)->N b->N' b)(h:SzN N H a z):SzN N' H a z:=by
 let⟨A,B,h1,n1,h2,n2,bs,h3,h4⟩:=h;let⟨as,h5,h6⟩:=h2;show⟨A,B,h1,k A ⟨_,h5⟩ n1,⟨as,h5,h6⟩,k B ⟨_,h3⟩ n2,bs,h3,h4.mono λc os y=>⟨y.1,k c ⟨_,y.1⟩ y.2⟩⟩
def SzN.same{N:Addr->Prop}(s:Same H H')(h:SzN N H a z):SzN N H' a z:=by
 let⟨A,B,h1,n1,h2,n2,bs,h3,h4⟩:=h;show⟨A,B,s _ _ h1,n1,Br.nns_same s h2,n2,bs,s _ _ h3,h4.mono λc os y=>⟨s _ _ y.1,y.2⟩⟩
def SzN.put(hS:H S=!.lst xs)(h:SzN (·≠ S) H a z):SzN (·≠ S) (af H S o) a z:=by
 let⟨A,B,h1,n1,⟨as,h5,h6⟩,n2,bs,h3,h4⟩:=h;let tl:=Tups.lst (o:=o) hS;show⟨A,B,tl _ _ h1,n1,⟨as,by rw[aM n1];show h5,h6.mono λ_ _ y=>tl _ _ y⟩,n2,bs,by rw[aM n2];show h3,h4.mono λc os y=>⟨?_,y.2⟩⟩;show af H S o c=_;rw[aM y.2];show y.1
structure kq(ds:List Nd)(ls:TB)(sz:List Sz)(sp:TC)(us:List (List Un)):Prop extends Cx5 ds ls sz sp where
 ul:us⁻¹=ds⁻¹
 uok:∀r∈us,r⁻¹<=100/\∀u∈r,Br.UOk u/\1<=u.h/\u.h<=100
 un:∀(n:Nat) (d:Nd),ds[n]?=!d->(d.k=.text\/d.k=.head\/d.k=.note)->bg us n≠[]
 sb:SpB i5 sp
structure InZ(H:Hp)(B p U Sp S:Addr)(ds:List Nd)(ls:TB)(us:List (List Un))(sp:TC)(sz:List Sz):Prop extends InI H B p Sp S ds ls sp sz where
 un:LstAt Bw.RowAt H U us
def InZ.same{H H':Hp}{B p U Sp S:Addr}{ds:List Nd}{ls:TB}{us:List (List Un)}{sp:TC}{sz:List Sz}(h:InZ H B p U Sp S ds ls us sp sz)(s:Same H H'):InZ H' B p U Sp S ds ls us sp sz:=⟨h.toInI.same s,Bw.units_same s h.un⟩
def HY(ne:us≠[])(h:∀u∈us,Br.UOk u/\1<=u.h/\u.h<=100):1<=bC (us.map Un.h)/\bC (us.map Un.h)<=100:=by
 let⟨u,hu,e⟩:=qP.mp (jT (show us.map Un.h≠[]from λz=>ne (uT.mp z)));rw[<-e];show(h u hu).2
end Ins
namespace Bd
open L2 Bk Gen Gd
def qcp{l s:Int}(hl:0<=l)(h1:1<=s)(h6:s<=6):dA l s<=l:=by
 unfold dA;rcases(by omega:s=1\/s=2\/s=3\/s=4\/s=5\/s=6)with rfl | rfl | rfl | rfl | rfl | rfl<;>omega
def HZ{B:Int}(hB:0<=B){l:TN}(h:∀x∈l,x<=B):bC l<=B:=by
 cases l with
 | nil=>show hB
 | cons x l =>
   show l.foldl max x<=B
   rcases qM.mp (xx l x)with e | e
   · rw[e];show h x rE
   · show h _ (qS _ e)
section
variable{ds:List Nd}{ls:TB}{us:List (List Un)}
structure Ia(ds:List Nd)(ls:TB)(us:List (List Un)):Prop where
 ins:∀n,aB ls n 3<=100
 wide:∀n,aB ls n 11<=4000
 least:∀n,aB ls n 5<=4000
 un:∀r∈us,∀u∈r,u.w<=960
 pic:∀d∈ds,d.k=.picture->iT d<=2000
def qcq(cx:Ctx ds ls us)(lo:Ia ds ls us){B:Int}{bs:TC}(hb:∀m,0<=(aJ bs m).1/\(aJ bs m).1<=B){n:Nat}(hn:n<ds⁻¹):(fe ds ls us bs n).1<=100*B+500000:=by
 let B0:0<=B:=by have:=hb 0;omega
 obtain⟨l,el,cQ,lv⟩:=cx.look hn;let ed:ds[n]?=!ds[n]:=qB hn;let hi:=lo.ins n;let xk:(jo ds ls us bs n ds[n]).1<=100*B+400000:=by
  let oF:lD (bg us n)<=960:=by
   show HZ {} λx hx=>?_
   let⟨u,hu,rfl⟩:=qP.mp hx;unfold bg at hu;cases e:us[n]? with
   | none=>rw[e]at hu;cases hu
   | some r=>rw[e]at hu;show lo.un r (qN e) u hu
  unfold jo
  split
  .show lD _<=_;omega
  .show lD _<=_;omega
  .show lD _<=_;omega
  .let kl:=mO ds n;let le:=cx.le;have:=(Sp0.sum_b (B:=B+4000) () (l:=(aw ds n).map (cD ls bs)) (n:=100) (by rw[qA];omega) λv hv=>by
    let⟨m,hm,rfl⟩:=qP.mp hv;let h1:=hb m;let h2:=lo.least m;unfold cD;omega).2
   show((aw ds n).map (cD ls bs)).sum<=_;omega
  .let c:=cQ.cols;rw[<-lv]at c;have:bC (((aw ds n).map λm=>(m,(aJ bs m).1)).map λx=>dA x.2 (min (aB ls x.1 8) (aB ls n 7)))<=B:=HZ B0 λx hx=>by
    let⟨z,hz,rfl⟩:=qP.mp hx;let⟨m,hm,rfl⟩:=qP.mp hz;let⟨l',_,oR,oT⟩:=cx.look (cO hm);let sp:=oR.span;rw[<-oT]at sp;show xW (qcp (hb m).1 (by show 1<=min (aB ls m 8) (aB ls n 7);omega) (by show min (aB ls m 8) (aB ls n 7)<=6;omega)) (hb m).2
   show lB ls (aB ls n 7) _<=_;unfold lB;generalize bC (((aw ds n).map λm=>(m,(aJ bs m).1)).map λx=>dA x.2 (min (aB ls x.1 8) (aB ls n 7)))=b at this⊢;rcases(by omega:aB ls n 7=1\/aB ls n 7=2\/aB ls n 7=3\/aB ls n 7=4\/aB ls n 7=5\/aB ls n 7=6)with e | e | e | e | e | e<;>rw[e]<;>omega
  .show xW (HZ (B:=B+4000) () λx hx=>?_) ();let⟨m,hm,rfl⟩:=qP.mp hx;unfold cX;let h1:=hb m;let h2:=lo.wide m
   split
   .show aB ls m 11<=_;omega
   .omega
 unfold fe;rw[ed]
 by_cases hp:ds[n].k=.picture
 .have:=lo.pic _ (rJ hn) hp;simp only[hp,if_true];omega
 .simp only[hp,if_false];omega
def gB:Nat->Int
 | 0=>0
 | k+1=>101*gB k+500000
theorem Ib:∀k,0<=gB k
 | 0=>xF _
 | k + 1 => by
   have:=Ib k
   show 0<=101*gB k+500000
   omega
theorem Qg(cx:Ctx ds ls us)(lo:Ia ds ls us):∀k,k<=ds⁻¹->∀m,(aJ (eE ds ls us k) m).1<=gB k
 | 0, _, m => by
   have:aJ (eE ds ls us 0) m=(0,0):=by
     unfold aJ eE
     rw[List.getElem?_replicate]
     split<;>rfl
   rw[this]
   show xF _
 | k + 1, h, m => by
   let ih:=Qg cx lo k ()
   let nn:=F4 cx k ()
   let g0:=Ib k
   show _<=101*gB k+500000
   rw[eE]
   by_cases e:ds⁻¹-1-k=m
   · subst e
     rw[FM (by rw[qx];omega)]
     have:=qcq cx lo (λm=>⟨(nn m).1,ih m⟩) (n:=ds⁻¹-1-k) ()
     omega
   · rw[FL e]
     have:=ih m
     omega
end
end Bd
namespace Ins
open L2 Bk Gen Gd Shr Sp0 Fc
open Bd
def CL(u:dG):=((1<=u.w/\u.w<=960)/\0<=u.b/\u.b<=960)/\1<=u.h/\u.h<=100
def zd(u:dG):Un:=⟨u.w,u.b,u.h,u.k⟩
def qcr(hf:oV f)(h1:1<=x.cps.size)(h2:x.cps.size<=20):1<=mP f x/\mP f x<=180:=by
 let all:∀v∈x.cps.toList.map λc=>gI f ⟨#[c]⟩,1<=v/\v<=9:=λv hv=>by
  let⟨c,_,rfl⟩:=qP.mp hv;show 1<=gI f _/\gI f _<=9;unfold gI;cases e:f.odd.find? λp=>decide (p.1=⟨#[c]⟩)with
  | none=>show hf.2.2.1
  | some p=>show hf.2.2.2 p (List.mem_of_find?_eq_some e)
 let len:(x.cps.toList.map λc=>gI f ⟨#[c]⟩)⁻¹=x.cps.size:=by rw[qA,xK]
 unfold mP;generalize x.cps.toList.map (λc=>gI f ⟨#[c]⟩)=l at all len;show⟨?_,(sum_b (B:=9) {} (l:=l) (n:=20) () λv hv=>by have:=all v hv;omega).2⟩;cases l with
 | nil=>simp at len;omega
 | cons a r =>
   rw[List.sum_cons]
   let h3:=all a rE
   let h4:=xz (l:=r) λv hv=>by have:=all v (qS _ hv);omega
   omega
def qcs{sh:TK}(hs:∀p∈sh,rq p.2)(x:Str):1<=(mQ sh x).cps.size/\(mQ sh x).cps.size<=20:=by
 unfold mQ;cases e:sh.find? λp=>decide (p.1=x)with
 | none=>show⟨by ac_rfl,by ac_rfl⟩
 | some p =>
   have:=(hs p (List.mem_of_find?_eq_some e)).2
   show⟨this.1,rK this.2 {}⟩
def qct(ne:fs≠[])(hf:∀f∈fs,oV f)(n:Int):oV (eF fs n):=by
 let l0:0<fs⁻¹:=List.length_pos_iff.mpr ne;let h1:=uE n (show(fs⁻¹:Int)≠0 by omega);let h2:=uX n (show(0:Int)<(fs⁻¹:Int) by omega);unfold eF;rw[qB (show(n % (fs⁻¹:Int)).toNat<fs⁻¹ by omega)];show hf _ (rJ _)
theorem Qh{sh:List (Str×Str)}{num:Int}{kids:TN}(ne:fs≠[])(hf:∀f∈fs,oV f)(hs:∀p∈sh,rq p.2)(ok:∀x∈st,ii x):∀i,∀u∈dh fs sh false num kids st i,CL u
 | 0,u,hu=>nomatch hu
 | i + 1, u, hu => by
   let ih:=Qh (num:=num) (kids:=kids) ne hf hs ok i
   unfold dh at hu
   cases e:st[i]? with
   | none=>rw[e]at hu;show ih u hu
   | some x =>
     rw[e]at hu
     let px:=ok x (qN e)
     have one:∀{s:So} {y:Str} {t:Int},(1<=(jV sh s y).cps.size/\(jV sh s y).cps.size<=20)->CL ⟨iu (eF fs (num+t)) sh false s y,(eF fs (num+t)).bl,(eF fs (num+t)).hi,i,[]⟩:=λ{s y t} h=>by
       let fb:=qct ne hf (num+t)
       have:=qcr fb h.1 h.2
       let ew:iu (eF fs (num+t)) sh false s y=mP (eF fs (num+t)) (jV sh s y):=by unfold iu;rw[qY λz=>rA z.1]
       let⟨a,b,_⟩:=fb
       show⟨⟨⟨?_,?_⟩,?_,?_⟩,?_,?_⟩
       · show 1<=iu (eF fs (num+t)) sh false s y
         omega
       · show iu (eF fs (num+t)) sh false s y<=960
         omega
       · show b.1
       · show(eF fs (num+t)).bl<=960;omega
       · show a.1
       · show(eF fs (num+t)).hi<=100;omega
     let vi:∀{v:dG},CL v->u∈dh fs sh false num kids st i++[v]->CL u:=λhv hm=>by
       rcases rG.mp hm with z | z
       · show ih u z
       · rw[rT.mp z];show hv
     cases x with
     | int n=>show px.elim
     | tri s y t =>
       cases s with
       | sign=>cases y<;>show px.elim
       | word =>
         cases y with
         | inr j=>show px.elim
         | inl w=>show vi (one (s:=.word) ⟨px.1.1,px.1.2.1⟩) hu
       | page =>
         cases y with
         | inr j=>show px.elim
         | inl w=>show vi (one (s:=.page) (qcs hs w)) hu
       | note =>
         cases y with
         | inl w=>show px.elim
         | inr j =>
           let hu:u∈lE (dh fs sh false num kids st i) ((kids[j.toNat]?).getD 0):=hu
           unfold lE at hu
           cases el:(dh fs sh false num kids st i).getLast? with
           | none=>rw[el]at hu;show ih u hu
           | some v =>
             rw[el]at hu
             rcases rG.mp hu with z | z
             · show ih u (by rw[List.dropLast_eq_take]at z;show x8 z)
             · rw[rT.mp z]
               show ih v (List.mem_of_getLast? el)
def Qi{α β γ δ:Type}{F:γ->δ->Prop}{f:α->γ}{g:β->δ}{as:List α}{bs:List β}(h:Paired (λa b=>F (f a) (g b)) as bs):Paired F (as.map f) (bs.map g):=by
 induction h with
 | nil=>show .nil
 | cons q _ ih=>show .cons q ih
def gV(ds:List Nd)(fs:List cY)(sh:TK)(ls:TB):List (List Un):=(jX ds fs sh false ls).map λr=>r.map zd
def qcu{sh:TK}{ls:TB}{n:Nat}(h:n<ds⁻¹):bg (gV ds fs sh ls) n=(mT ds fs sh false (aB ls n 0) n).map zd:=by
 unfold bg gV jX;rw[qH,qH,rX h];rfl
def qcv{sh:TK}{ls:TB}:(gV ds fs sh ls)⁻¹=ds⁻¹:=by
 unfold gV jX;rw[qA,qA,xZ]
def qcw{xs:List (Addr×List (Addr×Addr))}{sh:TK}{ls:TB}(hL:H0 L=none)(e:H L=!.lst ↑(xs.map Prod.fst))(h:Ux H0 H xs (jX ds fs sh false ls))(k:KeepN (λb=>H0 b=none) H H'):LstAt Bw.RowAt H' L (gV ds fs sh ls):=by
 show⟨_,k _ _ hL e,Qi (h.1.mono λx us q=>?_)⟩;show⟨_,k _ _ q.1 q.2.1,Qi (q.2.2.mono λp u z=>⟨p.2,k _ _ z.2.1 z.1.1,_,k _ _ z.2.2 z.1.2⟩)⟩
section
variable{ds:List Nd}{fs:List cY}{sh:TK}{ls:TB}
def qcx(b:Book ds)(ne:fs≠[])(hf:∀f∈fs,oV f)(hs:∀p∈sh,rq p.2):∀r∈gV ds fs sh ls,r⁻¹<=100/\∀u∈r,Br.UOk u/\1<=u.h/\u.h<=100:=λr hr=>by
 let⟨r',yw,rfl⟩:=qP.mp hr;let⟨n,hn,rfl⟩:=qP.mp yw;let hn:=xC.mp hn;let ed:ds[n]?=!ds[n]:=qB hn;let ef:=(b.form ds[n] (rJ hn)).st;unfold mT;rw[ed];show((if ds[n].k=.text\/ds[n].k=.head\/ds[n].k=.note then _ else[]).map zd)⁻¹<=100/\∀u∈(if ds[n].k=.text\/ds[n].k=.head\/ds[n].k=.note then _ else[]).map zd,_
 split
 .rename_i hk;let h3:(∀x∈ds[n].st,ii x)/\(∃x r,ds[n].st=x::r/\ig x=false)/\ds[n].st.length<=60:=by
   rcases hk with e | e | e<;>rw[e]at ef<;>show ef
  show⟨by rw[qA];show rK (Ol _) (),λu hu=>?_⟩;let⟨v,hv,rfl⟩:=qP.mp hu;let⟨⟨w1,b1⟩,h1⟩:=Qh ne hf hs h3.1 _ v hv;show⟨⟨w1.1,w1.2,b1.1,b1.2⟩,h1⟩
 .show⟨rO _,λu hu=>nomatch hu⟩
def qcy(b:Book ds){n:Nat}(ed:ds[n]?=!d)(hk:d.k=.text\/d.k=.head\/d.k=.note):bg (gV ds fs sh ls) n≠[]:=by
 let hn:=(qE.mp ed).1;let ef:=(b.form d (qN ed)).st;let h3:(∀x∈d.st,ii x)/\(∃x r,d.st=x::r/\ig x=false)/\d.st⁻¹<=60:=by
  rcases hk with e | e | e<;>rw[e]at ef<;>show ef
 rw[qcu hn];unfold mT;rw[ed];show(if d.k=.text\/d.k=.head\/d.k=.note then _ else[]).map zd≠[];rw[qX hk];intro z;let z:=uT.mp z;let⟨x,r,e,_⟩:=h3.2.1;let l1:d.st⁻¹=r⁻¹+1:=by rw[e];rfl
 rw[l1]at z;show F5 h3.1 h3.2.1 r⁻¹ () z
end
def qcz(k:Gw.Kids 0 0 .body [bV] sub ks)(ne:ks≠[]):Book (bV::sub):=by
 show⟨⟨bV,sub,ks,O,O,O,k.fo,k.may,λ_=>ne,k.nx,λz=>by cases z⟩,λd hd=>?_,Gw.names_nodup k.nm⟩;rcases qM.mp hd with rfl | h
 .show⟨.inl O,⟨{},(λm hm=>nomatch hm),.nil⟩,O⟩
 .show k.fm d h
def qcA:∀n,n<64->gW (gB n+4000) n<=i5:=by
 unfold i5;ac_rfl
end Ins
namespace K33
open L2 Bk Gd Shr Sp0 Ins Fc
open Bd
open Gen
abbrev Qj:=top 127
def qcB{l:TN}(h:LkTo 13 l):lN l:=by
 let a:=λj {b} e=>h.at j (b:=b) e
 show⟨⟨h.1,(a 3 O).1,(a 5 O).1,xW {} (a 6 O).1,a 7 O,a 8 O,xW {} (a 11 O).1⟩,a 4 O,xW (a 5 O).2 {},xW (a 6 O).2 {},a 9 O,by have:=a 10 O;let h1:0<=l.getD 10 0:=this.1;let h2:l.getD 10 0<=1:=this.2;omega⟩
def Ic{ls:TB}(h:∀l∈ls,LkTo 13 l){j:Nat}{b:Int×Int}(e:ka[j]?=!b)(h0:0<=b.2)(n:Nat):aB ls n j<=b.2:=by
 unfold aB;cases en:ls[n]? with
 | none=>show h0
 | some l=>show((h l (qN en)).at j e).2
def qcC{ls:TB}(h:∀l∈ls,LkTo 13 l){j:Nat}{b:Int×Int}(e:ka[j]?=!b)(h0:0<=b.1)(n:Nat):0<=aB ls n j:=by
 unfold aB;cases en:ls[n]? with
 | none=>show xF _
 | some l=>show xW h0 ((h l (qN en)).at j e).1
def qcD{l:TN}(h:LkAt H a l)(hl:l⁻¹=13)(S:StOk H st):a≠st:=λz=>by
 let⟨x,y,e,_⟩:=S;let h:H a=_:=h;rw[z,e]at h;have:=xH List.length (HO.lst.inj (qZ h));rw[qA,hl]at this;cases this
def looks_keep{ls:TB}(S:StOk H st)(k:Keep1 st H H')(l13:∀l∈ls,l⁻¹=13)(h:LstAt LkAt H p ls):LstAt LkAt H' p ls:=by
 let⟨as,e,pr⟩:=h;show⟨as,k _ _ (j6 e S) e,Br.paired_mem pr λa l hl z=>k _ _ (qcD z (l13 l hl) S) z⟩
def qcE(S:StOk H st)(k:Keep1 st H H')(h:LstAt FcAt H p fs):LstAt FcAt H' p fs:=by
 let⟨as,e,pr⟩:=h;show⟨as,k _ _ (j6 e S) e,pr.mono λa f z=>?_⟩;let⟨L,e1,bs,e2,po⟩:=z;show⟨L,k _ _ (mY e1 S) e1,bs,k _ _ (j6 e2 S) e2,B4 S k po⟩
def qcF{bs:TC}(S:StOk H st)(k:Keep1 st H H')(h:LstAt PrAt H p bs):LstAt PrAt H' p bs:=by
 let⟨as,e,pr⟩:=h;show⟨as,k _ _ (j6 e S) e,pr.mono λa x z=>k _ _ (mY z S) z⟩
inductive Ie(K:W.Frag):List V->Hp->VK->XK->Prop
|m (a:Addr) (ns:TN):vs=[.ref a]->SqL K H a ⇑ns->(∀(R B p U Sp:Addr) (ds:List Nd) (ls:TB) (us:List (List Un)) (sp:TC) (H':Hp),Same H H'->H' R=!.lst [.ref B,.ref p,.ref U,.ref Sp]->cM (λ_=>True) H' B ds->LstAt LkAt H' p ls->LstAt Bw.RowAt H' U us->LstAt PrAt H' Sp sp->ds⁻¹<64->(∀sz:List Sz,sz⁻¹=ds⁻¹->kq ds ls sz sp us)->(∀n,0<=aB ls n 2)->SpG ds ls ds⁻¹ sp->Q (.ref R) H')->Ie K vs H Q E
def qcG(F:Fu K "_law_made" Qj f fd)(T:bY mg)(ze:⋯ 1 "_law_stream" ["_law_script", "_law_k"] (Bi K))(bI:⋯ 1 "_law_take" ["_law_stream_here", "_law_most"] im)(qcH:⋯ 11 "_law_book" ["_law_stream_here", "_law_many", "_law_room_here"] Gw.spBook)(qcI:⋯ 11 "_law_wide" ["_law_nodes", "_law_stream_here"] Gw.spWide)(qcJ:⋯ 2 "_law_looks" ["_law_book_here", "_law_stream_here"] GR)(qcK:⋯ 2 "_law_faces" ["_law_stream_here"] Gu)(qcL:⋯ 2 "_law_shown" ["_law_book_here", "_law_stream_here"] GT)(qcM:Gq P w K mg base am 4 "all_units" ["book", "looks", "faces", "shown", "held"] [Value.bool false] (fal 4 spAllU))(qcN:⋯ 6 "all_bounds" ["book", "looks", "units"] Bw.spAll)(qcO:⋯ 6 "all_spans" ["book", "looks", "bounds", "wide"] HC):(~~~0) 12 f fd ["_law_script"] (Ie K):=by
 rcases F.go ["_law_script", "_law_stream_here", "_law_wide_here", "_law_book_here", "_law_looks_here", "_law_units", "_law_spans"] with⟨a,ns,rfl,hA,q⟩;let qcP:Room 4 _:=hr.mono {};show⟨_,(ax (sv 1 (cF ze hr (a2 '0' ao)))
  (ax (sv 2 (ec bv (cF bI hr (a2 (cF ze hr (a2 '0' ao)) ao)) ao))
  (ax (sv 3 (cF qcH hr (a3 '1' (px aK (bf (a2 (aG a9 ao (cF bI hr (a2 '1' ao))) ao)) (iL AR (by rfl) T.int Bh (a1 '2'))) (px aK (bf (a2 ao ao)) (iL AR (by rfl) T.int Bh (a1 '2'))))))
  (ax (ba (kE '2') (aA (cI (cF qcI hr (a2 '3' '1')))) bi)
  (ax (sv 1 (cF ze hr (a2 '0' ao)))
  (ax (sv 4 (cF qcJ hr (a2 '3' '1')))
  (ax (sv 5 (qak qcM qam qcP (by rfl) Eb (aO '3' (a3 '4' (cF qcK hr (a1 '1')) (cF qcL hr (a2 '3' '1'))))))
  (ax (sv 6 (cF qcO hr (aO '3' (a3 '4' (cF qcN hr (a3 '3' '4' '5')) (aG a9 ao (cF bI hr (a2 '1' ao)))))))
  (aA (aH (bf (aO '3' (a3 '4' '5' '6'))))))))))))),?_⟩
 show-⟨a,ns,0,O,hA,{},{},λst H1 cp S1 s1=>?_⟩;dsimp only[aY];show-⟨a,ns,0,O,Br.sql_same s1 hA,{},{},λgq H2 Qk S2 s2=>?_⟩;show⟨gq,8,O,S2,{},{},λr H3 r0 r1 S3 K3=>⟨O,?_⟩⟩;let n2:st≠gq:=λz=>by
  let⟨o,e⟩:=S1.some;rw[z,Qk]at e;cases e
 let S13:StOk H3 st:=by
  let⟨x,y,e,z⟩:=S1;show⟨x,y,K3 _ _ n2 (s2 _ _ e),z⟩
 let dC:Same H H3:=λb o e=>K3 _ _ (λz=>by have:=s1.free Qk;rw[z,this]at e;cases e) (s2 _ _ (s1 _ _ e))
 clear K3 S3 S2 s2 S1;dsimp only[aY];generalize decide (V.int r=V.int 6)=wb;show seq_post (λae H'=>∃(H0:Hp) (p:Addr) (sub:List Nd) (ks:List Kd),ae=[!.ref a,!.ref st,!.bl wb,!.ref p,none,none,none]/\Keep1 st H3 H0/\Gw.Kids 0 0 .body [bV] sub ks/\ks≠[]/\sub⁻¹<=50/\(wb=true->sub⁻¹<=33)/\Gs H0 st p H' (bV::sub)) (λD' kk=>?_) ?_
 .refine¬⟨st,4,O,S13,{},{},λr4 H4 ot ou S4 K4=>⟨_,_,O,O,aT,λZ hZ=>?_⟩⟩;let s5:=ay hZ (.lst [.int (1+r4),.int 1]);let fR:af H4 Z (.lst [.int (1+r4),.int 1]) Z=!.lst [.int (1+r4),.int 1]:=ar;generalize af H4 Z (.lst [.int (1+r4),.int 1])=H5 at s5 fR⊢;show-⟨.inr ⟨wb,O,?_⟩⟩;let S5:=S4.same s5;let K5:=K4.trans (s5.keep (N:=λb=>b≠st));cases wb with
  | true =>
    show⟨Z,_,_,_,O,O,ag fR,(show bO [V.int (1+r4),V.int 1] (if true=true then 1 else 0)=!V.int 1from rfl),aT,λY hY=>?_⟩
    let s6:=ay hY (.lst [.int 12,.int 4])
    show-⟨.inr ⟨true,O,Y,_,_,_,O,O,ag ar,(show bO [V.int 12,V.int 4] (if true=true then 1 else 0)=!V.int 4from rfl),st,1,4,O,S5.same s6,{},{},{},{},λp sub ks H' ki le ne G=>kk _ _ ⟨_,p,sub,ks,O,K5.trans s6.keep,ki,ne,(),λ_=>(),G⟩⟩⟩
  | false =>
    obtain⟨m,em⟩:∃m:Nat,(1:Int)+r4=m:=⟨(1+r4).toNat,()⟩
    show⟨Z,_,_,_,O,O,ag fR,(show bO [V.int (1+r4),V.int 1] (if false=true then 1 else 0)=!V.int (1+r4)from rfl),aT,λY hY=>?_⟩
    let s6:=ay hY (.lst [.int 12,.int 4])
    show-⟨.inr ⟨false,O,Y,_,_,_,O,O,ag ar,(show bO [V.int 12,V.int 4] (if false=true then 1 else 0)=!V.int 12from rfl),st,m,12,by rw[em];rfl,S5.same s6,(),(),{},{},λp sub ks H' ki le ne G=>kk _ _ ⟨_,p,sub,ks,O,K5.trans s6.keep,ki,ne,(),(λz=>nomatch z),G⟩⟩⟩
 ext ae H4 ⟨H0,p,sub,ks,rfl,K0,ki,lT,Ql,Qm,G⟩;show seq_post (λae H'=>∃(sub:List Nd) (ks:List Kd),ae=[!.ref a,!.ref st,!.bl wb,!.ref p,none,none,none]/\Gw.Kids 0 0 .body [bV] sub ks/\ks≠[]/\sub⁻¹<=61/\Gs H0 st p H' (bV::sub)) (λD' kk=>?_) ?_
 .cases wb with
  | false=>show¬⟨bj (kk _ _ ⟨sub,ks,O,ki,lT,(),G⟩)⟩
  | true=>show¬⟨bK ⟨_,O,_,O,H0,p,st,sub,ks,O,G,ki,Ql,λmore ca H' Ig l28 G'=>kk _ _ ⟨sub++more,ks++ca,O,Ig,λz=>lT (List.append_eq_nil_iff.mp z).1,by rw[qJ];have:=Qm O;omega,G'⟩⟩⟩
 clear Ql Qm ki lT G sub ks;ext ae H5 ⟨sub,ks,rfl,ki,lT,l61,G⟩;let bk:=qcz ki lT;let l62:(bV::sub)⁻¹<=62:=by rw[rH];omega
 clear ki lT l61;generalize bV::sub=ds at bk l62 G;let jw:Same H H5:=λb o e=>by
  let n:b≠st:=λz=>by rw[z,cp]at e;cases e
  show G.old _ _ n (K0 _ _ n (dC _ _ e))
 show-⟨a,ns,1,O,Br.sql_same jw hA,{},{},λcU H6 nh S6 s6=>?_⟩;dsimp only[aY];let⟨ab,hp,nd⟩:=G.bk;let p1:p≠cU:=λz=>by rw[z,nh]at hp;cases hp
 let Qn:cM (λb=>b≠cU) H6 p ds:=⟨ab,s6 _ _ hp,nd.keep s6.keep λb _ hb z=>by rw[z,nh]at hb;cases hb⟩;let sJ:∀{J J':Hp},Keep1 cU J J'->cM (λb=>b≠cU) J p ds->cM (λb=>b≠cU) J' p ds:=λk h=>by
  let⟨as,e,n⟩:=h;show⟨as,k _ _ p1 e,n.keep k λ_ z _=>z⟩
 let CM:∀{J:Hp},cM (λb=>b≠cU) J p ds->cM (λ_=>True) J p ds:=λh=>by
  let⟨as,e,n⟩:=h;show⟨as,e,n.keep KeepN.refl λ_ _ _=>trivial⟩
 clear nd hp ab;show¬⟨p,cU,ds,O,Qn,p1,(),S6,λP' ls H7 hP lP ll sK S7 K7=>?_⟩;dsimp only[aY];let bk7:=sJ K7 Qn;let l13:∀l∈ls,l⁻¹=13:=λl hl=>(sK l hl).1
 let lV:∀l∈ls,lN l:=λl hl=>qcB (sK l hl)
 show¬⟨_,O,cU,O,S7,λF' fs H8 hF lF fne f4 fok fb S8 K8=>?_⟩;let Qo:=sJ K8 bk7;let lP8:=looks_keep S7 K8 l13 lP;show¬⟨p,cU,ds,O,Qo,p1,(),S8,λSh sh H9 hSh lSh Qp wd S9 K9=>?_⟩;let CN:=sJ K9 Qo;let CO:=looks_keep S8 K9 l13 lP8;let lF9:=qcE S8 K9 lF;let sho:oQ sh:=⟨Qp.nodup bk.names,by
  let h1:=Qp.length_le;rw[qA]at h1;let h2:(fO ds)⁻¹<=ds⁻¹:=by unfold fO;rw[qA];show yG _ _
  omega,λp hp=>(wd p hp).1⟩
 let uc:=qao bk () fne () fok sho;show⟨O,p,P',F',Sh,false,ds,fs,sh,ls,O,CM CN,CO,ll,l13,lF9,lSh,uc,λU xs H10 hU j8 eU _ ux=>?_⟩;dsimp only[aY];let uok:=qcx (ls:=ls) bk fne fb wd;let eX:∀(n:Nat) (d:Nd),ds[n]?=!d->(d.k=.text\/d.k=.head\/d.k=.note)->bg (gV ds fs sh ls) n≠[]:=λn d e hk=>qcy bk e hk
 let ul:(gV ds fs sh ls)⁻¹=ds⁻¹:=qcv;let cx:Ctx ds ls (gV ds fs sh ls):=⟨(),ll,ul,λl hl=>(lV l hl).toLkOk,λr hr=>⟨(uok r hr).1,λu hu=>by let⟨⟨h1,_,h2,_⟩,_⟩:=(uok r hr).2 u hu;show⟨(),h2⟩⟩,eX,λn d e hk=>NM bk e hk,λn d e hk=>Zp bk e hk,mS bk⟩;let lo:Ia ds ls (gV ds fs sh ls):=⟨λn=>xW (Ic sK (j:=3) O {} n) {},λn=>xW (Ic sK (j:=11) O {} n) {},λn=>xW (Ic sK (j:=5) O {} n) {},λr hr u hu=>((uok r hr).2 u hu).1.2.1,λd hd hk=>by
  have:=(bk.form d hd).st;rw[hk]at this;let⟨w1,h1,e,_,h2,_⟩:=this;unfold iT;rw[e];show h2⟩
 let rows:∀{J:Hp},KeepN (λb=>H9 b=none) H10 J->LstAt Bw.RowAt J U (gV ds fs sh ls):=λk=>qcw hU eU ux k
 let nn:=F4 cx ds⁻¹ (qG _);let nl:=Qg cx lo ds⁻¹ (qG _);let bl:(xg ds ls (gV ds fs sh ls))⁻¹=ds⁻¹:=qx _;generalize gV ds fs sh ls=us at uok eX ul cx rows nn nl bl;show¬⟨_,O,_,O,_,O,p,P',U,ds,ls,us,O,⟨CM (sJ j8.keep CN),dg j8 CO,rows KeepN.refl⟩,cx,λL H11 hL zf lL=>?_⟩;let CP:=j8.trans zf;let Qq:=S9.same CP;show-⟨cU,200,O,Qq,{},{},λrw H12 ET EU S12 K12=>⟨_,_,O,O,?_⟩⟩;let Ih:Keep1 cU H9 H12:=CP.keep.trans K12;let g0:=Ib ds⁻¹;show⟨gB ds⁻¹+4000,p,P',L,20+rw,ds,ls,_,O,⟨CM (sJ Ih CN),looks_keep S9 Ih l13 CO,qcF Qq K12 lL⟩,⟨(),?_,ll,bl,lV,λb hb=>?_,()⟩,mS bk,(),(),λSp sp H13 kr gj lSp gO sb sg=>?_⟩
 .let⟨d,qcQ,ca,rfl,_⟩:=bk.tree;rw[rH];omega
 .let⟨i,hi,rfl⟩:=xA.mp hb;let e:aJ (xg ds ls us) i=(xg ds ls us)[i]:=by unfold aJ;rw[qB hi];rfl
  rw[<-e];let h1:=nn i;let h2:=nl i;let e2:xg ds ls us=eE ds ls us ds⁻¹:=rfl;rw[e2];show⟨h1.1,()⟩
 dsimp only[aY];show¬⟨_,O,_,O,aT,λR hR=>?_⟩;let gE:=gj.trans (ay hR (.lst [.ref p,.ref P',.ref U,.ref Sp]));let Ii:Keep1 cU H9 _:=Ih.trans gE.keep;let qcR:Keep1 cU H6 _:=((K7.trans K8).trans K9).trans Ii;let⟨o9,e9⟩:=S9.some;show q R p P' U Sp ds ls us sp _ (λb o e=>qcR b o (λz=>by have:=jw.free nh;rw[z,this]at e;cases e) (s6 _ _ (jw _ _ e))) ar (CM (sJ Ii CN)) (looks_keep S9 Ii l13 CO) (rows λb o n e=>(zf.keep.trans (K12.trans gE.keep)) b o (λz=>by rw[z,e9]at n;cases n) e) (gf (ay hR _) lSp) () (λsz lz=>⟨⟨⟨bk,(),ll,lV,lz⟩,gO⟩,ul,uok,eX,sb.mono (qcA _ ())⟩) (qcC sK (j:=2) O {}) sg
end K33
namespace K33
open L2 Bk Gen Gd Sp0
abbrev Qr:=top 80
abbrev Qs:=top 79
def qcS(F:Fu K "end_of" Qr f fd)(U:BD mg):(~~~0) 1 f fd ["place"] GE:=by
 rcases F.go ["place"] with⟨a,p,rfl,ha,q⟩;let⟨_,nj⟩:=U.row;let⟨_,Hm⟩:=U.deep;show⟨_,(aA (aH (aG a9 (px aF '0' (gi nj)) (px aF '0' (gi Hm))))),?_⟩;show-⟨a,_,_,_,O,O,aC ha,O,_,O,a,_,_,_,O,O,aC ha,O,_,_,O,O,q⟩
def qcT(F:Fu K "grid_highs" Qs f fd)(T:qp mg)(U:BD mg)(Qt:⋯ 1 "end_of" ["place"] GE):(~~~0) 2 f fd ["places", "highs"] HL:=by
 rcases F.go ["places", "highs", "told", "row", "needed"] with⟨a,b,ps,hs,rfl,⟨as,ha,pr⟩,hb,ok,q⟩;let⟨_,nj⟩:=U.row;let la:=qU pr;let lh:=ok.len;let l20:=ok.le;let m80:=ok.many;show⟨_,(ax (sv 2 (bf bX))
  (ax (fv (r1 T.range (ym true (by rfl) (by rfl) T.max dU (a1 (cm ["place"] [] [] (bc '0') (nv 0) br (cF Qt hr (a1 '0')))) ao)) (nv 3)
  (ax (sm 4 ["place", "high"] ["told", "row"] [2,3] (FC (by rfl) T.zip (a2 '0' '1')) (mH K (n:=2) (by rfl) (by rfl) (bF (nv 0) (bF (nv 1) dZ))) (h9 (tc bv (cF Qt hr (a1 '0')) (aG a9 '3' ao))) (aG c9 '1' (cb (r:=xb K) (GP K (by rfl) (by rfl)) T.sum fJ (a1 (jL (r:=pY K) (FE K (by rfl)) '2' (hG (px (r:=bZ K) aF '0' (gi nj))) oa)))))
  (aA (cI (ap '2' (cb (oK (by rfl)) T.max dU (a1 (aG uu (bf (a1 ao)) '4'))))))))
  (aA (aH '2')))),?_⟩
 show⟨aT,λL hL=>?_⟩;let s1:=ay hL (.lst []);let bo:af H L (.lst []) L=!.lst ⇑([]:TN):=ar;generalize af H L (.lst [])=H1 at s1 bo⊢;show-⟨a,O,⟨_,ag (s1 _ _ ha)⟩,bB (xs:=↑as) (λi ys ae H'=>H'=H1/\ys=⇑((dj ps).take i)/\∃z,ae=[z]) (by rw[qA];show aW ()) ⟨O,O,none,O⟩ ?_ ?_ ?_⟩
 .ext i ys ae H' hi ⟨rfl,rfl,_⟩;show ag (s1 _ _ ha)
 .ext i y ys ae H' hy ⟨rfl,rfl,z,rfl⟩;let⟨c,ec,rfl⟩:=cJ hy;let⟨p,ep,hc⟩:=bW pr ec;show-⟨c,p,O,s1 _ _ hc,O,?_,_,O⟩;let ee:(dj ps)[i]?=!(p.r:Int)+p.d:=by unfold dj;rw[qH,ep];rfl
  rw[qO,ee,qD];rfl
 ext ys ae H' ⟨rfl,rfl,_⟩ D hD;let el:⇑((dj ps).take (↑as)⁻¹)=⇑(dj ps):=by
  rw[qI (by unfold dj;rw[qA,qA];omega)]
 rw[el];let sD:=ay hD (.lst ⇑(dj ps));let dD:af H' D (.lst ⇑(dj ps)) D=!.lst ⇑(dj ps):=ar;let s2:=s1.trans sD;let eI:=sD _ _ bo;generalize af H' D (.lst ⇑(dj ps))=H2 at sD dD s2 eI⊢;show⟨D,dj ps,.int (many ps),O,ag dD,λz=>?_,λz=>⟨_,qay λe=>z (by rw[e];rfl),O,Op⟩,_,O,(),(),gY (λi σ H3=>Same H H3/\(∃z3 z4,σ=[!.ref a,!.ref b,!.ref L,z3,z4])/\H3 L=!.lst ⇑(bM (ps.zip hs) i)) ⟨s2,⟨none,none,O⟩,eI⟩ ?_ ?_⟩
 .rw[B7,z];rfl
 .rintro i σ H3 hi ⟨s3,⟨z3,z4,rfl⟩,cr⟩;rw[show(0:Int)+(i:Int)=(i:Int)from uY _];let lz:(↑as)⁻¹=(⇑hs)⁻¹:=by rw[qA,qA];omega
  show¬⟨a,b,O,⟨_,ag (s3 _ _ ha)⟩,⟨_,ag (s3 _ _ hb)⟩,FF (xs:=↑as) (ys:=⇑hs) lz (λj ys ae H4=>Same H3 H4/\ys=⇑(eW ((ps.zip hs).take j) (bM (ps.zip hs) i) i)/\∃z1 z2,ae=[z1,z2,!.ref L,!.int i]) (by rw[qA];show aW ()) ⟨Same.refl _,O,none,none,O⟩ ?_ ?_ ?_⟩
  .ext j ys ae H4 hj ⟨s4,rfl,_⟩;show⟨ag ((s3.trans s4) _ _ ha),ag ((s3.trans s4) _ _ hb)⟩
  .ext j x y ys ae H4 T' hx hy hT ⟨s4,rfl,z1,z2,rfl⟩;let⟨c,ec,rfl⟩:=cJ hx;let⟨n,en,rfl⟩:=oW hy;let⟨p,ep,hc⟩:=bW pr ec;let ez:=qaC ep en;let sT:=ay hT (.tup [.ref c,.int n]);let fj:af H4 T' (.tup [.ref c,.int n]) T'=!.tup [.ref c,.int n]:=ar;let fI:=s4.trans sT;generalize af H4 T' (.tup [.ref c,.int n])=H5 at sT fj fI⊢;let CQ:PlAt H5 c p:=(s3.trans fI) _ _ hc;let iE:=fI _ _ cr;show⟨T',_,O,aC fj,O,_,_,O,_,_,O,O,_,O,c,p,O,CQ,_,O,_,_,O,O,O,_,O,?_⟩;let et:(ps.zip hs).take (j+1)=(ps.zip hs).take j++[(p,n)]:=by rw[qO,ez];rfl
   by_cases Ij:p.r+p.d=i+1
   .show eS (show V.int ((p.r:Int)+p.d)=V.int ((i:Int)+1) by congr 1;omega) ⟨_,O,_,O,_,O,c,_,_,_,O,O,aC CQ,O,_,O,L,_,O,ag iE,λS hS=>?_⟩;let pd:=(ok.ro p (qN ep)).1;let sS:=ay hS (.lst (fV ⇑(bM (ps.zip hs) i) (!(p.r:Int)) none));rw[cut_from]at sS⊢;show⟨S,_,O,ag ar,_,_,O,O,?_⟩
    .show⟨fI.trans sS,?_,_,_,O⟩;rw[et,Os,qX Ij,qD];rfl
   .show dM (show¬V.int ((p.r:Int)+p.d)=V.int ((i:Int)+1)from λz=>Ij (by have:=V.int.inj z;omega)) ⟨fI,?_,_,_,O⟩;rw[et,Os,qY Ij,rZ]
  .ext ys ae H4 ⟨s4,rfl,z1,z2,rfl⟩ N hN;let en:(ps.zip hs).take (↑as)⁻¹=ps.zip hs:=qI (by rw[qA,List.length_zip];omega);rw[en];let sN:=ay hN (.lst ⇑(eW (ps.zip hs) (bM (ps.zip hs) i) i));let fE:af H4 N (.lst ⇑(eW (ps.zip hs) (bM (ps.zip hs) i) i)) N=!.lst ⇑(eW (ps.zip hs) (bM (ps.zip hs) i) i):=ar;let Ik:=s4.trans sN;generalize af H4 N (.lst ⇑(eW (ps.zip hs) (bM (ps.zip hs) i) i))=H5 at sN fE Ik⊢;let iE:=Ik _ _ cr;let ln:(eW (ps.zip hs) (bM (ps.zip hs) i) i)⁻¹<=100:=by
    unfold eW;rw[qA];show rK (yG _ _) ?_;rw[List.length_zip];omega
   show-⟨.inl ⟨O,_,ag iE⟩,aT,λZ hZ=>?_⟩;let sZ:=ay hZ (.lst [.int 0]);let fR:af H5 Z (.lst [.int 0]) Z=!.lst [.int 0]:=ar;let Qu:=sZ _ _ fE;let gn:=sZ _ _ iE;let Qv:=Ik.trans sZ;generalize af H5 Z (.lst [.int 0])=H6 at sZ fR Qu gn Qv⊢;show-⟨Z,N,_,_,O,O,fR,Qu,by rw[qA];show xD (aW (by show 1+_<=1000;omega)),λC hC=>?_⟩;let sC:=ay hC (.lst ([.int 0]++⇑(eW (ps.zip hs) (bM (ps.zip hs) i) i)));let zg:af H6 C (.lst ([.int 0]++⇑(eW (ps.zip hs) (bM (ps.zip hs) i) i))) C=!.lst ⇑([0]++eW (ps.zip hs) (bM (ps.zip hs) i) i):=by rw[ar,qD];rfl
   let nE:=sC _ _ gn;let Qw:=Qv.trans sC;generalize af H6 C (.lst ([.int 0]++⇑(eW (ps.zip hs) (bM (ps.zip hs) i) i)))=H7 at sC zg nE Qw⊢;show⟨C,_,_,O,ag zg,qav _,qaw _,L,_,_,O,O,nE,aW (by rw[qA,xy];omega),iq (s3.trans Qw) hL,⟨_,_,O⟩,?_⟩;rw[ar,bM,qD];rfl
 .ext σ H3 ⟨s3,⟨z3,z4,rfl⟩,cr⟩;rw[uD]at cr;show-⟨q L H3 hL s3 cr⟩
end K33
namespace L2
open PyProof.Rows
end L2
namespace L2
open PyProof.Rows Builtin Builtin.Str
end L2
namespace L2
open Builtin Builtin.Str
end L2
namespace L2
open Builtin Builtin.Str StrLaws
end L2
namespace L2
end L2
namespace L2
open PyProof.Rows
end L2
namespace Bk
open L2 Gen
end Bk
namespace Gen
open L2 Bk
end Gen
namespace L2
end L2
namespace Gen
open L2 Bk
end Gen
namespace L2
open PyProof
section
variable{X:Cx}
inductive Qx(neg:Bool):V->V->Hp->VK->Prop
|m (a b:Addr) (xs:List V):x=.ref a->y=.ref b->H a=!.lst xs->H b=!.lst []->Q (.bl (if neg then (Bool.not (xs.isEmpty)) else xs.isEmpty)) H->Qx neg x y H Q
def qcU(hu:X.A.units+64<cLine):cw X (compareOp .NotEq) (Qx true):=by
 intro aa s σ H x y v u Q I rx ry h;let⟨a,b,xs,rfl,rfl,ha,hb,q⟩:=h;cases rx;cases ry;let⟨ah,rv,pl,hz⟩:=I.list (ag ha);let⟨gu,lq,Qy,oI⟩:=I.list (ag hb);let l1:ah⁻¹=xs⁻¹:=rv.length.symm;let l2:gu⁻¹=0:=lq.length.symm;rw[qX O]at q;cases xs with
 | nil =>
   show SeqAt.RcNeAt.lists (e:=λ_=>true) pl.isList Qy.isList (by simp[l1,l2]) () (λj h1 h2=>qT h1 (by rw[rC,l1];show xS _)) _ _ _ _ ?_
   rw[rC,l1]
   show⟨.bl _,H,I,O,q⟩
 | cons z zs=>show SeqAt.RcNeAt.lists_lengths pl.isList Qy.isList (by simp[l1,l2]) () _ _ _ _ ⟨.bl _,H,I,O,q⟩
end
end L2
namespace K33
open L2 Bk Gen Gd Bd Ins
abbrev Qz:=top 15
abbrev QA:=top 126
def CS:Option Nat->V
 | none=>.non
 | some m=>.int (m:Int)
inductive o8:List V->Hp->VK->XK->Prop
|m (B:Addr) (n:Nat) (ds:List Nd):vs=[.ref B,.int n]->cM (λ_=>True) H B ds->Book ds->ds⁻¹<=100->n<ds⁻¹->(∀H',Same H H'->Q (CS (bN ds n)) H')->o8 vs H Q E
def QB{n:Nat}(e:ds[n]?=!d)(h:d.k≠.text):bN ds n=none:=by
 unfold bN;rw[e];show qY h
def QC{n:Nat}(e:ds[n]?=!d)(h:d.k=.text):bN ds n=(cB ds d.e n).getLast?.filter (cE ds):=by
 unfold bN;rw[e];show qX h
def qcV(F:Fu K "aside_ahead" Qz f fd)(tE:∃t,mg "ELDER" = !.int 0 t)(tK:∃t,mg "KIND" = !.int 1 t)(jr:⋯ 1 "holds" ["book", "node"] mR):(~~~0) 2 f fd ["book", "node"] o8:=by
 rcases F.go ["book", "node", "held", "place"] with⟨B,n,ds,rfl,⟨as,hB,nd⟩,bk,le,hn,q⟩;let⟨_,qz⟩:=tE;let⟨_,dW⟩:=tK;obtain⟨d,ed⟩:∃d,ds[n]?=!d:=⟨_,qB hn⟩;let⟨a,ea,na⟩:=nd.get ed;let⟨m',s',ha,_⟩:=na.ex;show⟨_,(ax (ba (tc jc (px aF (px aK '0' '1') (gi dW)) aU) (aA (aH pQ)) bi)
  (ax (sv 2 (cF jr hr (a2 '0' (px aF (px aK '0' '1') (gi qz)))))
  (ax (sv 3 (jM yM PySem.F.slot_list_index PySem.F.type_list_index N9 '2' (a1 '1')))
  (ax (ba (PW.pt (jH (tc bv '3' ao) (kF (tc jc (px aF (px aK '0' (px aK '2' (aG c9 '3' ao))) (gi dW)) aU)))) (aA (aH pQ)) bi)
  (aA (aH (px aK '2' (aG c9 '3' ao)))))))),?_⟩
 show¬⟨B,_,_,_,O,O,ag hB,aX ea,a,_,_,_,O,O,aC ha,O,O,_,O,?_⟩;rw[show decide (V.str d.k.s=V.str (s!"text"))=decide (d.k=.text)from bH d.k .text]
 by_cases hk:d.k=.text
 .rw[qR hk];show bj ?_;let eb:=QC ed hk;obtain⟨e,he⟩:∃e:Nat,d.e=(e:Int)/\e<n:=by
   rcases(Bk.Book.each bk ed).up with⟨z,_⟩ | ⟨_,j,_,ej,lt,_⟩
   .have:=(Bk.Book.each bk ed).body.mpr z;rw[hk]at this;cases this
   .show⟨j,ej,lt⟩
  let⟨he,hen⟩:=he;show¬⟨_,O,B,_,_,_,O,O,ag hB,aX ea,a,_,_,_,O,O,aC ha,O,B,e,ds,_,by rw[he];rfl,⟨as,hB,nd⟩,(),(),λK0 H1 hK s1 di=>?_⟩;let⟨r,er⟩:=P4 ed he;let hO:H1 K0=!.lst (((aw ds e).map λ(j:Nat)=>!(j:Int)).map Br.ov):=by
   rw[di,xO,xO];rfl
  let kl:=mO ds e;rw[he]at eb;show-⟨.inl ⟨O,_,ag hO⟩,_,O,K0,_,(n:Int),(cB ds e n)⁻¹,O,O,hO,by rw[qA];omega,?_,λi hi=>?_,?_⟩
  .rw[qH,er,rL (qG _),Nat.sub_self];rfl
  .rw[qH,er,xE hi,qB hi];intro z;let z:(((cB ds e n)[i]:Nat):Int)=(n:Int):=qZ (qZ z);have:=yz (rJ hi);omega
  dsimp only[aY];show-⟨O,_,O,?_⟩;rcases List.eq_nil_or_concat (cB ds e n)with z | ⟨ys,b,z⟩
  .rw[z]at eb⊢;rw[qR (show V.int (([]:TM)⁻¹:Int)=V.int 0 from rfl)];let q2:=q H1 s1;rw[eb]at q2;show bK (bK q2)
  .rw[List.concat_eq_append]at z;let lz:(cB ds e n)⁻¹=ys⁻¹+1:=by rw[z,qJ];rfl
   rw[qV (λy=>by have:=V.int.inj y;omega:¬V.int ((cB ds e n)⁻¹:Int)=V.int 0)];let Il:b∈cB ds e n:=by rw[z];simp
   let hb:b<ds⁻¹:=uH (yz Il) hn;obtain⟨db,zh⟩:∃d,ds[b]?=!d:=⟨_,qB hb⟩;let⟨c,ec,nc⟩:=nd.get zh;let⟨_,_,hc,_⟩:=nc.ex;let zo:bO ⇑((aw ds e).map λ(j:Nat)=>(j:Int)) (((cB ds e n)⁻¹:Int)-1)=!.int (b:Int):=by
    rw[show((cB ds e n)⁻¹:Int)-1=((ys⁻¹:Nat):Int) by omega];show fX ?_;rw[qH,qH,er,z,xM,rL (qG _),Nat.sub_self];rfl
   show bj ⟨_,O,_,O,_,O,_,_,O,O,K0,_,_,_,O,O,ag di,zo,B,_,_,_,O,O,ag (s1 _ _ hB),aX ec,c,_,_,_,O,O,aC (s1 _ _ hc),O,O,_,O,?_⟩;rw[show decide (V.str db.k.s=V.str (s!"aside"))=decide (db.k=.aside)from bH db.k .aside];let eA:cE ds b=decide (db.k=.aside):=by
    unfold cE;rw[zh]
    by_cases y:db.k=.aside<;>simp[y]
   let q2:=q H1 s1;rw[eb,z,List.getLast?_append]at q2
   by_cases hA:db.k=.aside
   .rw[qR hA];let e3:(([b].getLast?.or ys.getLast?).filter (cE ds))=!b:=by simp[Option.filter,eA,hA]
    rw[e3]at q2;show bj ⟨_,O,_,O,_,_,O,O,K0,_,_,_,O,O,ag di,zo,q2⟩
   .rw[qV hA];let e3:(([b].getLast?.or ys.getLast?).filter (cE ds))=none:=by simp[Option.filter,eA,hA]
    rw[e3]at q2;show bK q2
 .rw[qV hk];let q2:=q H (Same.refl H);rw[QB ed hk]at q2;show bK q2
def qcW(F:Fu K "_law_beside" QA f fd)(T:bY mg):(~~~0) 1 f fd ["_law_book_here", "_law_node"] o8:=by
 rcases F.go ["_law_book_here", "_law_node", "_law_some"] with⟨B,n,ds,rfl,⟨as,hB,nd⟩,bk,le,hn,q⟩;let hu:=hr.units;obtain⟨d,ed⟩:∃d,ds[n]?=!d:=⟨_,qB hn⟩;let⟨a,ea,na⟩:=nd.get ed;let⟨m',s',ha,_⟩:=na.ex;show⟨_,(ax (sm 2 ["_law_k"] ["_law_book_here", "_law_node"] [0,1] (r1 T.range '1') (nv 0) (h9 (tc bv (px (r:=bZ K) aF (px (r:=du K) aK '1' '0') ao) (px (r:=bZ K) aF (px (r:=du K) aK '1' '2') ao))) '0')
  (ax (ba (PW.pt (gX (tc bv (px aF (px aK '0' '1') ao) aU) (gX (tc (qcU hu) '2' (bf bX)) (i9 (tc bv (px aF (px aK '0' (px aK '2' (dJ dL ao))) ao) aU))))) (aA (aH (px aK '2' (dJ dL ao)))) bi)
  (aA (aH pQ)))),?_⟩
 show¬⟨(),(),jO (n:=n) (λi ys ae H'=>H'=H/\ys=(cB ds d.e i).map (λ(j:Nat)=>V.int (j:Int))/\∃z,ae=[z,!.ref B,!.int n]) (aW ()) ⟨O,O,none,O⟩ ?_ ?_⟩
 .ext i ys ae H' hi ⟨rfl,rfl,z,rfl⟩;rw[show(0:Int)+(i:Int)=(i:Int)from uY _];let QD:ds[i]?=!ds[i]:=qB ();let⟨ai,eai,nai⟩:=nd.get QD;let⟨_,_,hai,_⟩:=nai.ex;let more:cB ds d.e (i+1)=cB ds d.e i++(if ds[i].e=d.e then[i]else[]):=by
   unfold cB;rw[yV,rS]
   congr 1
   by_cases h1:ds[i].e=d.e<;>simp[QD,h1]
  show¬⟨B,_,_,_,O,O,ag hB,aX eai,ai,_,_,_,O,O,aC hai,O,_,O,_,O,B,_,_,_,O,O,ag hB,aX ea,a,_,_,_,O,O,aC ha,O,O,_,O,?_⟩
  by_cases he:ds[i].e=d.e
  .show eS (xH V.int he) ⟨_,O,O,?_,_,O⟩;rw[more,qX he,qD];rfl
  .rw[qV λz=>he (V.int.inj z)];show bj ⟨O,?_,_,O⟩;rw[more,qY he,rZ]
 .rintro ys ae H' ⟨rfl,rfl,_⟩ L hL;let s1:=ay hL (.lst ((cB ds d.e n).map (λ(j:Nat)=>V.int (j:Int))));let bo:af H' L (.lst ((cB ds d.e n).map (λ(j:Nat)=>V.int (j:Int)))) L=!.lst ((cB ds d.e n).map (λ(j:Nat)=>V.int (j:Int))):=ar;generalize af H' L (.lst ((cB ds d.e n).map (λ(j:Nat)=>V.int (j:Int))))=H1 at s1 bo⊢;show¬⟨B,_,_,_,O,O,ag (s1 _ _ hB),aX ea,a,_,_,_,O,O,aC (s1 _ _ ha),O,O,_,O,?_⟩
  by_cases hk:d.k=.text
  .refine hV (bH d.k .text) hk ?_;let eb:=QC ed hk;show-⟨aT,λZ hZ=>?_⟩;let s2:=ay hZ (.lst []);let kg:=s1.trans s2;let eI:=s2 _ _ bo;show⟨L,Z,_,O,O,eI,ar,_,O,?_⟩;generalize af H1 Z (.lst [])=H2 at s2 kg eI⊢;let q2:=q H2 kg;rw[eb]at q2;rcases List.eq_nil_or_concat (cB ds d.e n)with z | ⟨ys,b,z⟩
   .rw[z]at q2⊢;show bj (bj q2)
   .rw[List.concat_eq_append]at z;let Il:b∈cB ds d.e n:=by rw[z];simp
    let hb:b<ds⁻¹:=uH (yz Il) hn;obtain⟨db,zh⟩:∃d,ds[b]?=!d:=⟨_,qB hb⟩;let⟨c,ec,nc⟩:=nd.get zh;let⟨_,_,hc,_⟩:=nc.ex;let zo:bO ((cB ds d.e n).map (λ(j:Nat)=>V.int (j:Int))) (-1)=!.int (b:Int):=by
     rw[z,qD];show L2.atI_last _ _
    let ne:((Bool.not (((cB ds d.e n).map (λ(j:Nat)=>V.int (j:Int))).isEmpty)))=true:=by rw[z];simp
    rw[qX O,ne];show bK ⟨_,O,_,O,_,O,L,_,_,_,O,O,ag eI,zo,B,_,_,_,O,O,ag (kg _ _ hB),aX ec,c,_,_,_,O,O,aC (kg _ _ hc),O,O,_,O,?_⟩;rw[show decide (V.str db.k.s=V.str (s!"aside"))=decide (db.k=.aside)from bH db.k .aside];let eA:cE ds b=decide (db.k=.aside):=by
     unfold cE;rw[zh]
     by_cases y:db.k=.aside<;>simp[y]
    rw[z,List.getLast?_append]at q2
    by_cases hA:db.k=.aside
    .show eS hA ?_;let e3:(([b].getLast?.or ys.getLast?).filter (cE ds))=!b:=by simp[Option.filter,eA,hA]
     rw[e3]at q2;show¬⟨L,_,_,_,O,O,ag eI,zo,q2⟩
    .show dM hA ?_;let e3:(([b].getLast?.or ys.getLast?).filter (cE ds))=none:=by simp[Option.filter,eA,hA]
     rw[e3]at q2;show q2
  .show h8 (bH d.k .text) hk ?_;let q2:=q H1 s1;rw[QB ed hk]at q2;show(bj q2)
end K33
namespace K33
open L2 Bk Gen Gd Bd Shr Sp0 Ins
abbrev QE:=top 106
abbrev QF:=top 107
def qcX:iV (s!"above") 2:=⟨by ac_rfl,by ac_rfl⟩
def qcY(F:Fu K "tops_in_grid" QE f fd)(T:bY mg)(tS:∃t,mg "SIZE_HIGH" = !.int 0 t)(tR:∃t,mg "ROW" = !.int 0 t)(HI:⋯ 2 "cells_of" ["looks", "held"] Cg)(HE:⋯ 3 "grid_places" ["columns", "cells"] BC)(qcZ:⋯ 2 "grid_highs" ["places", "highs"] HL):(~~~0) 4 f fd ["looks", "sizes", "columns", "held"] HM:=by
 rcases F.go ["looks", "sizes", "columns", "held", "places", "highs"] with⟨p,S,k,cols,ks,ls,sz,rfl,lk,lS,hk,Im,kin,cQ,sr,c1,c6,q⟩;let⟨_,lX⟩:=tS;let⟨_,nj⟩:=tR;show⟨_,(ax (sv 4 (cF HE hr (a2 '2' (cF HI hr (a2 '0' '3')))))
  (ax (sv 5 (cF qcZ hr (a2 '4' (cm ["one"] ["sizes"] [1] (bc '3') (nv 0) br (px (r:=bZ K) aF (px (r:=du K) aK '1' '0') (gi lX))))))
  (aA (aH (cm ["one", "place"] ["highs"] [5] (FC (by rfl) T.zip (a2 '3' '4')) (mH K (n:=2) (by rfl) (by rfl) (bF (nv 0) (bF (nv 1) dZ))) br (bR (a2 '0' (cb (r:=xb K) (GP K (by rfl) (by rfl)) T.sum fJ (a1 (jL (r:=pY K) (FE K (by rfl)) '2' oa (hG (px (r:=bZ K) aF '1' (gi nj))))))))))))),?_⟩
 let cl:(b8 ls ks)⁻¹=ks⁻¹:=Ci;show¬⟨_,O,p,k,ks,ls,O,lk,hk,Im,λm hm=>(kin m hm).1,cQ,λC H1 hC s1 lC=>?_⟩;show⟨C,cols,b8 ls ks,O,lC,sr,(),c1,c6,λM H2 ps hM s2 lM pd jY=>?_⟩;let ep:=pd.eq;let lp:=pd.len;let be:=s1.trans s2;dsimp only[aY];let⟨as,hS,pr⟩:=Qa be lS;let gC:KL H2 k ks:=be _ _ hk;show¬⟨k,O,⟨_,ag gC⟩,bB (xs:=⇑(ks.map λ(j:Nat)=>(j:Int))) (λi ys ae H'=>H'=H2/\(∃z,ae=[z,!.ref S])/\ys=⇑((ks.map (aI sz)).take i)) (by rw[qA,qA];show aW ()) ⟨O,⟨none,O⟩,O⟩ ?_ ?_ ?_⟩
 .ext i ys ae H' hi ⟨rfl,_,rfl⟩;show ag gC
 .ext i y ys ae H' hy ⟨rfl,⟨z,rfl⟩,rfl⟩;let⟨m,em,rfl⟩:=fN hy;let⟨a,_,_,_,ea,ha⟩:=sF pr (kin m (qN em)).2;show¬⟨S,_,_,_,O,O,ag hS,aX ea,a,_,_,_,O,O,aC ha,O,O,⟨_,O⟩,?_⟩;let ec:(ks.map (aI sz))[i]?=!aI sz m:=by rw[qH,em];rfl
  rw[qO,ec,qD];rfl
 ext ys ae H' ⟨rfl,_,rfl⟩ D hD;rw[qI (by rw[qA,qA,qA];show qG _)];let s3:=ay hD (.lst ⇑(ks.map (aI sz)));let dD:af H' D (.lst ⇑(ks.map (aI sz))) D=!.lst ⇑(ks.map (aI sz)):=ar;generalize af H' D (.lst ⇑(ks.map (aI sz)))=H3 at s3 dD⊢;let hs:=jY.hs (hs:=ks.map (aI sz)) () (by rw[qA];omega);show⟨M,D,ps,_,O,gH (λ_ _ z=>s3 _ _ z) s3 lM,dD,hs,λN H4 hN s4 fE=>?_⟩;let fI:=s3.trans s4;let iB:=be.trans fI;dsimp only[aY];let⟨bs,QG,fQ⟩:=gH (F:=PlAt) (λ_ _ z=>fI _ _ z) fI lM;let lb:bs⁻¹=ks⁻¹:=by have:=qU fQ;omega
 let QH:KL H4 k ks:=iB _ _ hk;rw[ep]at fQ fE lp;let gl:(gQ ls (aI sz) cols ks)⁻¹=ks⁻¹:=by unfold gQ;rw[qA,List.length_zip];omega
 show¬⟨k,M,O,⟨_,ag QH⟩,⟨_,ag QG⟩,FF (xs:=⇑(ks.map λ(j:Nat)=>(j:Int))) (ys:=↑bs) (by rw[qA,qA,qA];omega) (λi ys ae H'=>Same H4 H'/\(∃z0 z1,ae=[z0,z1,!.ref N])/\∃ts,ys=↑ts/\Paired (Br.PnAt H') ts ((gQ ls (aI sz) cols ks).take i)) (by rw[qA,qA];show aW ()) ⟨Same.refl _,⟨none,none,O⟩,[],O,.nil⟩ ?_ ?_ ?_⟩
 .ext i ys ae H' hi ⟨s5,_,ts,rfl,pt⟩;show⟨ag (s5 _ _ QH),ag (s5 _ _ QG)⟩
 .ext i x y ys ae H' T' hx hy hT ⟨s5,⟨z0,z1,rfl⟩,ts,rfl,pt⟩;let⟨m,em,rfl⟩:=fN hx;let⟨b,eb,rfl⟩:=cJ hy;let⟨pl,epl,hb⟩:=bW fQ eb;let sT:=ay hT (.tup [.int (m:Int),.ref b]);let s6:=s5.trans sT;let QI:Paired (Br.PnAt (af H' T' (.tup [.int (m:Int),.ref b]))) ts ((gQ ls (aI sz) cols ks).take i):=pt.mono λ_ _ z=>sT _ _ z
  show⟨T',_,O,aC ar,O,_,_,O,_,_,O,O,?_⟩;generalize af H' T' (.tup [.int (m:Int),.ref b])=H6 at s6 QI⊢;show¬⟨_,O,b,_,_,_,O,O,aC (s6 _ _ hb),O,(pl.r:Int),O,N,_,O,ag (s6 _ _ fE),λZ hZ=>?_⟩;rw[GO];let s7:=ay hZ (.lst ⇑((bM ((dY cols (b8 ls ks)).zip (ks.map (aI sz))) (many (dY cols (b8 ls ks)))).take pl.r));show⟨Z,_,O,ag ar,aT,λt ht=>?_⟩;let s8:=s7.trans (ay ht (.tup [.int (m:Int),.int ((bM ((dY cols (b8 ls ks)).zip (ks.map (aI sz))) (many (dY cols (b8 ls ks)))).take pl.r).sum]));show⟨s6.trans s8,⟨_,_,O⟩,ts++[t],by rw[qD];rfl,?_⟩;let ec:(gQ ls (aI sz) cols ks)[i]?=!(m,((bM ((dY cols (b8 ls ks)).zip (ks.map (aI sz))) (many (dY cols (b8 ls ks)))).take pl.r).sum):=by
   unfold gQ;have:(ks.zip (dY cols (b8 ls ks)))[i]?=!(m,pl):=List.getElem?_zip_eq_some.mpr ⟨em,epl⟩;rw[qH,this];rfl
  rw[qO,ec];show(QI.mono λ_ _ z=>s8 _ _ z).snoc ar
 .ext ys ae H' ⟨s5,_,ts,rfl,pt⟩ D hD;rw[qI (by rw[gl,qA,qA];show qG _)]at pt;let jw:=iB.trans s5;show q D _ (jw.free hD) (jw.trans (ay hD _)) ⟨ts,ar,pt.mono λ_ _ z=>ay hD _ _ _ z⟩
end K33
namespace K33
open L2 Bk Gd Bd Shr Sp0 Ins
open Gen
def qc0(F:Fu K "tops_in_pile" QF f fd)(T:bY mg)(tS:∃t,mg "SIZE_HIGH" = !.int 0 t)(tK:∃t,mg "KIND" = !.int 1 t)(cA:⋯ 1 "look_at" ["looks", "node", "word"] fL)(Io:⋯ 2 "aside_ahead" ["book", "node"] o8):(~~~0) 3 f fd ["book", "looks", "sizes", "held"] HN:=by
 rcases F.go ["book", "looks", "sizes", "held", "tops", "bottom", "one", "above", "top", "aside", "beside"] with⟨B,p,S,k,ks,ds,ls,sz,rfl,I,cx,hk,Im,kin,q⟩;let⟨_,lX⟩:=tS;let⟨_,dW⟩:=tK;show⟨_,(ax (sv 4 (bf bX))
  (ax (sv 5 ao)
  (ax (fv (bc (cm ["other"] ["book"] [0] (bc '3') (nv 0) (h9 (tc jc (px (r:=bZ K) aF (px (r:=du K) aK '1' '0') (gi dW)) aU)) '0')) (nv 6)
  (ax (sv 7 (jI (tc gZ (ln T.len '4') ao) (cF cA hr (a3 '1' '6' aU)) ao))
  (ax (sv 8 (aG a9 '5' '7'))
  (ax (sv 9 (cF Io hr (a2 '0' '6')))
  (ax (sv 10 (jI (kD (tJ '9')) (bf (a1 '6')) (bf (a2 '9' '6'))))
  (ax (cI (jM yM vW vY Lc '4' (a1 (cm ["each"] ["top"] [8] (bc ':') (nv 0) br (bR (a2 '0' '1'))))))
  (aA (sv 5 (aG a9 '8' (cb (oK (by rfl)) T.max dU (a1 (cm ["each"] ["sizes"] [2] (bc ':') (nv 0) br (px (r:=bZ K) aF (px (r:=du K) aK '1' '0') (gi lX))))))))))))))
  (aA (aH '4'))))),?_⟩
 show⟨aT,λL hL=>?_⟩;let s1:=ay hL (.lst []);let bo:af H L (.lst []) L=!.lst ↑([]:TQ):=ar;generalize af H L (.lst [])=H1 at s1 bo⊢;let⟨ab,hB,nd⟩:=(I.same s1).bk;let e7:KL H1 k ks:=s1 _ _ hk;show-⟨k,O,⟨_,ag e7⟩,bB (xs:=⇑(ks.map λ(j:Nat)=>(j:Int))) (λi ys ae H'=>H'=H1/\(∃z,ae=[z,!.ref B])/\ys=⇑(((ks.take i).filter λm=>(Bool.not (cE ds m))).map λ(j:Nat)=>(j:Int))) (by rw[qA,qA];show aW ()) ⟨O,⟨none,O⟩,O⟩ ?_ ?_ ?_⟩
 .ext i ys ae H' hi ⟨rfl,_,rfl⟩;show ag e7
 .ext i y ys ae H' hy ⟨rfl,⟨z,rfl⟩,rfl⟩;let⟨m,em,rfl⟩:=fN hy;let hm:=kin m (qN em);obtain⟨d,ed⟩:∃d,ds[m]?=!d:=⟨_,qB hm⟩;let⟨a,ea,na⟩:=nd.get ed;let⟨_,_,ha,_⟩:=na.ex;let et:ks.take (i+1)=ks.take i++[m]:=by rw[qO,em];rfl
  let eA:cE ds m=decide (d.k=.aside):=by
   unfold cE;rw[ed]
   by_cases y:d.k=.aside<;>simp[y]
  show¬⟨B,_,_,_,O,O,ag hB,aX ea,a,_,_,_,O,O,aC ha,O,O,_,O,?_⟩;rw[show decide (V.str d.k.s=V.str (s!"aside"))=decide (d.k=.aside)from bH d.k .aside]
  by_cases hA:d.k=.aside
  .rw[qR hA];show bj ⟨O,⟨_,O⟩,?_⟩;rw[et,rS];simp[eA,hA]
  .rw[qV hA];show bK ⟨_,O,O,⟨_,O⟩,?_⟩;rw[et,rS];simp[eA,hA]
 ext ys ae H' ⟨rfl,_,rfl⟩ D hD;rw[qI (by rw[qA,qA];show qG _)];let QJ:∀m∈ks.filter λm=>(Bool.not (cE ds m)),m<ds⁻¹:=λm hm=>kin m (rY.mp hm).1
 let qc1:(ks.filter λm=>(Bool.not (cE ds m)))⁻¹<=100:=rK (yG _ _) Im;let QK:gU ds ls (aI sz) ks=(ks.filter λm=>(Bool.not (cE ds m))).foldl (dI ds ls (aI sz)) ([],0):=rfl;generalize (ks.filter λm=>(Bool.not (cE ds m)))=fl at QJ qc1 QK⊢;let s2:=ay hD (.lst ⇑(fl.map λ(j:Nat)=>(j:Int)));let dD:KL (af H' D (.lst ⇑(fl.map λ(j:Nat)=>(j:Int)))) D fl:=ar;let DL:D≠L:=λz=>by rw[z,bo]at hD;cases hD
 let eI:=s2 _ _ bo;let be:=s1.trans s2;generalize af H' D (.lst ⇑(fl.map λ(j:Nat)=>(j:Int)))=H2 at s2 dD eI be⊢;let sm:∀{G:Hp},Keep1 L H2 G->Same H G:=λk1 b o e=>k1 _ _ (λz=>by rw[z,hL]at e;cases e) (be _ _ e)
 show⟨D,O,⟨_,ag dD⟩,iK (xs:=⇑(fl.map λ(j:Nat)=>(j:Int))) (λi σ G=>Keep1 L H2 G/\(∃z6 z7 z8 z9 c7,σ=[!.ref B,!.ref p,!.ref S,!.ref k,!.ref L,!.int ((fl.take i).foldl (dI ds ls (aI sz)) ([],0)).2,z6,z7,z8,z9,c7])/\LstAt Br.PnAt G L ((fl.take i).foldl (dI ds ls (aI sz)) ([],0)).1) ⟨KeepN.refl,⟨none,none,none,none,none,O⟩,[],eI,.nil⟩ ?_ ?_ ?_⟩
 .ext i σ G hi ⟨k1,_⟩;show ag (k1 _ _ DL dD)
 .rintro i y σ G hy ⟨k1,⟨z6,z7,z8,z9,c7,rfl⟩,as,lZ,jx⟩;let⟨m,em,rfl⟩:=fN hy;let hm:=QJ m (qN em);let hi:i<fl⁻¹:=(qE.mp em).1;let et:(fl.take (i+1)).foldl (dI ds ls (aI sz)) ([],0)=dI ds ls (aI sz) ((fl.take i).foldl (dI ds ls (aI sz)) ([],0)) m:=by
   rw[qO,em];show(fl.take i++[m]).foldl _ _=_;rw[List.foldl_append];rfl
  rw[et,zc];let al:=Qb (ds:=ds) (ls:=ls) (hs:=aI sz) (ks:=fl.take i) (acc:=([],0));rw[yC]at al;generalize (fl.take i).foldl (dI ds ls (aI sz)) ([],0)=acc at jx al⊢;let IG:=I.same (sm k1);let zr:=qU jx;let al:acc.1⁻¹<=200:=by simp at al;omega
  dsimp only[aY];show seq_post (λae G'=>G'=G/\ae=[!.ref B,!.ref p,!.ref S,!.ref k,!.ref L,!.int acc.2,!.int m,!.int (if acc.1=[]then 0 else aB ls m 2),z8,z9,c7]) (λD' kk=>?_) ?_
  .show-⟨L,_,O,.inl (ag lZ),_,_,O,O,_,O,?_⟩
   by_cases h0:acc.1=[]
   .let e0:as=[]:=rR (by rw[zr,h0];rfl);rw[qV (show¬(((↑as)⁻¹:Nat):Int)>0 by rw[e0];simp)];show bj (kk _ _ ⟨O,by rw[qX h0];rfl⟩)
   .let e0:0<as⁻¹:=by rw[zr];show List.length_pos_iff.mpr h0
    rw[qR (show(((↑as)⁻¹:Nat):Int)>0 by rw[qA];omega)];show bK ⟨_,O,_,O,p,m,2,_,ls,O,IG.lk,by rw[cx.ll];show hm,cx.l13,{},qcX,kk _ _ ⟨O,by rw[qY h0];rfl⟩⟩
  ext ae G' ⟨rfl,rfl⟩;show¬⟨_,_,O,O,?_⟩;show aY 8 (V.int (iC ls acc m)) _ _ _;generalize iC ls acc m=tp;show¬⟨B,m,ds,O,IG.bk,cx.bk,cx.le,hm,λG1 s3=>?_⟩;let yt:=s3 _ _ lZ;let k2:Keep1 L H2 G1:=k1.trans s3.keep;let pr1:Paired (Br.PnAt G1) as acc.1:=jx.mono λ_ _ z=>s3 _ _ z
  dsimp only[aY];show seq_post (λae G'=>∃Z,ae=[!.ref B,!.ref p,!.ref S,!.ref k,!.ref L,!.int acc.2,!.int m,!.int (if acc.1=[]then 0 else aB ls m 2),!.int tp,!CS (bN ds m),!.ref Z]/\Same G1 G'/\G1 Z=none/\KL G' Z (bz ds m)) (λD' kk=>?_) ?_
  .unfold bz at kk;cases hb:bN ds m with
   | none =>
     rw[hb]at kk
     show¬⟨bK ⟨_,O,aT,λZ hZ=>kk _ _ ⟨Z,O,ay hZ _,hZ,ar⟩⟩⟩
   | some a =>
     rw[hb]at kk
     show¬⟨bj ⟨_,O,_,O,aT,λZ hZ=>kk _ _ ⟨Z,O,ay hZ _,hZ,ar⟩⟩⟩
  ext ae G2 ⟨Z,rfl,s4,QL,hZ⟩;let bl:=qce (ds:=ds) (m:=m);let blt:∀x∈bz ds m,x<sz⁻¹:=λx hx=>by have:=qcf hx;rw[cx.zl];omega
  generalize bz ds m=zs at hZ bl blt⊢;let QM:=s4 _ _ yt;let k3:Keep1 L H2 G2:=k2.trans s4.keep;let qy:Paired (Br.PnAt G2) as acc.1:=pr1.mono λ_ _ z=>s4 _ _ z
  let ZL:Z≠L:=λz=>by rw[z,yt]at QL;cases QL
  show-⟨.inl ⟨O,_,ag QM⟩,_,O,Z,O,⟨_,ag hZ⟩,bB (xs:=⇑(zs.map λ(j:Nat)=>(j:Int))) (λi ys ae G'=>Same G2 G'/\(∃z,ae=[z,!.int tp])/\∃ts,ys=↑ts/\Paired (Br.PnAt G') ts ((zs.map λe=>(e,tp)).take i)) (by rw[qA,qA];show aW ()) ⟨Same.refl _,⟨none,O⟩,[],O,.nil⟩ ?_ ?_ ?_⟩
  .ext i ys ae G' hi ⟨s5,_,ts,rfl,pt⟩;show ag (s5 _ _ hZ)
  .ext i y ys ae G' hy ⟨s5,⟨z,rfl⟩,ts,rfl,pt⟩;let⟨x,ex,rfl⟩:=fN hy;show¬⟨aT,λt ht=>?_⟩;let s6:=ay ht (.tup [.int (x:Int),.int tp]);show⟨s5.trans s6,⟨_,O⟩,ts++[t],by rw[qD];rfl,?_⟩;let ec:(zs.map λe=>(e,tp))[i]?=!(x,tp):=by rw[qH,ex];rfl
   rw[qO,ec];show(pt.mono λ_ _ z=>s6 _ _ z).snoc ar
  ext ys ae G3 ⟨s5,_,ts,rfl,pt⟩ C hC;rw[qI (by rw[qA,qA,qA];show qG _)]at pt;let s6:=s5.trans (ay hC (.lst ↑ts));let zg:af G3 C (.lst ↑ts) C=!.lst ↑ts:=ar;let QN:Paired (Br.PnAt (af G3 C (.lst ↑ts))) ts (zs.map λe=>(e,tp)):=pt.mono λ_ _ z=>ay hC _ _ _ z
  generalize af G3 C (.lst ↑ts)=G4 at s6 zg QN⊢;let cS:=s6 _ _ QM;let lt:=qU pt;rw[qA]at lt;show⟨L,C,_,_,O,O,cS,zg,xD (aW (by rw[qA,qA];omega)),?_⟩;let tl:=Tups.lst (o:=.lst (↑as++↑ts)) cS;let k5:Keep1 L H2 (af G4 L (.lst (↑as++↑ts))):=λb o n e=>by
   rw[aM n];show(k3.trans s6.keep) b o n e
  let iE:af G4 L (.lst (↑as++↑ts)) L=!.lst ↑(as++ts):=by rw[ar,qD]
  let Ip:KL (af G4 L (.lst (↑as++↑ts))) Z zs:=by
   show af G4 L _ Z=_;rw[aM ZL];show s6 _ _ hZ
  let CT:Paired (Br.PnAt (af G4 L (.lst (↑as++↑ts)))) (as++ts) (acc.1++zs.map λe=>(e,tp)):=vq (qy.mono λ_ _ z=>tl _ _ (s6 _ _ z)) (QN.mono λ_ _ z=>tl _ _ z);generalize af G4 L (.lst (↑as++↑ts))=G5 at k5 iE Ip CT⊢;let⟨bs,hS5,fi⟩:=(I.same (sm k5)).sz;show¬⟨Z,O,⟨_,ag Ip⟩,bB (xs:=⇑(zs.map λ(j:Nat)=>(j:Int))) (λi ys ae G'=>G'=G5/\(∃z,ae=[z,!.ref S])/\ys=⇑((zs.map (aI sz)).take i)) (by rw[qA,qA];show aW ()) ⟨O,⟨none,O⟩,O⟩ ?_ ?_ ?_⟩
  .ext i ys ae G' hi ⟨rfl,_,rfl⟩;show ag Ip
  .ext i y ys ae G' hy ⟨rfl,⟨z,rfl⟩,rfl⟩;let⟨x,ex,rfl⟩:=fN hy;let⟨a,_,_,_,ea,ha⟩:=sF fi (blt x (qN ex));show¬⟨S,_,_,_,O,O,ag hS5,aX ea,a,_,_,_,O,O,aC ha,O,O,⟨_,O⟩,?_⟩;let ec:(zs.map (aI sz))[i]?=!aI sz x:=by rw[qH,ex];rfl
   rw[qO,ec,qD];rfl
  ext ys ae G' ⟨rfl,_,rfl⟩ M hM;rw[qI (by rw[qA,qA,qA];show qG _)];let s7:=ay hM (.lst ⇑(zs.map (aI sz)));let ne:zs.map (aI sz)≠[]:=λz=>bl.2 (uT.mp z)
  show⟨M,_,_,O,ag ar,jT ne,jU,_,_,O,O,?_⟩;show⟨k5.trans s7.keep,⟨_,_,_,_,_,O⟩,as++ts,s7 _ _ iE,CT.mono λ_ _ z=>s7 _ _ z⟩
 .ext σ G ⟨k1,⟨z6,z7,z8,z9,c7,rfl⟩,lG⟩;rw[qI (by rw[qA,qA];show qG _),<-QK]at lG;show-⟨q L G hL (sm k1) lG⟩
end K33
namespace Ins
open L2 Bk Gen Gd Bd Shr Sp0
section
variable{ds:List Nd}{ls:TB}{hs:Nat->Int}{n:Nat}{d:Nd}
def CU(h:ds[n]?=!d)(hk:d.k=.text\/d.k=.head\/d.k=.note):bJ ds ls hs n=[]:=by
 unfold bJ;rw[h];show(match !d.k with | some .text | some .head | some .note=>_ | some .shelf=>_ | some .grid=>_ | _=>_)=_;rcases hk with e | e | e<;>rw[e]
def Iq(h:ds[n]?=!d)(hk:d.k=.shelf):bJ ds ls hs n=(aw ds n).map λm=>(m,0):=by
 unfold bJ;rw[h];show(match !d.k with | some .text | some .head | some .note=>_ | some .shelf=>_ | some .grid=>_ | _=>_)=_;rw[hk]
def CV(h:ds[n]?=!d)(hk:d.k=.grid):bJ ds ls hs n=gQ ls hs (aB ls n 7).toNat (aw ds n):=by
 unfold bJ;rw[h];show(match !d.k with | some .text | some .head | some .note=>_ | some .shelf=>_ | some .grid=>_ | _=>_)=_;rw[hk]
def CW(h:ds[n]?=!d)(h1:¬(d.k=.text\/d.k=.head\/d.k=.note))(h2:d.k≠.shelf)(h3:d.k≠.grid):bJ ds ls hs n=(gU ds ls hs (aw ds n)).1:=by
 unfold bJ;rw[h];show(match !d.k with | some .text | some .head | some .note=>_ | some .shelf=>_ | some .grid=>_ | _=>_)=_;cases e:d.k with
 | text=>show qT (.inl e) h1
 | head=>show qT (.inr (.inl e)) h1
 | note=>show qT (.inr (.inr e)) h1
 | shelf=>show qT e h2
 | grid=>show qT e h3
 | _=>rfl
end
end Ins
namespace K33
open L2 Bk Gd Bd Shr Sp0 Ins
open Gen
abbrev QO:=top 105
abbrev QP:=top 104
def qc2(F:Fu K "held_tops" QO f fd)(tK:∃t,mg "KIND" = !.int 1 t)(lH:mg "KINDS_OF_PIECES" = !.ref gJ)(KP:∀H:Hp,SqT K H gJ (pieceKinds.map V.str))(jr:⋯ 1 "holds" ["book", "node"] mR)(cA:⋯ 1 "look_at" ["looks", "node", "word"] fL)(qc3:⋯ 4 "tops_in_grid" ["looks", "sizes", "columns", "held"] HM)(qc4:⋯ 3 "tops_in_pile" ["book", "looks", "sizes", "held"] HN):(~~~0) 5 f fd ["book", "looks", "sizes", "node"] CH:=by
 rcases F.go ["book", "looks", "sizes", "node", "kind", "held"] with⟨B,p,S,n,ds,ls,sz,rfl,I,cx,hn,q⟩;let⟨_,dW⟩:=tK;let⟨ab,hB,nd⟩:=I.bk;obtain⟨d,ed⟩:∃d,ds[n]?=!d:=⟨_,qB hn⟩;let⟨c,ec,nc⟩:=nd.get ed;let⟨m',s',hc,_⟩:=nc.ex;let le:=cx.le;show⟨_,(ax (sv 4 (px aF (px aK '0' '3') (gi dW)))
  (ax (ba (tc DX '4' (gr lH)) (aA (aH (bf bX))) bi)
  (ax (sv 5 (cF jr hr (a2 '0' '3')))
  (ax (ba (tc bv '4' aU) (aA (aH (cm ["one"] [] [] (bc '5') (nv 0) br (bR (a2 '0' ao))))) bi)
  (ax (ba (tc bv '4' aU) (aA (aH (cF qc3 hr (aO '1' (a3 '2' (cF cA hr (a3 '1' '3' aU)) '5'))))) bi)
  (aA (aH (cF qc4 hr (aO '0' (a3 '1' '2' '5')))))))))),?_⟩
 show¬⟨B,_,_,_,O,O,ag hB,aX ec,c,_,_,_,O,O,aC hc,O,?_⟩;dsimp only[aY];show-⟨gJ,_,O,.inr (KP _),O,vw _,_,O,?_⟩;rw[qY rA,xn]
 by_cases gP:d.k=.text\/d.k=.head\/d.k=.note
 .show eS gP ?_;rw[CU ed gP]at q;show⟨aT,λt ht=>q t _ ht (ay ht _) ⟨[],ar,.nil⟩⟩
 show dM gP ⟨_,O,_,O,B,n,ds,_,O,⟨ab,hB,nd⟩,(),hn,λK0 H1 hK s1 di=>?_⟩;let kl:=mO ds n;let I1:=I.same s1;dsimp only[aY];show-⟨O,_,O,?_⟩
 by_cases hs:d.k=.shelf
 .show hV (bH d.k .shelf) hs ?_;rw[Iq ed hs]at q;show-⟨K0,O,⟨_,ag di⟩,bB (xs:=⇑((aw ds n).map λ(j:Nat)=>(j:Int))) (λi ys ae G'=>Same H1 G'/\(∃z,ae=[z])/\∃ts,ys=↑ts/\Paired (Br.PnAt G') ts (((aw ds n).map λm=>(m,0)).take i)) (by rw[qA,qA];show aW ()) ⟨Same.refl _,⟨none,O⟩,[],O,.nil⟩ ?_ ?_ ?_⟩
  .ext i ys ae G' hi ⟨s5,_,ts,rfl,pt⟩;show ag (s5 _ _ di)
  .ext i y ys ae G' hy ⟨s5,⟨z,rfl⟩,ts,rfl,pt⟩;let⟨x,ex,rfl⟩:=fN hy;show-⟨aT,λt ht=>?_⟩;let s6:=ay ht (.tup [.int (x:Int),.int 0]);show⟨s5.trans s6,⟨_,O⟩,ts++[t],by rw[qD];rfl,?_⟩;let e2:((aw ds n).map λm=>(m,(0:Int)))[i]?=!(x,0):=by rw[qH,ex];rfl
   rw[qO,e2];show(pt.mono λ_ _ z=>s6 _ _ z).snoc ar
  .ext ys ae G3 ⟨s5,_,ts,rfl,pt⟩ C hC;rw[qI (by rw[qA,qA,qA];show qG _)]at pt;let jw:=s1.trans s5;show q C _ (jw.free hC) (jw.trans (ay hC _)) ⟨ts,ar,pt.mono λ_ _ z=>ay hC _ _ _ z⟩
 show h8 (bH d.k .shelf) hs ⟨_,O,O,_,O,?_⟩
 by_cases hg:d.k=.grid
 .show hV (bH d.k .grid) hg ?_;rw[CV ed hg]at q;let⟨l,_,cQ,lv⟩:=cx.look hn;let cb:=cQ.cols;rw[<-lv]at cb;obtain⟨cn,QQ⟩:∃cn:Nat,aB ls n 7=(cn:Int):=⟨(aB ls n 7).toNat,()⟩;rw[QQ,uD]at q;show¬⟨_,O,_,O,p,n,7,_,ls,O,I1.lk,by rw[cx.ll];show hn,cx.l13,{},GZ,?_⟩;rw[QQ];show-⟨p,S,K0,cn,_,ls,sz,O,I1.lk,I1.sz,di,(),λm hm=>⟨by rw[cx.ll];show cO hm,by rw[cx.zl];show cO hm⟩,cx.lk,cx.cells n,(),(),λt H2 ht s2 lt=>q t H2 (s1.free ht) (s1.trans s2) lt⟩
 show h8 (bH d.k .grid) hg ?_;rw[CW ed gP hs hg]at q;show¬⟨_,O,_,O,B,p,S,K0,_,ds,ls,sz,O,I1,cx,di,(),λm hm=>cO hm,λt H2 ht s2 lt=>q t H2 (s1.free ht) (s1.trans s2) lt⟩
def qc5(F:Fu K "high_of_held" QP f fd)(T:bY mg)(tS:∃t,mg "SIZE_HIGH" = !.int 0 t)(Ir:⋯ 5 "held_tops" ["book", "looks", "sizes", "node"] CH):(~~~0) 6 f fd ["book", "looks", "sizes", "node"] HP:=by
 rcases F.go ["book", "looks", "sizes", "node"] with⟨B,p,S,n,ds,ls,sz,rfl,I,cx,hn,q⟩;let⟨_,lX⟩:=tS;show⟨_,(aA (aH (ym true (by rfl) (by rfl) T.max dU (a1 (cm ["one", "top"] ["sizes"] [2] (bc (cF Ir hr (aO '0' (a3 '1' '2' '3')))) (mH K (n:=2) (by rfl) (by rfl) (bF (nv 0) (bF (nv 1) dZ))) br (aG a9 '1' (px (r:=bZ K) aF (px (r:=du K) aK '2' '0') (gi lX))))) ao))),_,O,_,O,_,O,_,O,B,p,S,n,ds,ls,sz,O,I,cx,hn,λL H1 hL s1 lL=>?_⟩;let zt:=sB (ds:=ds) (ls:=ls) (hs:=aI sz) (n:=n);let zu:=zt.length_le;rw[qA]at zu;let kl:=mO ds n;let le:=cx.le;let QR:∀x∈bJ ds ls (aI sz) n,x.1<sz⁻¹:=λx hx=>by rw[cx.zl];show cO (zt.subset (yQ hx))
 generalize bJ ds ls (aI sz) n=xs at q lL zu QR;let⟨as,bo,pr⟩:=lL;let⟨bs,hS,fi⟩:=(I.same s1).sz;let la:=qU pr;show⟨L,O,⟨_,ag bo⟩,bB (xs:=↑as) (λi ys ae G'=>G'=H1/\(∃z0 z1,ae=[z0,z1,!.ref S])/\ys=⇑((xs.map λx=>x.2+aI sz x.1).take i)) (by rw[qA];show aW ()) ⟨O,⟨none,none,O⟩,O⟩ ?_ ?_ ?_⟩
 .ext i ys ae G' hi ⟨rfl,_,rfl⟩;show ag bo
 .ext i y ys ae G' hy ⟨rfl,⟨z0,z1,rfl⟩,rfl⟩;let⟨a,ea,rfl⟩:=cJ hy;let⟨x,ex,ha⟩:=bW pr ea;let⟨b,_,_,_,eb,hb⟩:=sF fi (QR x (qN ex));show⟨a,_,O,aC ha,O,_,_,O,_,_,O,O,_,O,_,O,_,O,S,_,_,_,O,O,ag hS,aX eb,b,_,_,_,O,O,aC hb,O,_,_,O,O,O,⟨_,_,O⟩,?_⟩;let e2:(xs.map λx=>x.2+aI sz x.1)[i]?=!x.2+aI sz x.1:=by rw[qH,ex];rfl
  rw[qO,e2,qD];rfl
 .ext ys ae G3 ⟨rfl,_,rfl⟩ D hD;rw[qI (by rw[qA,qA,la];show qG _)];let s2:=ay hD (.lst ⇑(xs.map λx=>x.2+aI sz x.1));show⟨D,_,.int (bC (xs.map λx=>x.2+aI sz x.1)),O,ag ar,λz=>by rw[z];rfl,λz=>⟨_,jT z,O,jU⟩,q _ (s1.trans s2)⟩
end K33
namespace K33
open L2 Bk Gen Gd Bd
inductive Iu:List V->Hp->VK->XK->Prop
|m (l s:Int):vs=[.int l,.int s]->1<=s->s<=1000000->Q (.int (dA l s)) H->Iu vs H Q E
def qc6(F:Fu K "rounded_up" GY f fd):(~~~0) 1 f fd ["length", "parts"] Iu:=by
 rcases F.go ["length", "parts"] with⟨l,sp,rfl,s1,s6,q⟩;show⟨_,(aA (aH (dJ dL (aG vd (dJ dL '0') '1')))),?_⟩;show¬⟨_,O,_,_,O,O,⟨(),()⟩,_,O,q⟩
end K33
namespace K33
open L2 Bk Gen Gd
open Bd
open Br
open Bw
abbrev QS:=top 60
abbrev QT:=top 59
def qc7(F:Fu K "row_width" QS f fd)(T:BnR mg)(tC:∃t,mg "COUNT" = !.int 0 t)(tB:∃t,mg "BY" = !.int 1 t):(~~~0) 1 f fd ["width", "narrow", "row"] (Ge K):=by
 rcases F.go ["width", "narrow", "row"] with⟨t,wd,row,nw,rfl,ht,q⟩;let⟨_,sO⟩:=tC;let⟨_,qc8⟩:=tB;show⟨_,(aA (aH (jI (tc jd '2' (px aF '1' (gi sO))) (cb (kH (by rfl)) T.max dU (a2 (aG c9 '0' (px aF '1' (gi qc8))) ao)) '0'))),_,O,_,O,t,_,_,_,O,O,ht,O,_,_,O,O,_,O,cz (λc=>?_) (λc=>?_)⟩
 .let c':row<nw.1:=rF c;show¬⟨t,_,_,_,O,O,ht,O,_,_,O,O,_,_,O,?_⟩;let e:(if(0:Int)>wd-nw.2 then(0:Int)else wd-nw.2)=roomR wd nw row:=by
   unfold roomR;rw[qX c']
   by_cases z:(0:Int)>wd-nw.2
   .rw[qX z];omega
   .rw[qY z];omega
  show Q (.int (if(0:Int)>wd-nw.2 then(0:Int)else wd-nw.2)) H;rw[e];show q
 .let c':¬row<nw.1:=λz=>c (qR z)
  let e:wd=roomR wd nw row:=by unfold roomR;rw[qY c']
  show-⟨?_⟩;show Q (.int wd) H;rw[e];show q
def qc9(F:Fu K "row_blemish" QT f fd)(T:BnR mg)(tL:∃t,mg "TOO_LONG" = !.int 1000000 t)(qda:⋯ 1 "row_width" ["width", "narrow", "row"] (Ge K))(Hj:⋯ 1 "row_length" ["units"] BU):(~~~0) 2 f fd ["units", "first", "last", "width", "narrow", "row"] (HS K):=by
 rcases F.go ["units", "first", "last", "width", "narrow", "row", "left"] with⟨p,t,i,j,wd,row,nw,us,rfl,⟨as,hp,pr⟩,ht,ij,jl,l1,ok,w0,w1,b0,q⟩;let⟨_,qdb⟩:=tL;let la:=qU pr;show⟨_,(ax (sv 6 (aG c9 (cF qda hr (a3 '3' '4' '5')) (cF Hj hr (a1 (jL mw '0' (hG '1') (hG '2'))))))
  (ax (ba (tc jd '6' ao) (aA (aH (jI (tc bv (aG c9 '2' '1') ao) (aG c9 (gi qdb) '6') pQ))) bi)
  (aA (aH (jI (tc bv '2' (ln T.len '0')) ao (aG qcn '6' '6')))))),?_⟩
 show¬⟨_,O,t,wd,row,nw,O,ht,_,O,_,O,_,O,_,O,_,O,p,_,O,ag hp,λS hS=>?_⟩;rw[cutV_nat (as:=as) (i:=i) (j:=j) () ()];let sS:=ay hS (.lst ↑((as.drop i).take (j-i)));let gK:af H S (.lst ↑((as.drop i).take (j-i))) S=!.lst ↑((as.drop i).take (j-i)):=ar;generalize af H S (.lst ↑((as.drop i).take (j-i)))=H1 at sS gK⊢;let cl:=cut_len (us:=us) (i:=i) jl;show⟨S,cutU us i j,O,⟨_,gK,(paired_cut pr i (j-i)).mono λ_ _=>Bw.UnAt.same sS⟩,λz=>by rw[z]at cl;simp at cl;omega,(),λH2 s2=>?_⟩;let rb:=qco (nw:=nw) row w0 w1 b0;let ln:=ZZ ok i j;let be:=sS.trans s2;let fG:=be _ _ hp;show⟨_,_,O,O,?_⟩;let q2:=q H2 be;show aY 6 (V.int (roomR wd nw row-longU us i j)) _ _ _;generalize roomR wd nw row=room at rb q2⊢;show-⟨_,_,O,O,_,O,cz (λc=>?_) (λc=>?_)⟩
 .have c':room-longU us i j<0:=rF c;show¬⟨_,_,O,O,O,_,O,cz (λd=>?_) (λd=>?_)⟩
  .let d':(j:Int)-i=1:=V.int.inj (rF d);show-⟨_,_,O,O,?_⟩;let e:dB us i j room=!1000000-(room-longU us i j):=by
    unfold dB;rw[qX c',qX ()]
   rw[e]at q2;show q2
  .let d':¬(j:Int)-i=1:=λz=>d (qR (by show V.int ((j:Int)-(i:Int))=V.int 1;rw[z]))
   let e:dB us i j room=none:=by
    unfold dB;rw[qX c',qY ()]
   rw[e]at q2;show q2
 .have c':¬room-longU us i j<0:=λz=>c (qR z)
  show¬⟨p,_,O,.inl (ag fG),O,_,O,cz (λd=>?_) (λd=>?_)⟩
  .let d':(j:Int)=((↑as)⁻¹:Nat):=V.int.inj (rF d);rw[qA]at d';let e:dB us i j room=!0:=by
    unfold dB;rw[qY c',qX ()]
   rw[e]at q2;show q2
  .let d':¬(j:Int)=((↑as)⁻¹:Nat):=λz=>d (qR (by rw[z]))
   rw[qA]at d';show¬⟨_,_,O,O,⟨(),(),(),()⟩,?_⟩;let e:dB us i j room=!(room-longU us i j)*(room-longU us i j):=by
    unfold dB;rw[qY c',qY ()]
   rw[e]at q2;show q2
abbrev QU:=top 62
abbrev QV:=top 63
abbrev QW:=top 64
abbrev QX:=top 65
def qdc(F:Fu K "sums_of_no_row" QU f fd)(T:BnR mg):(~~~0) 1 f fd ["units"] HX:=by
 rcases F.go ["units"] with⟨p,us,rfl,⟨as,hp,pr⟩,l1,q⟩;let la:=qU pr;show⟨_,(aA (aH (aG uu (bf (a1 ao)) (cm ["unit"] [] [] (bc '0') (nv 0) br pQ)))),aT,λA hA=>?_⟩;let s1:=ay hA (.lst [.int 0]);let QY:af H A (.lst [.int 0]) A=!.lst [.int 0]:=ar;generalize af H A (.lst [.int 0])=H1 at s1 QY⊢;let QZ:=s1 _ _ hp;show-⟨p,O,⟨_,ag QZ⟩,bB (xs:=↑as) (λk ys ae H'=>H'=H1/\ys=List.replicate k V.non/\∃z,ae=[z]) (by rw[qA];show aW ()) ⟨O,O,none,O⟩ ?_ ?_ ?_⟩
 .ext k ys ae H' hk ⟨rfl,rfl,_⟩;show ag QZ
 .ext k y ys ae H' hy ⟨rfl,rfl,z,rfl⟩;show⟨O,?_,_,O⟩;rw[List.replicate_succ']
 .ext ys ae H' ⟨rfl,rfl,_⟩ D hD;rw[qA,la];let s2:=ay hD (.lst (List.replicate us⁻¹ V.non));let ju:af H' D (.lst (List.replicate us⁻¹ V.non)) D=!.lst (List.replicate us⁻¹ V.non):=ar;generalize af H' D (.lst (List.replicate us⁻¹ V.non))=H2 at s2 ju⊢;show⟨A,D,_,_,O,O,s2 _ _ QY,ju,?_,λL hL=>?_⟩
  .show 1+_<=sizeLine;rw[yH];show xD (aW ())
  .show q L _ ((s1.trans s2).free hL) ((s1.trans s2).trans (ay hL _)) ?_;unfold OsAt xt;rw[ar,xP,List.map_replicate];rfl
def qdd(F:Fu K "beginnings_of" QX f fd)(T:BnR mg)(qde:⋯ 2 "row_blemish" ["units", "first", "last", "width", "narrow", "row"] (HS K)):(~~~0) 3 f fd ["units", "last", "width", "narrow", "row"] (HU K):=by
 rcases F.go ["units", "last", "width", "narrow", "row", "found", "first", "blemish"] with⟨p,t,j,wd,row,nw,us,rfl,hp,ht,jl,ok,q⟩;let le:=ok.le;show⟨_,(ax (sv 5 (bf bX))
  (ax (fv (FG (by rfl) T.range (a3 (aG c9 '1' ao) (dJ dL ao) (dJ dL ao))) (nv 6)
  (ax (sv 7 (cF qde hr (aO '0' (aO '6' (aO '1' (a3 '2' '3' '4'))))))
  (ax (ba (kD (tJ '7')) (aA U1) bi)
  (aA (cI (jM yM vV vX La '5' (MV (bR (a2 '6' '7')) bX)))))))
  (aA (aH '5')))),?_⟩
 show⟨aT,λL hL=>?_⟩;let s1:=ay hL (.lst []);let bo:af H L (.lst []) L=!.lst ↑([]:TQ):=ar;generalize af H L (.lst [])=H1 at s1 bo⊢;show-⟨_,_,O,O,_,O,_,O,_,_,O,⟨(),(),{},{}⟩,FI (λi σ H'=>Same H H'/\(∃z6 z7,σ=[!.ref p,!.int j,!.int wd,!.ref t,!.int row,!.ref L,z6,z7])/\∃done,LstAt PnAt H' L done/\done++iw us j (roomR wd nw row) (j-i)=fM us j (roomR wd nw row)) ⟨s1,⟨none,none,O⟩,[],⟨[],bo,.nil⟩,O⟩ ?_ ?_⟩
 .rintro i σ H' hi ⟨s2,⟨z6,z7,rfl⟩,done,⟨as,eI,pr⟩,ed⟩;let cC:i<j:=()
  obtain⟨k,ek⟩:∃k,j-i=k+1:=⟨j-i-1,()⟩;let ekI:(j:Int)-1-(i:Int)=((k:Nat):Int):=()
  show aY 6 (V.int ((j:Int)-1-(i:Int))) _ _ _;rw[ekI];show¬⟨_,O,_,O,_,O,_,O,p,t,k,j,wd,row,nw,us,O,Bw.RowAt.same s2 hp,sqt_same s2 ht,(),jl,le,ok.ok,ok.w0,ok.w1,ok.b0,λH3 s3=>?_⟩;rw[ek]at ed;let ln:done⁻¹<=j:=by
   have:=xH List.length ed;rw[qJ]at this;let h2:=BW us j (roomR wd nw row) j;unfold fM at this;omega
  let la:=qU pr;unfold iw at ed;cases eb:dB us k j (roomR wd nw row)with
  | none =>
    rw[eb]at ed
    show¬⟨bK ?_⟩
    show-⟨q L H3 (s2.trans s3) ?_⟩
    let i4:done=fM us j (roomR wd nw row):=by rw[<-ed];show(rZ _).symm
    rw[<-i4]
    show rh s3 ⟨as,eI,pr⟩
  | some b =>
    rw[eb]at ed
    show¬⟨bj ?_⟩
    let cr:=s3 _ _ eI
    show-⟨.inl ⟨O,_,ag cr⟩,_,O,_,O,aT,λt' yu=>?_⟩
    let s4:=ay yu (.tup [.int (k:Int),.int b])
    let Q0:af H3 t' (.tup [.int (k:Int),.int b]) t'=!.tup [.int (k:Int),.int b]:=ar
    let cS:=s4 _ _ cr
    generalize hH4:af H3 t' (.tup [.int (k:Int),.int b])=H4 at s4 Q0 cS
    first | show∃_,_ | show AW _ _ _ _
    rw[show af H3 t' (HO.tup [V.int (k:Int),ov (!b)])=H4 from hH4]
    show⟨L,_,_,O,O,cS,aW (by rw[qA];omega),?_⟩
    let tt:=Tups.lst (o:=.lst (↑as++[.ref t'])) cS
    show⟨iq ((s2.trans s3).trans s4) hL,⟨_,_,O⟩,done++[(k,b)],⟨as++[t'],by rw[ar,qD];rfl,(pr.mono λ_ _ z=>tt _ _ ((s3.trans s4) _ _ z)).snoc (tt _ _ Q0)⟩,?_⟩
    rw[show j-(i+1)=k by omega,xM]
    show ed
 .ext σ H' ⟨s2,⟨z6,z7,rfl⟩,done,hd,ed⟩;rw[show j-((j:Int)-1 - -1).toNat=0 by omega]at ed;let i4:done=fM us j (roomR wd nw row):=by rw[<-ed];show(rZ _).symm
  rw[i4]at hd;show-⟨q L H' s2 hd⟩
def qdf(F:Fu K "ways_by_end" QW f fd)(T:BnR mg)(qdg:⋯ 3 "beginnings_of" ["units", "last", "width", "narrow", "row"] (HU K)):(~~~0) 4 f fd ["units", "width", "narrow", "row"] (HV K):=by
 rcases F.go ["units", "width", "narrow", "row"] with⟨p,t,wd,row,nw,us,rfl,⟨as,hp,pr⟩,ht,ok,q⟩;let le:=ok.le;let la:=qU pr;let lm:(↑as)⁻¹=us⁻¹:=by rw[qA];omega
 show⟨_,(aA (aH (cm ["last"] ["units", "width", "narrow", "row"] [0,1,2,3] (r1 T.range (aG a9 (ln T.len '0') ao)) (nv 0) br (cF qdg hr (aO '1' (aO '0' (a3 '2' '3' '4'))))))),_,O,p,_,O,.inl (ag hp),_,_,O,O,_,O,by rw[lm];omega,by rw[lm];omega,jO (λk ys ae H'=>Same H H'/\(∃z,ae=[z,!.ref p,!.int wd,!.ref t,!.int row])/\∃bs,ys=↑bs/\Paired (λa x=>LstAt PnAt H' a x) bs ((js us (roomR wd nw row)).take k)) (aW (by rw[lm];omega)) ⟨Same.refl _,⟨none,O⟩,[],O,.nil⟩ ?_ ?_⟩
 .ext k ys ae H' hk ⟨s1,⟨z,rfl⟩,bs,rfl,pb⟩;rw[lm]at hk;let ek:(0:Int)+(k:Int)=((k:Nat):Int):=()
  show aY 0 (V.int (0+(k:Int))) _ _ _;rw[ek];show¬⟨_,O,_,O,_,O,p,t,k,wd,row,nw,us,O,Bw.RowAt.same s1 ⟨as,hp,pr⟩,sqt_same s1 ht,(),ok,λL H2 s2 hL=>?_⟩;show⟨s1.trans s2,⟨_,O⟩,bs++[L],by rw[qD];rfl,?_⟩;rw[qO,Go ()];show(pb.mono λ_ _=>rh s2).snoc hL
 .ext ys ae H' ⟨s1,⟨z,rfl⟩,bs,rfl,pb⟩ D hD;rw[qI (by rw[lm];unfold js;rw[qA,xZ];omega)]at pb;let sD:=ay hD (.lst ↑bs);show q D _ (s1.trans sD) ⟨bs,ar,pb.mono λ_ _=>rh sD⟩
def qdh(F:Fu K "ways_of_rows" QV f fd)(T:BnR mg)(tC:∃t,mg "COUNT" = !.int 0 t)(Q2:⋯ 4 "ways_by_end" ["units", "width", "narrow", "row"] (HV K)):(~~~0) 5 f fd ["units", "width", "narrow"] (HW K):=by
 rcases F.go ["units", "width", "narrow", "narrower", "others"] with⟨p,t,wd,nw,us,rfl,⟨as,hp,pr⟩,ht,ok,q⟩;let⟨_,sO⟩:=tC;let le:=ok.le;let la:=qU pr;let lm:(↑as)⁻¹=us⁻¹:=by rw[qA];omega
 show⟨_,(ax (sv 3 (cF Q2 hr (aO '0' (a3 '1' '2' ao))))
  (ax (sv 4 (cF Q2 hr (aO '0' (a3 '1' '2' (px aF '2' (gi sO))))))
  (aA (aH (cm ["row"] ["narrower", "others", "narrow"] [3,4,2] (r1 T.range (ln T.len '0')) (nv 0) br (jI (tc jd '0' (px (r:=bZ K) aF '3' (gi sO))) '1' '2')))))),?_⟩
 show¬⟨_,O,p,t,wd,0,nw,us,O,⟨as,hp,pr⟩,ht,ok,λN H1 s1 hN=>?_⟩;let Q3:=sqt_same s1 ht;show¬⟨_,O,_,O,t,_,_,_,O,O,Q3,O,p,t,wd,nw.1,nw,us,O,Bw.RowAt.same s1 ⟨as,hp,pr⟩,Q3,ok,λqfL H2 s2 hO=>?_⟩;let be:=s1.trans s2;let fG:=be _ _ hp;let wf:=sqt_same be ht;let hN2:=BX s2 hN;show-⟨p,_,O,.inl (ag fG),_,O,by rw[lm];omega,by rw[lm];omega,jO (λk ys ae H'=>H'=H2/\(∃z,ae=[z,!.ref N,!.ref qfL,!.ref t])/\∃bs,ys=↑bs/\Paired (λa x=>rj H2 a x) bs ((jt us (roomN wd nw)).take k)) (aW (by rw[lm];omega)) ⟨O,⟨none,O⟩,[],O,.nil⟩ ?_ ?_⟩
 .rintro k ys ae H' hk ⟨rfl,⟨z,rfl⟩,bs,rfl,pb⟩;rw[lm]at hk;show¬⟨t,_,_,_,O,O,wf,O,_,_,O,O,_,O,cz (λc=>?_) (λc=>?_)⟩
  .let c':(0:Int)+(k:Int)<nw.1:=rF c;show-⟨O,⟨_,O⟩,bs++[N],by rw[qD];rfl,?_⟩;rw[qO,B3 ()];let e:roomN wd nw k=roomR wd nw 0:=by
    unfold roomN roomR;rw[qX (),qX ()]
   show pb.snoc ?_;rw[e];show hN2
  .let c':¬(0:Int)+(k:Int)<nw.1:=λz=>c (qR z)
   show-⟨O,⟨_,O⟩,bs++[qfL],by rw[qD];rfl,?_⟩;rw[qO,B3 ()];let e:roomN wd nw k=roomR wd nw nw.1:=by
    unfold roomN roomR;rw[qY (),qY ()]
   show pb.snoc ?_;rw[e];show hO
 .ext ys ae H' ⟨rfl,_,bs,rfl,pb⟩ D hD;rw[qI (by rw[lm];unfold jt;rw[qA,xZ];omega)]at pb;let sD:=ay hD (.lst ↑bs);show q D _ (be.trans sD) ⟨bs,ar,pb.mono λ_ _=>BX sD⟩
end K33
namespace K33
open L2 Bk Gen Gd Bd Br
abbrev Q4:=top 66
abbrev Q5:=top 69
abbrev Q6:=top 68
def qdi(F:Fu K "least_sum" Q4 f fd)(T:BnR mg):(~~~0) 1 f fd ["ahead", "beginnings"] Gi:=by
 rcases F.go ["ahead", "beginnings"] with⟨a,b,os,bs,rfl,ha,⟨as,hb,pr⟩,lb,lt,q⟩;let la:=qU pr;show⟨_,(aA (aH (ym false (by rfl) (by rfl) T.min mK (a1 (cm ["first", "blemish"] ["ahead"] [0] (bc '1') (mH K (n:=2) (by rfl) (by rfl) (bF (nv 0) (bF (nv 1) dZ))) (h9 (kD (Dy (px (r:=du K) aK '2' '0')))) (aG a9 (px (r:=du K) aK '2' '0') '1'))) pQ))),_,O,b,O,⟨_,ag hb⟩,bB (xs:=↑as) (λk ys ae H'=>H'=H/\ys=⇑(cands os (bs.take k))/\∃z1 z2,ae=[z1,z2,!.ref a]) (by rw[qA];show aW ()) ⟨O,O,none,none,O⟩ ?_ ?_ ?_⟩
 .ext k ys ae H' hk ⟨rfl,rfl,_⟩;show ag hb
 .rintro k y ys ae H' hy ⟨rfl,rfl,z1,z2,rfl⟩;let⟨c,ec,rfl⟩:=cJ hy;let⟨x,ex,hc⟩:=bW pr ec;let ku:=Gm (lt x (qN ex));let et:bs.take (k+1)=bs.take k++[x]:=by rw[qO,ex];rfl
  show⟨c,_,O,aC hc,O,_,_,O,_,_,O,O,_,O,_,O,a,_,_,_,O,O,ag ha,ku,_,O,?_⟩;cases eo:oA os x.1 with
  | none =>
    show bj ⟨O,?_,_,_,O⟩
    rw[et]
    unfold cands
    rw[yT,qD]
    have:List.filterMap (λx:Nat×Int=>(oA os x.1).map (·+ x.2)) [x]=[]:=by simp[eo]
    rw[this]
    show(rZ _).symm
  | some v =>
    rw[eo]at ku
    show bK ⟨_,O,_,O,a,_,_,_,O,O,ag ha,ku,_,O,_,_,O,O,O,?_,_,_,O⟩
    rw[et]
    unfold cands
    rw[yT,qD]
    have:List.filterMap (λx:Nat×Int=>(oA os x.1).map (·+ x.2)) [x]=[v+x.2]:=by simp[eo]
    rw[this]
    rfl
 .ext ys ae H' ⟨rfl,rfl,_⟩ D hD;rw[qI (by rw[qA];omega)];show⟨D,cands os bs,ov (iW os bs),O,ag ar,λz=>?_,λz=>⟨mW (cands os bs),xr z,?_,rf⟩,q _ (ay hD _)⟩
  .unfold iW;rw[qX z];rfl
  .unfold iW;rw[qY z];rfl
def qdj(F:Fu K "first_met" Q5 f fd)(T:BnR mg):(~~~0) 1 f fd ["ahead", "beginnings", "met"] Gj:=by
 rcases F.go ["ahead", "beginnings", "met"] with⟨a,b,os,bs,m,rfl,ha,⟨as,hb,pr⟩,lb,lt,hm,q⟩;let la:=qU pr;show⟨_,(aA (aH (cb (N6 (by rfl)) T.min mK (a1 (cm ["first", "blemish"] ["met", "ahead"] [2,0] (bc '1') (mH K (n:=2) (by rfl) (by rfl) (bF (nv 0) (bF (nv 1) dZ))) (h9 (PW.pt (gX (kD (Dy (px (r:=du K) aK '3' '0'))) (i9 (tc bv (aG a9 (px (r:=du K) aK '3' '0') '1') '2'))))) '0'))))),_,O,b,O,⟨_,ag hb⟩,bB (xs:=↑as) (λk ys ae H'=>H'=H/\ys=⇑((j5 os m (bs.take k)).map λi=>((i:Nat):Int))/\∃z1 z2,ae=[z1,z2,!.int m,!.ref a]) (by rw[qA];show aW ()) ⟨O,O,none,none,O⟩ ?_ ?_ ?_⟩
 .ext k ys ae H' hk ⟨rfl,rfl,_⟩;show ag hb
 .rintro k y ys ae H' hy ⟨rfl,rfl,z1,z2,rfl⟩;let⟨c,ec,rfl⟩:=cJ hy;let⟨x,ex,hc⟩:=bW pr ec;let ku:=Gm (lt x (qN ex));let et:bs.take (k+1)=bs.take k++[x]:=by rw[qO,ex];rfl
  let no:¬(oA os x.1).map (·+ x.2)=!m->⇑((j5 os m (bs.take k)).map λi=>((i:Nat):Int))=⇑((j5 os m (bs.take (k+1))).map λi=>((i:Nat):Int)):=λh=>by
   rw[et];unfold j5;rw[yT];have:List.filterMap (λx:Nat×Int=>if(oA os x.1).map (·+ x.2)=!m then !x.1 else none) [x]=[]:=by simp only[List.filterMap_cons,List.filterMap_nil];rw[qY h]
   rw[this,rZ]
  show⟨c,_,O,aC hc,O,_,_,O,_,_,O,O,_,O,_,O,a,_,_,_,O,O,ag ha,ku,_,O,?_⟩;cases eo:oA os x.1 with
  | none=>show bj (bj ⟨O,no (by rw[eo];show λz=>nomatch z),_,_,O⟩)
  | some v =>
    rw[eo]at ku
    show bK ⟨_,O,_,O,a,_,_,_,O,O,ag ha,ku,_,O,_,_,O,O,_,O,O,_,O,cz (λd=>?_) (λd=>?_)⟩
    · let d':v+x.2=m:=V.int.inj (rF d)
      show-⟨O,?_,_,_,O⟩
      rw[et]
      unfold j5
      rw[yT]
      have:List.filterMap (λx:Nat×Int=>if(oA os x.1).map (·+ x.2)=!m then !x.1 else none) [x]=[x.1]:=by simp only[List.filterMap_cons,List.filterMap_nil];rw[qX (by rw[eo];show xH some d')]
      rw[this,qD,qD]
      rfl
    · show⟨O,no (by rw[eo];show λz=>d (qR (xH V.int (qZ z)))),_,_,O⟩
 .ext ys ae H' ⟨rfl,rfl,_⟩ D hD;rw[qI (by rw[qA];omega)];let⟨i0,b0,s0,h1,h2,h3⟩:=Od.mp hm;let Q7:i0∈j5 os m bs:=Gn.mpr ⟨b0,s0,h1,h2,h3⟩;let ne:((j5 os m bs).map λi=>((i:Nat):Int))≠[]:=λz=>by
   rw[uT.mp z]at Q7;cases Q7
  let⟨j,hj,ej⟩:=qP.mp (xr ne);show⟨D,_,(j:Int),O,ag ar,?_,?_,q j _ (ay hD _) ⟨Gn.mp hj,λi' b' s' g1 g2 g3=>?_⟩⟩
  .show qP.mpr ⟨j,hj,O⟩
  .intro x hx;rw[ej];show rf x hx
  .have:=rf _ (qP.mpr ⟨i',Gn.mpr ⟨b',s',g1,g2,g3⟩,O⟩:((i':Nat):Int)∈(j5 os m bs).map λi=>((i:Nat):Int));rw[<-ej]at this;omega
def qdk(F:Fu K "fewest_rows" Q6 f fd)(T:BnR mg):(~~~0) 1 f fd ["sums"] Gk:=by
 rcases F.go ["sums", "whole"] with⟨a,room,us,rfl,⟨as,ha,pr⟩,le,ok,q⟩;let la:=qU pr;let B5:(sumsL us room)⁻¹=us⁻¹+1:=by simp[sumsL]
 show⟨_,(ax (sm 1 ["ends"] [] [] (bc '0') (nv 0) br (px (r:=du K) aK '0' (dJ dL ao)))
  (aA (aH (jM yM PySem.F.slot_list_index PySem.F.type_list_index N9 '1' (a1 (cb (N6 (by rfl)) T.min mK (a1 (cm ["one"] [] [] (bc '1') (nv 0) (h9 (kD (Dy '0'))) '0')))))))),?_⟩
 show-⟨a,O,⟨_,ag ha⟩,bB (xs:=↑as) (λk ys ae H'=>H'=H/\ys=((dQ us room).take k).map ov/\∃z,ae=[z]) (by rw[qA];show aW ()) ⟨O,O,none,O⟩ ?_ ?_ ?_⟩
 .ext k ys ae H' hk ⟨rfl,rfl,_⟩;show ag ha
 .ext k y ys ae H' hy ⟨rfl,rfl,z,rfl⟩;let⟨c,ec,rfl⟩:=cJ hy;let⟨x,ex,hc⟩:=bW pr ec;let kl:k<=us⁻¹:=by
   have:=(qE.mp ex).1;omega
  rw[rp kl]at ex;cases ex;show¬⟨c,_,_,_,O,O,ag hc,qae (rg us room k),O,?_,_,O⟩;rw[qO,BZ kl,qD];rfl
 ext ys ae H' ⟨rfl,rfl,_⟩ W hW;rw[qI (by rw[qA,B2];omega)];let s1:=ay hW (.lst ((dQ us room).map ov));let zw:af H' W (.lst ((dQ us room).map ov)) W=!.lst ((dQ us room).map ov):=ar;generalize af H' W (.lst ((dQ us room).map ov))=H1 at s1 zw⊢;show-⟨.inl ⟨O,_,ag zw⟩,_,O,W,O,⟨_,ag zw⟩,bB (xs:=(dQ us room).map ov) (λk ys ae H'=>H'=H1/\ys=⇑(((dQ us room).take k).filterMap id)/\∃z,ae=[z]) (by rw[qA,B2];show aW ()) ⟨O,O,none,O⟩ ?_ ?_ ?_⟩
 .ext k ys ae H' hk ⟨rfl,rfl,_⟩;show ag zw
 .rintro k y ys ae H' hy ⟨rfl,rfl,z,rfl⟩;rw[qH]at hy;let⟨o,eo,rfl⟩:=rP.mp hy;show¬⟨?_⟩;cases o with
  | none =>
    show bj ⟨O,?_,_,O⟩
    rw[qO,eo,yT,qD]
    show(rZ _).symm
  | some v =>
    show bK ⟨_,O,O,?_,_,O⟩
    rw[qO,eo,yT,qD]
    rfl
 .ext ys ae H' ⟨rfl,rfl,_⟩ D hD;rw[qI (by rw[qA];show qG _)];let⟨ne,l5⟩:=qaf ok (room:=room);show⟨D,_,mW ((dQ us room).filterMap id),O,ag ar,xr ne,rf,?_⟩;let⟨o,ho,e⟩:=uB.mp (xr ne);obtain rfl:o=!_:=e;let⟨k,h1,h2⟩:=Oi ho;let s2:=ay hD (.lst ⇑((dQ us room).filterMap id));show⟨W,dQ us room,_,k,O,O,s2 _ _ zw,by rw[B2];omega,h1,h2,q k _ _ (s1.trans s2) (l5 h1 h2)⟩
end K33
namespace K33
open L2 Bk Gen Gd
open Bd
open Br
open Bw
abbrev Q8:=top 67
abbrev nG:=top 61
def qdl(F:Fu K "chosen_rows" Q8 f fd)(T:BnR mg)(qdm:⋯ 1 "fewest_rows" ["sums"] Gk)(qdn:⋯ 1 "first_met" ["ahead", "beginnings", "met"] Gj):(~~~0) 2 f fd ["ways", "sums"] Gp:=by
 rcases F.go ["ways", "sums", "rows", "last", "row", "first"] with⟨a,b,room,us,rfl,⟨zx,ha,zy⟩,⟨eY,hb,i6⟩,le,ok,q⟩;let lw:=qU zy;let ls:=qU i6;let B5:(sumsL us room)⁻¹=us⁻¹+1:=by simp[sumsL]
 let lww:(jt us room)⁻¹=us⁻¹:=by simp[jt]
 show⟨_,(ax (sv 2 (bf bX))
  (ax (sv 3 (aG c9 (ln T.len '1') ao))
  (ax (fv (FG (by rfl) T.range (a3 (aG c9 (cF qdm hr (a1 '1')) ao) (dJ dL ao) (dJ dL ao))) (nv 4)
  (ax (sv 5 (cF qdn hr (a3 (px aK '1' '4') (px aK (px aK '0' '4') '3') (px aK (px aK '1' (aG a9 '4' ao)) '3'))))
  (ax (cI (jM yM PySem.F.slot_list_insert PySem.F.type_list_insert Z2 '2' (aO ao (MV (bR (a2 '5' '3')) bX))))
  (aA (sv 3 '5')))))
  (aA (aH '2'))))),?_⟩
 show⟨aT,λL hL=>?_⟩;let s1:=ay hL (.lst []);let bo:af H L (.lst []) L=!.lst ↑([]:TQ):=ar;generalize af H L (.lst [])=H1 at s1 bo⊢;show-⟨b,_,O,.inl (ag (s1 _ _ hb)),_,_,O,O,?_⟩;let en:(((↑eY)⁻¹:Nat):Int)-1=((us⁻¹:Nat):Int):=by rw[qA];omega
 show aY 3 (V.int ((((↑eY)⁻¹:Nat):Int)-1)) _ _ _;rw[en];show-⟨b,room,us,O,sums_same s1 ⟨eY,hb,i6⟩,le,ok,λk M H2 s2 l5=>?_⟩;let kl:k<=us⁻¹:=l5.1;show⟨_,_,O,O,_,O,_,O,_,_,O,⟨(),(),{},{}⟩,FI (λi σ H'=>Same H H'/\∃(j:Nat) (rows:List (Nat×Nat)) (m:Int) (z4 z5:Option V),σ=[!.ref a,!.ref b,!.ref L,!.int j,z4,z5]/\LstAt NnAt H' L rows/\rows⁻¹=i/\oA (bL us room (k-i)) j=!m/\j<=us⁻¹/\∀pre,Ch us room (k-i) j pre->Ch us room k us⁻¹ (pre++rows)) ⟨s1.trans s2,us⁻¹,[],M,none,none,O,nns_same s2 ⟨[],bo,.nil⟩,O,l5.2.1,qG _,λpre kN=>by rw[rZ];show kN⟩ ?_ ?_⟩
 .ext i σ H' hi ⟨s3,j,rows,m,z4,z5,rfl,⟨Q9,cr,Ra⟩,lr,hm,jl,eL⟩;let cC:i<k:=()
  obtain⟨r,er⟩:∃r,k-i=r+1:=⟨k-i-1,()⟩;let erI:(k:Int)-1-(i:Int)=((r:Nat):Int):=()
  show aY 4 (V.int ((k:Int)-1-(i:Int))) _ _ _;rw[erI];rw[er]at hm eL;let Rb:=s3 _ _ hb;let E5:=s3 _ _ ha;obtain⟨c1,e1⟩:∃c,eY[r]?=!c:=⟨_,qB (show r<eY⁻¹ by omega)⟩;let⟨x1,Aa,h1⟩:=bW i6 e1;rw[rp ()]at Aa;cases Aa;obtain⟨c2,e2⟩:∃c,eY[r+1]?=!c:=⟨_,qB (show r+1<eY⁻¹ by omega)⟩;let⟨x2,Rc,h2⟩:=bW i6 e2;rw[rp ()]at Rc;cases Rc;obtain⟨c3,e3⟩:∃c,zx[r]?=!c:=⟨_,qB (show r<zx⁻¹ by omega)⟩;let⟨x3,Ab,⟨CY,h3,Ac⟩⟩:=bW zy e3;rw[B3 ()]at Ab;cases Ab;let lee:=qU Ac;let lel:(js us (room r))⁻¹=us⁻¹+1:=by simp[js]
  obtain⟨c4,e4⟩:∃c,CY[j]?=!c:=⟨_,qB (show j<CY.length by omega)⟩;let⟨x4,sP,h4⟩:=bW Ac e4;rw[Go jl]at sP;cases sP;let ku:=Gm (os:=bL us room (r+1)) (i:=j) (by rw[rg];omega);rw[hm]at ku;let hc:=hm;rw[Oe jl]at hc;show¬⟨b,_,_,_,O,O,ag Rb,aX e1,_,O,_,O,a,_,_,_,O,O,ag E5,aX e3,_,O,c3,_,_,_,O,O,ag (s3 _ _ h3),aX e4,_,O,_,O,_,_,O,O,b,_,_,_,O,O,ag Rb,Z0 (m:=r+1) () e2,_,O,c2,_,_,_,O,O,ag (OsAt.same s3 h2),ku,c1,c4,bL us room r,fM us j (room r),m,O,OsAt.same s3 h1,rh s3 h4,rK (BW _ _ _ _) (),λx hx=>by rw[rg];have:=Gg j hx;omega,qaa hc,λi1 H4 s4 met=>?_⟩;let⟨⟨b1,v1,Bb,hv1,oM⟩,_⟩:=id met;let⟨ij,CZ⟩:=(Gf ok jl).mp Bb;let cS:=s4 _ _ cr;show-⟨.inl ⟨O,_,ag cS⟩,_,O,_,O,aT,λt' yu=>?_⟩;let s5:=ay yu (.tup [.int (i1:Int),.int (j:Int)]);let Re:af H4 t' (.tup [.int (i1:Int),.int (j:Int)]) t'=!.tup [.int (i1:Int),.int (j:Int)]:=ar;let iE:=s5 _ _ cS;generalize af H4 t' (.tup [.int (i1:Int),.int (j:Int)])=H5 at s5 Re iE⊢;let zr:=qU Ra;show⟨L,_,_,O,O,iE,aW (by rw[qA];omega),?_⟩;let tt:=Tups.lst (o:=.lst (.ref t'::Q9.map V.ref)) iE;show-⟨iq ((s3.trans s4).trans s5) hL,i1,(i1,j)::rows,v1,_,_,O,⟨t'::Q9,by rw[ar];rfl,.cons (tt _ _ Re) (Ra.mono λ_ _ z=>tt _ _ ((s4.trans s5) _ _ z))⟩,by rw[rH,lr],?_,(),λpre kN=>?_⟩
  .rw[show k-(i+1)=r by omega];show hv1
  .rw[show k-(i+1)=r by omega]at kN;have:=eL _ (.snoc kN hm met);rw[xM]at this;show this
 .ext σ H' ⟨s3,j,rows,m,z4,z5,rfl,hl,lr,hm,jl,eL⟩;let e0:k-((k:Int)-1 - -1).toNat=0:=()
  rw[e0]at hm eL;let⟨rfl,rfl⟩:=qac hm;show-⟨q L rows k M H' hL s3 hl (eL [] .nil) l5⟩
def qdo(F:FunD K "broken" "broken" nG f fd)(T:BnR mg)(Iv:mg "NONE_NARROWER" = !.ref C0)(qdp:⋯ 5 "ways_of_rows" ["units", "width", "narrow"] (HW K))(qdq:⋯ 1 "sums_of_no_row" ["units"] HX)(qdr:⋯ 1 "least_sum" ["ahead", "beginnings"] Gi)(qds:⋯ 2 "chosen_rows" ["ways", "sums"] Gp):(~~~0) 6 f fd ["units", "width", "narrow"] (spBroken2 K C0):=by
 rcases F.go ["units", "width", "narrow", "ways", "sums", "row", "ahead"] with⟨p,t,v,wd,nw,us,rfl,hv,⟨as,hp,pr⟩,ht,ok,q⟩;let le:=ok.le;let la:=qU pr;let lm:(↑as)⁻¹=us⁻¹:=by rw[qA];omega
 show⟨_,(ax (sv 3 (cF qdp hr (a3 '0' '1' (jI (kD (tJ '2')) (gr Iv) '2'))))
  (ax (sv 4 (bf (a1 (cF qdq hr (a1 '0')))))
  (ax (PS.nox (fv (r1 T.range (ln T.len '0')) (nv 5)
  (ax (sv 6 (px aK '4' '5'))
  (aA (cI (ap '4' (cm ["beginnings"] ["ahead"] [6] (bc (px aK '3' '5')) (nv 0) br (cF qdr hr (a2 '1' '0')))))))))
  (aA (aH (bR (a2 (cF qds hr (a2 '3' '4')) '4'))))))),?_⟩
 show Xg (λv' H1=>∃W,v'=.ref W/\Same H H1/\xu H1 W (jt us (roomN wd nw))) (λQ' hQ=>?_) ?_
 .rcases hv with rfl | ⟨rfl,rfl⟩
  .show¬⟨_,O,_,O,bj ⟨_,O,p,t,wd,nw,us,O,⟨as,hp,pr⟩,ht,ok,λW H1 s1 hW=>hQ _ _ ⟨W,O,s1,hW⟩⟩⟩
  .show¬⟨_,O,_,O,bK ⟨p,t,wd,nw,us,O,⟨as,hp,pr⟩,ht,ok,λW H1 s1 hW=>hQ _ _ ⟨W,O,s1,hW⟩⟩⟩
 ext v' H1 ⟨W,rfl,s1,hW⟩;show-⟨p,us,O,Bw.RowAt.same s1 ⟨as,hp,pr⟩,le,λZ H2 hZ s2 hZ2=>⟨aT,λS hS=>?_⟩⟩;let s3:=ay hS (.lst [.ref Z]);let pz:af H2 S (.lst [.ref Z]) S=!.lst ↑([Z]:TQ):=ar;generalize af H2 S (.lst [.ref Z])=H3 at s3 pz⊢;let dC:=(s1.trans s2).trans s3;let⟨zx,Cz,zy⟩:=Og s2 hW;let lw:=qU zy;let lww:(jt us (roomN wd nw))⁻¹=us⁻¹:=by simp[jt]
 show-⟨p,_,O,.inl (ag (dC _ _ hp)),_,O,by rw[lm];omega,by rw[lm];omega,gY (λr σ H'=>Same H2 H'/\(∃z5 z6,σ=[!.ref p,!.int wd,!v,!.ref W,!.ref S,z5,z6])/\∃eY,H' S=!.lst ↑eY/\Paired (λc os=>OsAt H' c os/\H c=none) eY ((sumsL us (roomN wd nw)).take (r+1))) ⟨s3,⟨none,none,O⟩,[Z],pz,?_⟩ ?_ ?_⟩
 .rw[qO,List.take_zero,rp (rO _)];show .cons ⟨OsAt.same s3 hZ2,s1.free hZ⟩ .nil
 .rintro r σ H' yw ⟨s4,⟨z5,z6,rfl⟩,eY,jy,i6⟩;rw[lm]at yw;let B5:(sumsL us (roomN wd nw))⁻¹=us⁻¹+1:=by simp[sumsL]
  let lsa:=qU i6;rw[yC]at lsa;let er:(0:Int)+(r:Int)=((r:Nat):Int):=()
  show aY 5 (V.int (0+(r:Int))) _ _ _;rw[er];obtain⟨c1,e1⟩:∃c,eY[r]?=!c:=⟨_,qB (show r<eY⁻¹ by omega)⟩;let⟨x1,Aa,h1,_⟩:=bW i6 e1;rw[List.getElem?_take_of_lt (),rp ()]at Aa;cases Aa;show¬⟨S,_,_,_,O,O,ag jy,aX e1,?_⟩;obtain⟨c3,e3⟩:∃c,zx[r]?=!c:=⟨_,qB (show r<zx⁻¹ by omega)⟩;let⟨x3,Ab,h3'⟩:=bW zy e3;rw[B3 ()]at Ab;cases Ab;let⟨CY,h3,Ac⟩:=BX s4 h3';let lee:=qU Ac;let lel:(js us (roomN wd nw r))⁻¹=us⁻¹+1:=by simp[js]
  show-⟨.inl ⟨O,_,ag jy⟩,_,O,_,O,W,_,_,_,O,O,ag (s4 _ _ Cz),aX e3,c3,O,⟨_,ag h3⟩,bB (xs:=CY.map V.ref) (λk ys ae gM=>Same H' gM/\ys=((bL us (roomN wd nw) (r+1)).take k).map ov/\∃z,ae=[z,!.ref c1]) (by rw[qA];show aW ()) ⟨Same.refl _,O,none,O⟩ ?_ ?_ ?_⟩
  .ext k ys ae gM hk ⟨s5,rfl,_⟩;show ag (s5 _ _ h3)
  .ext k y ys ae gM hy ⟨s5,rfl,z,rfl⟩;let⟨c4,e4,rfl⟩:=cJ hy;let⟨x4,sP,h4⟩:=bW Ac e4;let kl:k<=us⁻¹:=by
    have:=(qE.mp sP).1;omega
   rw[Go kl]at sP;cases sP;show¬⟨c1,c4,bL us (roomN wd nw) r,fM us k (roomN wd nw r),O,OsAt.same s5 h1,rh s5 h4,rK (BW _ _ _ _) (),λx hx=>by rw[rg];have:=Gg k hx;omega,λH6 s6=>⟨s5.trans s6,?_,_,O⟩⟩;rw[qO,show(bL us (roomN wd nw) (r+1))[k]?=!iW (bL us (roomN wd nw) r) (fM us k (roomN wd nw r)) by
    show((List.range (us⁻¹+1)).map _)[k]?=_;rw[qH,rX ()];rfl,qD]
   rfl
  .ext ys ae gM ⟨s5,rfl,_⟩ D hD;rw[qI (by rw[qA,rg];omega)];let hDn:H D=none:=((s1.trans s2).trans (s4.trans s5)).free hD;let s6:=s5.trans (ay hD (.lst ((bL us (roomN wd nw) (r+1)).map ov)));let iZ:OsAt (af gM D (.lst ((bL us (roomN wd nw) (r+1)).map ov))) D (bL us (roomN wd nw) (r+1)):=ar;generalize af gM D (.lst ((bL us (roomN wd nw) (r+1)).map ov))=H6 at s6 iZ⊢;let lU:=s6 _ _ jy;show⟨S,_,_,O,O,lU,aW (by rw[qA];omega),?_⟩;let keep:∀{c:Addr} {i:Nat},OsAt H6 c (bL us (roomN wd nw) i)->OsAt (af H6 S (.lst (↑eY++[.ref D]))) c (bL us (roomN wd nw) i):=λ{c i} h=>by
    let n:=qag h (qah _ _ _) lU;unfold OsAt at h⊢;rw[aM n];show h
   show⟨iq (s4.trans s6) hS,⟨_,_,O⟩,eY++[D],by rw[ar,qD];rfl,?_⟩;rw[qO,rp ()];show Paired.snoc ?_ ⟨keep iZ,hDn⟩;let all:∀x∈(sumsL us (roomN wd nw)).take (r+1),∃i,x=bL us (roomN wd nw) i:=λx hx=>by
    let⟨i,_,e⟩:=qP.mp (x8 hx);show⟨i,e.symm⟩
   show paired_mem i6 λc x hx h=>by
    let⟨i,rfl⟩:=all x hx;show⟨keep (OsAt.same s6 h.1),h.2⟩
 .ext σ H' ⟨s4,⟨z5,z6,rfl⟩,eY,jy,i6⟩;rw[lm,qI (by simp[sumsL])]at i6;let iB:=(s1.trans s2).trans s4;let qdt:=i6.mono λ_ _ z=>z.1
  show¬⟨W,S,roomN wd nw,us,O,Og (s2.trans s4) hW,⟨eY,jy,qdt⟩,le,ok.ok,λA rows k M H5 hA s5 hA5 ch l5=>-⟨aT,λR hR=>?_⟩⟩;let s6:=ay hR (.tup [.ref A,.ref S]);show q R A S rows k M _ ((iB.trans s5).trans s6) ((iB.trans s5).free hR) ar (iB.free hA) (λz=>?_) (nns_same s6 hA5) ⟨(s1.trans s2).free hS,eY,(s5.trans s6) _ _ jy,i6.mono λ_ _ z=>⟨OsAt.same (s5.trans s6) z.1,z.2⟩⟩ ch l5;rw[z,jy]at hA;cases hA
end K33
namespace Ins
open L2 Bk Gen Gd Shr Sp0
open Bd
theorem Iw(zs:List (Pl×Int)):∀n,∀x∈bM zs n,0<=x
 | 0,x,hx=>nomatch hx
 | n + 1, x, hx => by
   rw[bM]at hx
   rcases rG.mp hx with h | h
   · exact Iw zs n x h
   · rw[rT.mp h]
     exact(lK _ 0).1
def qdu{n m x:Nat}(h:m∈aw ds n)(hx:x∈bz ds m):x∈aw ds n:=by
 unfold bz at hx;cases e:bN ds m with
 | none=>rw[e]at hx;rw[rT.mp hx];show h
 | some a =>
   rw[e]at hx
   rcases qM.mp hx with z | z
   · rw[z]
     let⟨d,ed,_,hl,_⟩:=CF e
     let⟨d',i4,he⟩:=fK h
     rw[ed]at i4
     cases i4
     rw[he]at hl
     show qcd (cO h) (List.mem_of_getLast? hl)
   · rw[rT.mp z];show h
theorem Rf{ls:List (List Int)}{hs bu:Nat->Int}{n:Nat}(h:∀m∈aw ds n,hs m=bu m):∀(ks:List Nat) (acc:List (Nat×Int)×Int),(∀m∈ks,m∈aw ds n)->ks.foldl (dI ds ls hs) acc=ks.foldl (dI ds ls bu) acc
 | [],_,_=>rfl
 | m :: ks, acc, hk => by
   rw[xG,xG,zc,zc,uU λx hx=>h x (qdu (hk m rE) hx)]
   exact Rf h ks _ λx hx=>hk x (qS _ hx)
def qdv{ls:TB}{hs bu:Nat->Int}{n:Nat}(h:∀m∈aw ds n,hs m=bu m):bJ ds ls hs n=bJ ds ls bu n:=by
 unfold bJ
 split
 .rfl
 .rfl
 .rfl
 .rfl
 .unfold gQ;rw[uU h]
 .unfold gU;rw[Rf h _ _ λm hm=>(rY.mp hm).1]
noncomputable def sQ(ds:List Nd)(ls:TB)(hs:Nat->Int)(n:Nat):Int:=bC ((bJ ds ls hs n).map λx=>x.2+hs x.1)
def qdw{ls:TB}{hs bu:Nat->Int}{n:Nat}(h:∀m∈aw ds n,hs m=bu m):sQ ds ls hs n=sQ ds ls bu n:=by
 unfold sQ;rw[qdv h,uU λx hx=>by rw[h x.1 (sB.subset (yQ hx))]]
def fu(ds:List Nd)(us:List (List Un))(sp:TC)(hs:Nat->Int)(n:Nat):Int×Int:=match bN ds n with
 | none=>(0,0)
 | some a=>(dA (hs a) (bC ((bg us n).map Un.h)),(aJ sp a).2)
inductive IsSz(ds:List Nd)(ls:TB)(us:List (List Un))(sp:TC)(hs:Nat->Int)(n:Nat)(d:Nd):Sz->Prop
 | pic {w h:Int}:d.k=.picture->d.st=[.int w,.int h]->IsSz ds ls us sp hs n d ⟨h,[],[],0⟩
 | box:d.k≠.picture->¬(d.k=.text\/d.k=.head\/d.k=.note)->IsSz ds ls us sp hs n d ⟨sQ ds ls hs n,[],[],0⟩
 | row {rows : List (Nat × Nat)} {k : Nat} {M : Int} : (d.k = .text \/ d.k = .head \/ d.k = .note) -> Br.Ch (bg us n) (Br.roomN (cf ls sp n).2 (fu ds us sp hs n)) k (bg us n)⁻¹ rows -> Br.Few (bg us n) (Br.roomN (cf ls sp n).2 (fu ds us sp hs n)) k M ->
   IsSz ds ls us sp hs n d ⟨(rows⁻¹:Int)*bC ((bg us n).map Un.h),rows,Br.sumsL (bg us n) (Br.roomN (cf ls sp n).2 (fu ds us sp hs n)),(fu ds us sp hs n).1⟩
section
variable{ds:List Nd}{ls:TB}{us:List (List Un)}{sp:TC}{hs bu:Nat->Int}{n:Nat}{d:Nd}{z z':Sz}
def IsSz.congr(h:IsSz ds ls us sp hs n d z)(e:∀m,m∈aw ds n\/bN ds n=!m->hs m=bu m):IsSz ds ls us sp bu n d z:=by
 cases h with
 | pic a b=>show .pic a b
 | box a b =>
   rw[qdw λm hm=>e m (.inl hm)]
   show .box a b
 | row a c f =>
   let en:fu ds us sp hs n=fu ds us sp bu n:=by
     unfold fu
     cases eb:bN ds n with
     | none=>rfl
     | some x=>show(dA (hs x) _,_)=(dA (bu x) _,_);rw[e x (.inr eb)]
   rw[en]at c f⊢
   show .row a c f
end
def Lev.uniq{i l:Nat}(h:Lev ds i l):∀{l':Nat},Lev ds i l'->l=l':=by
 induction h with
 | top e h => intro l' h'; cases h' with
   | top=>rfl
   | up e' h'=>rw[e]at e';cases e';omega
 | up e h hj _ ih => intro l' h'; cases h' with
   | top e' h'=>rw[e]at e';cases e';omega
   | up e' h' Cv g'=>rw[e]at e';cases e';rw[h]at h';cases Int.ofNat.inj h';rw[ih g']
section
variable{ds:List Nd}{L:Nat->Nat}{n m:Nat}
def qdx(lv:wo ds L)(h:m∈aw ds n):L m=L n+1:=by
 let⟨d,ed,he⟩:=fK h;let hm:=cO h;let⟨h1,_⟩:=lv m hm;generalize L m=l at h1;cases h1 with
 | top e z=>rw[ed]at e;cases e;omega
 | up e z hj g =>
   rw[ed]at e
   cases e
   rw[he]at z
   cases Int.ofNat.inj z
   rw[Lev.uniq g (lv n ()).1]
def qdy(lv:wo ds L)(h:bN ds n=!m):L m=L n/\m<n:=by
 let⟨d,ed,_,hl,_⟩:=CF h;let hn:=(qE.mp ed).1;let hm:=List.mem_of_getLast? hl;let lt:=yz hm;let⟨_,h2⟩:=rY.mp hm;let h2:=rF h2;let⟨c,ec,hc⟩:=rP.mp h2;show⟨?_,lt⟩;let g1:=(lv n hn).1;let g2:=(lv m ()).1;generalize L n=l at g1;generalize L m=l' at g2;cases g1 with
 | top e z => cases g2 with
   | top=>rfl
   | up e' z'=>rw[ed]at e;rw[ec]at e';cases e;cases e';omega
 | up e z hj g => cases g2 with
   | top e' z'=>rw[ed]at e;rw[ec]at e';cases e;cases e';omega
   | up e' z' Cv g' =>
     rw[ed]at e;rw[ec]at e'
     cases e;cases e'
     rw[hc,z]at z'
     cases Int.ofNat.inj z'
     rw[Lev.uniq g g']
abbrev Rg(L:Nat->Nat)(ms:TM):Prop:=ms.Pairwise λa b=>-(L a:Int) < -(L b:Int)\/(-(L a:Int)=-(L b:Int)/\a<b)
def qdz{ms:TM}{i j:Nat}(lv:wo ds L)(o:Rg L ms)(hj:ms[j]?=!n)(hi:ms[i]?=!m)(le:j<=i):¬(m∈aw ds n\/bN ds n=!m):=by
 let ord:j=i\/(L m<L n\/(L n=L m/\n<m)):=by
  by_cases e:j=i
  .show .inl e
  .right;let⟨Ix,Iy⟩:=qE.mp hj;let⟨Iz,IE⟩:=qE.mp hi;have:=List.pairwise_iff_getElem.mp o j i Ix Iz ();rw[Iy,IE]at this;omega
 ext(h | h)
 .have:=qdx lv h;rcases ord with e | e
  .subst e;rw[hj]at hi;cases hi;omega
  .omega
 .have:=qdy lv h;rcases ord with e | e
  .subst e;rw[hj]at hi;cases hi;omega
  .omega
variable{ls:TB}{us:List (List Un)}{sp:TC}{sz:List Sz}
def C1(ds:List Nd)(ls:TB)(us:List (List Un))(sp:TC)(ms:TM)(i:Nat)(sz:List Sz):=∀(j n:Nat) (d:Nd),j<i->ms[j]?=!n->ds[n]?=!d->∃z,sz[n]?=!z/\IsSz ds ls us sp (aI sz) n d z
def qdA{x:Nat}(h:m≠x):aI (sz.set m z) x=aI sz x:=by
 unfold aI;rw[uR h]
def qdB{ms:TM}{i:Nat}(lv:wo ds L)(o:Rg L ms)(nd:ms.Nodup)(lz:sz⁻¹=ds⁻¹)(h:C1 ds ls us sp ms i sz)(hi:ms[i]?=!m)(ed:ds[m]?=!d)(hz:IsSz ds ls us sp (aI sz) m d z):C1 ds ls us sp ms (i+1) (sz.set m z):=by
 intro j n c hj en ec;let same:∀x,x∈aw ds n\/bN ds n=!x->aI sz x=aI (sz.set m z) x:=λx hx=>by
  show(qdA λe=>?_).symm;rw[<-e]at hx;show qdz lv o en hi () hx
 by_cases e:j=i
 .subst e;rw[hi]at en;cases en;rw[ed]at ec;cases ec;show⟨z,by rw[u6 (by rw[lz];show(qE.mp ed).1)],hz.congr same⟩
 .let⟨y,ey,hy⟩:=h j n c () en ec;let ne:m≠n:=λq=>e ((List.getElem?_inj (qE.mp en).1 nd).mp (en.trans (by rw[<-q];show hi.symm)))
  show⟨y,by rw[uR ne];show ey,hy.congr same⟩
def Ad(ds:List Nd)(ls:TB)(us:List (List Un))(sp:TC)(sz:List Sz):=∀(n:Nat) (d:Nd),ds[n]?=!d->∃z,sz[n]?=!z/\IsSz ds ls us sp (aI sz) n d z
def qdC{ms:TM}(pm:ms.Perm (List.range ds⁻¹))(h:C1 ds ls us sp ms ms⁻¹ sz):Ad ds ls us sp sz:=λn d ed=>by
 let hn:=(qE.mp ed).1;let⟨j,hj,e⟩:=xA.mp (pm.mem_iff.mpr (xC.mpr hn));show h j n d hj (by rw[qB hj,e]) ed
def Rh(h:∀z∈sz,0<=z.h)(m:Nat):0<=aI sz m:=by
 unfold aI;cases e:sz[m]? with
 | none=>show xF _
 | some z=>show h z (qN e)
def qdD(h:sz[m]?=!x):aI sz m=x.h:=by
 unfold aI;rw[h];rfl
end
inductive IF(K:W.Frag):List V->Hp->VK->XK->Prop
|m (B p U Sp S:Addr) (n:Nat) (ds:List Nd) (ls:TB) (us:List (List Un)) (sp:TC) (sz:List Sz):vs=[.ref B,.ref U,.ref Sp,.ref S,.int n]->InZ H B p U Sp S ds ls us sp sz->kq ds ls sz sp us->n<ds⁻¹->bg us n≠[]->(∀(t:Addr) (H':Hp),Same H H'->Br.PrK K H' t (fu ds us sp (aI sz) n)->0<=(fu ds us sp (aI sz) n).2->Q (.ref t) H')->IF K vs H Q E
inductive IH:List V->Hp->VK->XK->Prop
|m (B p U Sp S:Addr) (n:Nat) (d:Nd) (ds:List Nd) (ls:TB) (us:List (List Un)) (sp:TC) (sz:List Sz):vs=[.ref B,.ref p,.ref U,.ref Sp,.ref S,.int n]->InZ H B p U Sp S ds ls us sp sz->kq ds ls sz sp us->ds[n]?=!d->(∀(t:Addr) (z:Sz) (H':Hp),Same H H'->SzN (λb=>H b=none) H' t z->IsSz ds ls us sp (aI sz) n d z->Q (.ref t) H')->IH vs H Q E
end Ins
namespace K33
open L2 Bk Gd Shr Sp0 Ins
open Bd
open Gen
abbrev Ri:=top 103
abbrev Rj:=top 102
def II(pr:Paired (Bw.RowAt H) as us){n:Nat}(h:n<us⁻¹):∃a,as[n]?=!a/\Bw.RowAt H a (bg us n):=by
 let⟨a,ea,ha⟩:=dP pr (qB h);show⟨a,ea,?_⟩;unfold bg;rw[qB h];show ha
def C2{ls:TB}{sp:TC}(cx:kq ds ls sz sp us){n:Nat}(h:n<ds⁻¹):(bg us n)⁻¹<=100/\∀u∈bg us n,Br.UOk u/\1<=u.h/\u.h<=100:=by
 let h':n<us⁻¹:=by rw[cx.ul];show h
 unfold bg;rw[qB h'];show cx.uok _ (rJ h')
def qdE(F:Fu K "narrow_of" Ri f fd)(tS:∃t,mg "SIZE_HIGH" = !.int 0 t)(tW:∃t,mg "WIDE_spans" = !.int 1 t)(Iv:mg "NONE_NARROWER" = !.ref C0)(NN:∀H:Hp,SqT K H C0 [.int 0,.int 0])(Io:⋯ 2 "aside_ahead" ["book", "node"] o8)(Hi:⋯ 1 "rounded_up" ["length", "parts"] Iu)(IJ:⋯ 1 "rows_high" ["units"] Bw.spRowsHigh):(~~~0) 3 f fd ["book", "units", "spans", "sizes", "node"] (IF K):=by
 rcases F.go ["book", "units", "spans", "sizes", "node", "aside"] with⟨B,p,U,Sp,S,n,ds,ls,us,sp,sz,rfl,I,cx,hn,eX,q⟩;let⟨_,lX⟩:=tS;let⟨_,gN⟩:=tW;show⟨_,(ax (sv 5 (cF Io hr (a2 '0' '4')))
  (ax (ba (kD (tJ '5')) (aA (aH (gr Iv))) bi)
  (aA (aH (bR (a2 (cF Hi hr (a2 (px aF (px aK '3' '5') (gi lX)) (cF IJ hr (a1 (px aK '1' '4'))))) (px aF (px aK '2' '5') (gi gN)))))))),?_⟩
 show¬⟨B,n,ds,O,I.bk,cx.bk,cx.le,hn,λH1 s1=>?_⟩;let I1:=I.same s1;dsimp only[aY];cases hb:bN ds n with
 | none =>
   let en:fu ds us sp (aI sz) n=(0,0):=by unfold fu;rw[hb]
   rw[en]at q
   show¬⟨bK (q C0 H1 s1 (NN _) (xF _))⟩
 | some a =>
   let ha:=HQ hb
   let en:fu ds us sp (aI sz) n=(dA (aI sz a) (bC ((bg us n).map Un.h)),(aJ sp a).2):=by unfold fu;rw[hb]
   rw[en]at q
   let⟨zs,hS,C3⟩:=I1.sz
   let⟨bs,kr,fQ⟩:=I1.sp
   let⟨as,hU,Ae⟩:=I1.un
   let⟨z,_,_,_,ez,hz⟩:=sF C3 (show a<sz⁻¹ by rw[cx.zl];omega)
   let fU:a<sp⁻¹:=by rw[cx.sl];omega
   let⟨b,eb,Af⟩:=dP fQ (rz fU)
   let⟨r,er,l6⟩:=II Ae (show n<us⁻¹ by rw[cx.ul];show hn)
   let⟨ul,uo⟩:=C2 cx hn
   let hi:=HY eX uo
   show¬⟨bj ⟨_,O,_,O,S,_,_,_,O,O,ag hS,aX ez,z,_,_,_,O,O,aC hz,O,_,O,_,O,U,_,_,_,O,O,ag hU,aX er,r,_,O,l6,eX,ul,λH2 s2=>?_⟩⟩
   show⟨_,_,O,hi.1,(),_,O,_,O,Sp,_,_,_,O,O,ag (s2 _ _ kr),aX eb,b,_,_,_,O,O,aC (s2 _ _ Af),O,aT,λt ht=>?_⟩
   show q t _ ((s1.trans s2).trans (ay ht _)) (aC ar) (cx.sb.at fU).1
def qdF(F:Fu K "node_size" Rj f fd)(T:bY mg)(tK:∃t,mg "KIND" = !.int 1 t)(tT:∃t,mg "STUFF" = !.int 4 t)(tW:∃t,mg "WIDE_spans" = !.int 1 t)(tR:∃t,mg "ROWS" = !.int 0 t)(tU:∃t,mg "SUMS" = !.int 1 t)(tC:∃t,mg "COUNT" = !.int 0 t)(lH:mg "KINDS_OF_PIECES" = !.ref gJ)(KP:∀H:Hp,SqT K H gJ (pieceKinds.map V.str))(qdG:⋯ 6 "high_of_held" ["book", "looks", "sizes", "node"] HP)(qdH:⋯ 3 "narrow_of" ["book", "units", "spans", "sizes", "node"] (IF K))(CB:⋯ 2 "room_of" ["looks", "spans", "node"] Cf)(qdI:⋯ 6 "broken" ["units", "width", "narrow"] (Bw.spBroken2 K nn))(IJ:⋯ 1 "rows_high" ["units"] Bw.spRowsHigh):(~~~0) 7 f fd ["book", "looks", "units", "spans", "sizes", "node"] IH:=by
 rcases F.go ["book", "looks", "units", "spans", "sizes", "node", "narrow", "paper"] with⟨B,p,U,Sp,S,n,d,ds,ls,us,sp,sz,rfl,I,cx,ed,q⟩;let hn:=(qE.mp ed).1;let⟨_,dW⟩:=tK;let⟨_,mU⟩:=tT;let⟨_,gN⟩:=tW;let⟨_,Rk⟩:=tR;let⟨_,qdJ⟩:=tU;let⟨_,sO⟩:=tC;let⟨ab,hB,nd⟩:=I.bk;let⟨a,ea,na⟩:=nd.get ed;let⟨_,m',s',ha,_,_,st⟩:=na;let⟨_,mV,bu,fi⟩:=st;show⟨_,(ax (ba (tc bv (px aF (px aK '0' '5') (gi dW)) aU) (aA (aH (bR (aO (px aK (px aF (px aK '0' '5') (gi mU)) ao) (a3 (bf bX) (bf bX) ao))))) bi)
  (ax (ba (tc AV (px aF (px aK '0' '5') (gi dW)) (gr lH)) (aA (aH (bR (aO (cF qdG hr (aO '0' (a3 '1' '4' '5'))) (a3 (bf bX) (bf bX) ao))))) bi)
  (ax (sv 6 (cF qdH hr (aO '0' (aO '2' (a3 '3' '4' '5')))))
  (ax (sv 7 (cF qdI hr (a3 (px aK '2' '5') (px aF (cF CB hr (a3 '1' '3' '5')) (gi gN)) '6')))
  (aA (aH (bR (aO (aG eR (ln T.len (px aF '7' (gi Rk))) (cF IJ hr (a1 (px aK '2' '5')))) (a3 (px aF '7' (gi Rk)) (px aF '7' (gi qdJ)) (px aF '6' (gi sO))))))))))),?_⟩
 show mC λC hC=>?_
 let none:∀{G:Hp} {v:Int} {X Y t:Addr},IsSz ds ls us sp (aI sz) n d ⟨v,[],[],0⟩->Same H G->G X=none->af G X (.lst []) Y=none->af (af G X (.lst [])) Y (.lst []) t=none->Q (.ref t) (af (af (af G X (.lst [])) Y (.lst [])) t (.tup [.int v,.ref X,.ref Y,.int 0])):=λ{G v X Y t} iz s0 hX hY ht=>by
  let s1:=ay hX (.lst []);let s2:=ay hY (.lst []);let s3:=ay ht (.tup [.int v,.ref X,.ref Y,.int 0]);show q t ⟨v,[],[],0⟩ _ (s0.trans ((s1.trans s2).trans s3)) ⟨X,Y,ar,s0.free hX,⟨[],(s2.trans s3) _ _ ar,.nil⟩,(s0.trans s1).free hY,[],s3 _ _ ar,.nil⟩ iz
 show¬⟨B,_,_,_,O,O,ag hB,aX ea,a,_,_,_,O,O,aC ha,O,O,_,O,?_⟩
 by_cases hp:d.k=.picture
 .refine hV (bH d.k .picture) hp ?_;let⟨w1,h1,jZ⟩:=cx.pic n d ed hp;let sn:mV[1]?=!.int h1:=by
   rw[jZ]at fi;cases fi with
   | cons q1 t1 => cases t1 with
     | cons q2 _=>rw[show _=V.int h1 from q2];rfl
  show¬⟨B,_,_,_,O,O,ag hB,aX ea,a,_,_,_,O,O,aC ha,O,s',_,_,_,O,O,ag bu,fX (j:=1) sn,aT,λX hX=>⟨aT,λY hY=>⟨aT,λt ht=>none (.pic hp jZ) (Same.refl H) hX hY ht⟩⟩⟩
 show h8 (bH d.k .picture) hp ?_;show bG hC λC hC=>¬⟨B,_,_,_,O,O,ag hB,aX ea,a,_,_,_,O,O,aC ha,O,gJ,_,O,.inr (KP _),O,vw _,_,O,?_⟩
 rw[qX O,xn]
 by_cases gP:d.k=.text\/d.k=.head\/d.k=.note
 rotate_left
 .rw[qV gP];show bK ⟨_,O,_,O,_,O,_,O,B,p,S,n,ds,ls,sz,O,I.toInT,cx.toCx4,hn,λG s0=>⟨aT,λX hX=>⟨aT,λY hY=>⟨aT,λt ht=>none (.box hp gP) s0 hX hY ht⟩⟩⟩⟩
 rw[qR gP];show bj ?_;let eX:=cx.un n d ed gP;let⟨ul,uo⟩:=C2 cx hn;let hi:=HY eX uo;show bG hC λC hC=>¬⟨_,O,_,O,_,O,B,p,U,Sp,S,n,ds,ls,us,sp,sz,O,I,cx,hn,eX,λt H1 s1 ht nw0=>?_⟩
 let I1:=I.same s1;dsimp only[aY];let⟨as,hU,Ae⟩:=I1.un;let⟨r,er,l6⟩:=II Ae (show n<us⁻¹ by rw[cx.ul];show hn);let C4:n<sp⁻¹:=by rw[cx.sl];show hn
 show bG hC λC hC=>¬⟨U,_,_,_,O,O,ag hU,aX er,_,O,_,O,_,O,p,Sp,n,ls,sp,O,I1.lk,I1.sp,by rw[cx.ll];show hn,C4,cx.l13,λrm H2 hrm s2 prm=>?_⟩
 let⟨l,_,cQ,lv⟩:=cx.look hn;let rb:=Pn (ls:=ls) (by rw[lv];show cQ.ins) (cx.sb.at C4);show⟨rm,_,_,_,O,O,aC prm,O,_,O,r,t,_,_,_,_,O,.inl O,Bw.RowAt.same s2 l6,Br.sqt_same s2 ht,⟨eX,ul,λu hu=>(uo u hu).1,rb.1,rb.2,nw0⟩,λR A' B' rows k M H3 s3 hR uz hA ne Rl Gr ch l5=>?_⟩;dsimp only[aY];let C5:=s2.trans s3;let dC:=s1.trans C5;let qdK:=Rl;let⟨ra,C6,C7⟩:=qdK;show mD hC ⟨_,O,R,_,_,_,O,O,aC uz,O,A',_,O,.inl (ag C6),_,O,_,O,U,_,_,_,O,O,ag (C5 _ _ hU),aX er,r,_,O,Bw.RowAt.same C5 l6,eX,ul,λH4 s4=>?_⟩;let fI:=C5.trans s4;let⟨hB0,bbs,hBL,prB⟩:=Gr;show⟨_,_,O,O,.inr ⟨(),()⟩,_,O,R,_,_,_,O,O,aC (s4 _ _ uz),O,_,O,R,_,_,_,O,O,aC (s4 _ _ uz),O,_,O,t,_,_,_,O,O,Br.sqt_same fI ht,O,aT,λx hx=>?_⟩;let s5:=ay hx (.tup [.int (((↑ra)⁻¹:Nat)*bC ((bg us n).map Un.h)),.ref A',.ref B',.int (fu ds us sp (aI sz) n).1]);let kX:=s4.trans s5;let IK:=s1.trans s2;let er:((↑ra)⁻¹:Int)=(rows⁻¹:Int):=by rw[qA,qU C7]
 show q x ⟨((↑ra)⁻¹:Nat)*bC ((bg us n).map Un.h),rows,_,(fu ds us sp (aI sz) n).1⟩ _ (dC.trans kX) ⟨A',B',ar,IK.free hA,Br.nns_same kX Rl,IK.free hB0,bbs,kX _ _ hBL,prB.mono λc os y=>⟨kX _ _ y.1,IK.free y.2⟩⟩ (by rw[er];show .row gP ch l5)
end K33
namespace K33
open L2 Bk Gen
abbrev Rm:=top 12
abbrev Rn:=top 13
def qdL(F:Fu K "elders_of" Rn f fd)(U:∃t,mg "ELDER" = !.int 0 t):(~~~0) 1 f fd ["book", "node"] Fa:=by
 rcases F.go ["book", "node", "elders", "above"] with⟨p,i,l,d,ds,N,rfl,⟨as,hp,nd⟩,ed,lv,ll,q⟩;let⟨_,qz⟩:=U;show⟨_,(ax (sv 2 (bf bX))
  (ax (sv 3 (px aF (px aK '0' '1') (gi qz)))
  (ax (AK vE (tc jc '3' (dJ dL ao)) (ax (cI (ap '2' '3'))
  (aA (sv 3 (px aF (px aK '0' '3') (gi qz))))))
  (aA (aH '2'))))),?_⟩
 show⟨aT,λL hL=>?_⟩;let s1:=ay hL (.lst []);let rm:=MU lv ed;let⟨a,ea,na⟩:=nd.get ed;let⟨m',s',ha,_⟩:=na.ex;show¬⟨p,_,_,_,O,O,ag (s1 _ _ hp),aX ea,a,_,_,_,O,O,aC (s1 _ _ ha),O,λm σ H'=>Same H H'/\∃(pre:TN) (ab:Int),σ=[!.ref p,!.int i,!.ref L,!.int ab]/\H' L=!.lst ⇑pre/\E9 ds ab m/\pre++iQ ds m ab=iQ ds l d.e,⟨l,s1,[],_,O,ar,rm,O⟩,?_⟩;ext m σ H' ⟨s2,pre,ab,rfl,hl,rm,eq⟩;show¬⟨O,_,O,?_⟩;rcases rm with⟨rfl,rfl⟩ | ⟨j,k',rfl,lj,rfl⟩
 .rw[qR (O:V.int (-1)=V.int (-1))];show bj ⟨_,O,?_⟩;rw[iQ,rZ]at eq;subst eq;show q L H' hL s2 hl
 .rw[qV (λz=>by have:=V.int.inj z;omega:¬V.int (j:Int)=V.int (-1))];show bK ⟨λae gM=>Same H gM/\∃(ab:Int),ae=[!.ref p,!.int i,!.ref L,!.int ab]/\gM L=!.lst ⇑(pre++[(j:Int)])/\E9 ds ab k'/\(pre++[(j:Int)])++iQ ds k' ab=iQ ds l d.e,?_,?_⟩
  .ext ae gM ⟨s3,ab,rfl,h3,rm,eq'⟩;show⟨k',xB _,s3,pre++[(j:Int)],ab,O,h3,rm,eq'⟩
  .let⟨d2,IL⟩:=lj.nd;let rm2:=MU lj IL;let⟨a2,ea2,na2⟩:=nd.get IL;let⟨m3,s3,ha2,_⟩:=na2.ex;let pl:pre⁻¹<=999:=by have:=xH List.length eq;rw[qJ,Bv,Bv]at this;omega
   let s4:Same H (af H' L (.lst (⇑pre++[.int (j:Int)]))):=iq s2 hL;show-⟨.inl ⟨O,_,ag hl⟩,_,O,L,_,_,O,O,hl,aW (by rw[qA];omega),_,O,_,O,p,_,_,_,O,O,ag (s4 _ _ hp),aX ea2,a2,_,_,_,O,O,aC (s4 _ _ ha2),O,?_⟩;show⟨s4,_,O,by rw[ar];simp,rm2,by rw[X' IL]at eq;rw[<-eq];simp⟩
def qdM(F:Fu K "level_of" Rm f fd)(T:Bn mg)(qdN:⋯ 1 "elders_of" ["book", "node"] Fa):(~~~0) 2 f fd ["book", "node"] Fb:=by
 rcases F.go ["book", "node"] with⟨p,i,l,ds,N,rfl,B,lv,ll,q⟩;let⟨d,ed⟩:=lv.nd;show⟨_,(aA (aH (ln T.len (cF qdN hr (a2 '0' '1'))))),_,O,_,O,p,i,l,d,ds,N,O,B,ed,lv,ll,λL H' hL s1 h1=>?_⟩;show⟨L,_,O,.inl (ag h1),?_⟩;rw[qA,Bv];show q H' s1
end K33
namespace L2
open PyProof.Rows
end L2
namespace HT
open PyProof.Rows
end HT
namespace L2
open PySem.Calls PyProof.Rows PySem.W
def Un.less(k:∀b o,h.get? b=!o->h1.get? b=!o)(hL:h.objs.size<=L)(u:Un (L::fs) [] H H' h1 h'):Un fs [] H H' h h':=by
 let ne:∀{b:Addr} {o:Obj},h.get? b=!o->b≠L:=λe z=>by
  have:=qK e;rw[z]at this;show qT this (xI hL)
 show⟨λb o e n hb he=>u.keep b o (k b o e) n (λz=>?_) he,λb o e n hb he=>u.slot b o (k b o e) n (qS _ hb) he,λb o e n he=>u.free b o (k b o e) n he,λb o e he=>u.there b o (k b o e) he,u.tups,u.frzs,u.tbls⟩;rcases qM.mp z with z | z
 .show ne e z
 .show hb z
def nH(c:Addr)(qual:Str):HO:=.ext λh=>h.CodeRec (.ref c) qual
section
variable{P:Program}{w:World}{K:W.Frag}{mg:TJ}{base:Heap}{A:Around}{outer:List Env}{s s':Shared}{H H':Hp}{h h':Heap}{l I:Addr}{xs:List V}
def HOk.but(x:HOk P w H h)(hI:H I=none)(k:∀b u,b≠I->h.get? b=!u->h'.get? b=!u):HOk P w H h':=λa o e =>
 (x a o e).stay (λb u z q=>k b u (λy=>by
  rcases z with z | z
  .rw[<-z,y,hI]at e;cases e
  .rw[y,hI]at z;cases z) q) (λ_ q=>q) λ_ _ q=>q
def HOk.reT(x:HOk P w H h)(hl:H l=none)(new:∀H2:Hp,ObjOk P w H2 h l (.lst xs)):HOk P w (af H l (.lst xs)) h:=λa o e=>by
 by_cases z:a=l
 .rw[z,ar]at e;cases e;rw[z];show new _
 .rw[aM z]at e;show(x a o e).stay (λ_ _ _ q=>q) (λb q=>by rw[aM (λz=>by rw[z,hl]at q;cases q)];show q) λb ys q=>by rw[aM (λz=>by rw[z,hl]at q;cases q)];show q
def qdO(u:Un fs [] H H' h h'):∀(l:List Env),(∀b∈c8 l,b∈fs/\H b=none)->h.FunFrames base l->h'.FunFrames base l:=by
 intro l
 induction l with
 | nil=>intro _ _;trivial
 | cons env r ih =>
   intro hs hl
   let⟨hk,⟨L,o,hf,hn,ho,hd⟩,hr⟩:=hl
   let hL:=hs L (by unfold c8;rw[uF,hf];show rE)
   let⟨sl,e⟩:=u.slot L o ho hL.2 hL.1 ∅
   show⟨hk,⟨L,_,hf,hn,e,hd⟩,ih (λb hb=>hs b (by unfold c8;rw[uF,hf];show qS _ hb)) hr⟩
def Env0.un(e:Env0 P w K mg base A outer s H)(u:Un (c8 outer) [] H H' s.heap s'.heap)(hok:HOk P w H' s'.heap)(bare:AllBare s'.gens)(sz: ~~~s<= ~~~s'):Env0 P w K mg base A outer s' H':=by
 let nf:∀{b:Addr} {o:Obj},base.get? b=!o->b∉c8 outer:=λq hb=>by rw[(e.funs.mem hb).1]at q;cases q
 show⟨e.frames,e.mod,λb o q=>⟨u.keep b o (e.bs b o q).1 (e.bs b o q).2 (nf q) ∅,u.free b o (e.bs b o q).1 (e.bs b o q).2 ∅⟩,rK e.bsz sz,qdO u outer (λb hb=>⟨hb,e.frf b hb⟩) e.funs,λb hb=>?_,hok,bare⟩;let⟨_,o,ho,_⟩:=e.funs.mem hb;show u.free b o ho (e.frf b hb) ∅
end
def kx(H:Hp)(Pt:Addr)(pos:Pos)(qual:Str):=∃ps:Array Value,H Pt=!.tbl ps/\TriplesOk ps.toList/\(codeAmong pos ps.toList=none\/∃c',codeAmong pos ps.toList=!.ref c'/\H c'=!nH c' qual)
def qdP(h1 h2:Heap)(x:h1.CodeRec (.ref c) qual)(k:∀o,h1.get? c=!o->h2.get? c=!o):h2.CodeRec (.ref c) qual:=by
 let⟨c2,o,vs,t,e,g,r⟩:=x;cases e;show⟨c,o,vs,t,O,k _ g,r⟩
theorem Ro:∀(ps:TU),TriplesOk ps->codeAmong pos ps=none->TriplesOk (ps++[rawInt pos.line,rawInt pos.col,c])/\codeAmong pos (ps++[rawInt pos.line,rawInt pos.col,c])=!c
 | [],_,_=>⟨trivial,by simp[codeAmong,rawInt]⟩
 | .int a t :: .int b u :: v :: r, h, n => by
   let n':(if(a == (pos.line:Int) && b == (pos.col:Int))=true then !v else codeAmong pos r)=none:=n
   by_cases z:(a == (pos.line:Int) && b == (pos.col:Int))=true
   · rw[qX z]at n';cases n'
   · rw[qY z]at n'
     let⟨h1,h2⟩:=Ro r h n'
     show⟨h1,?_⟩
     show(if(a == (pos.line:Int) && b == (pos.col:Int))=true then !v else codeAmong pos (r++[rawInt pos.line,rawInt pos.col,c]))=!c
     rw[qY z]
     show h2
section
variable{X:Cx}{aa:TF}{s:Shared}{σ:St}{H:Hp}{c Pt:Addr}{params:Arguments}{body:Expr}{scope:Scope}{pos:Pos}{cl:List (Str×Addr)}{Q:TH}{E:TH}
def qdQ(I:Inv X aa σ H s)(C8:X.env.code=.ref c)(hC:codeHdIn X.K c Pt=true)(hPt:Pt≠mainGlobals)(tb:kx H Pt pos (X.env.qual ++ "<lambda>"))(hB:X.base.BuiltinsAt X.mg Pt)(eV:closureFor scope X.env=pure cl)(IM:defaultsOf params X.env=([],[]))(k:∀(f c':Addr) (fw:Value) (h':Heap) (tk:Nat) (H':Hp),Inv X aa σ H' {s with heap:=h',toks:=tk}->h'.get? f=!kla_obj "<lambda>" (X.env.qual ++ "<lambda>") params body scope cl ((X.mg "__name__").getD .none) c' fw-> ~~~s<=f->H f=none->H' f=none ->
   H' c'=!nH c' (X.env.qual ++ "<lambda>")->kx H' Pt pos (X.env.qual ++ "<lambda>")->(∀b,b≠Pt->∀o,H b=!o->H' b=!o)->Q (.ref f) {s with heap:=h',toks:=tk}) :
  wpAny (model X.prog X.w) X.A (eval (.Lambda params body scope pos) X.env) Q E s:=by
 let⟨ps,hT,ht,cs⟩:=tb;let eT:s.heap.get? Pt=!tabObj ps:=I.hok Pt _ hT;let bA:s.heap.BuiltinsAt X.mg Pt:=by
  let⟨bm,o,b1,b2,b3,b4,b5,r⟩:=hB;show⟨bm,o,b1,b2,b3,b4,I.bk _ _ b5,r⟩
 let hg:s.heap.Ns mainGlobals X.mg:=I.mod.glob.keeps I.bk;let C:=codeHd_of_K I.kIn hC;show kla_eval IM ?_;rcases cs with hn | ⟨c',hs,eO⟩
 .refine kla_makeFunction eV I.ok.glob hg C8 C eT ht hn (rV hPt) bA λc' fw h' tk hx nM aZ Rp Rq=>?_
  let⟨tm,cm⟩:=Ro (c:=.ref c') (pos:=pos) ps.toList ht hn;let cP:c'≠Pt:=λz=>by
   have:=qK eT;rw[<-z]at this;show qT this (xI nM)
  let nc:H c'=none:=I.hok.fresh nM;let kk:∀b o,b≠Pt->s.heap.get? b=!o->(h'.push (kla_obj "<lambda>" (X.env.qual ++ "<lambda>") params body scope cl ((X.mg "__name__").getD .none) c' fw)).get? b=!o:=λb o n e=>qF _ (hx b o n e)
  let sz: ~~~s<=h'.objs.size:=xD (yB nM aZ);let fr:=qQ h' (o:=kla_obj "<lambda>" (X.env.qual ++ "<lambda>") params body scope cl ((X.mg "__name__").getD .none) c' fw) O;let C9:∀{b:Addr} {o:HO},H b=!o->(∀qs,o≠.tbl qs)->b≠Pt:=λe n z=>by rw[z,hT]at e;cases e;show n _ O
  let pP:∀{b:Addr} {o:HO},H b=!o->b≠c':=λe z=>by rw[z,nc]at e;cases e
  let fc:h'.objs.size≠c':=yJ aZ;let fP:h'.objs.size≠Pt:=yJ (rB (qK eT) sz);let nF:H h'.objs.size=none:=I.hok.fresh sz;let H'f:af (af H Pt (.tbl (ps++#[rawInt pos.line,rawInt pos.col,.ref c']))) c' (nH c' (X.env.qual ++ "<lambda>")) h'.objs.size=none:=by rw[aM fc,aM fP];show nF
  let old:∀b,b≠Pt->∀o,H b=!o->af (af H Pt (.tbl (ps++#[rawInt pos.line,rawInt pos.col,.ref c']))) c' (nH c' (X.env.qual ++ "<lambda>")) b=!o:=λb n o e=>by rw[aM (pP e),aM n];show e
  show k h'.objs.size c' fw _ tk _ (I.un (t':=tk) ⟨λb o e n hb he=>kk b o (λz=>by rw[z,hT]at n;cases n) e,λb o e n hb he=>⟨o.slots,kk b o (λz=>by rw[z,hT]at n;cases n) e⟩,λb o e n he=>?_,λb o e he=>?_,λb ys e=>old b (C9 e λ_ z=>nomatch z) _ e,λb o z e=>old b (C9 e λ_ z=>nomatch z) _ e,λb qs e=>?_⟩ λa o e=>?_) fr sz nF H'f ar ⟨_,by rw[aM (rV cP),ar],‹tm›,.inr ⟨c',‹cm›,ar⟩⟩ old
  .rw[aM (λz=>by have:=qK e;rw[z]at this;show qT this (xI nM)),aM (λz=>by rw[z,hT]at n;cases n)];show n
  .by_cases z:b=Pt
   .rw[z];show⟨_,qF _ Rq⟩
   .show⟨o,kk b o z e⟩
  .by_cases z:b=Pt
   .rw[z,hT]at e;cases e;rw[z];show⟨_,by rw[aM (rV cP),ar]⟩
   .show⟨#[],by rw[old b z _ e];simp⟩
  .by_cases za:a=c'
   .rw[za,ar]at e;cases e;let⟨c2,oc,vs,t,e2,g2,r2⟩:=id Rp;cases e2;rw[za];show⟨Rp.push _,⟨_,qF _ g2⟩,qdP⟩
   .rw[aM za]at e
    by_cases zp:a=Pt
    .rw[zp,ar]at e;cases e;rw[zp];show qF _ Rq
    .rw[aM zp]at e;show(I.hok a o e).stay (λb u z q=>kk b u (λy=>?_) q) (λb q=>old b (C9 q λ_ z=>nomatch z) _ q) λb ys q=>old b (C9 q λ_ z=>nomatch z) _ q
     rcases z with z | z
     .show zp (z.symm.trans y)
     .rw[y,hT]at z;cases z
 .show kla_makeFunctionHit eV I.ok.glob hg C8 C eT ht hs bA λfw h' tk hx hsz=>?_
  let fr:=qQ h' (o:=kla_obj "<lambda>" (X.env.qual ++ "<lambda>") params body scope cl ((X.mg "__name__").getD .none) c' fw) O;show k h'.objs.size c' fw _ tk H (I.kept (t':=tk) λb o e=>qF _ (hx b o e)) fr hsz (I.hok.fresh hsz) (I.hok.fresh hsz) eO ⟨ps,hT,ht,.inr ⟨c',hs,eO⟩⟩ λb _ o e=>e
end
end L2
namespace Stb
open PyProof.Rows Tim
abbrev kk(x:Keyed):Int:=numOf x.1
abbrev nn(x:Keyed):Int:=numOf x.2
def Lx(x y:Keyed):Prop:=kk x<kk y\/(kk x=kk y/\nn x<nn y)
def Lx.le(h:Lx x y):kk x<=kk y:=h.elim v5 λq=>Int.le_of_eq q.1
def Rr(xs:Array Keyed)(i:Nat):K xs i=kk (T xs i):=by
 unfold K T;cases xs[i]?<;>rfl
def Sto(xs:Array Keyed)(k:Nat):=∀i j,i<j->j<k->Lx (T xs i) (T xs j)
def Ag(xs:Array Keyed)(k:Nat):=∀i j,i<j->j<k->Lx (T xs j) (T xs i)
def Sto.le{k i j:Nat}(h:Sto xs k)(eJ:i<=j)(hj:j<k):kk (T xs i)<=kk (T xs j):=by
 rcases Nat.lt_or_eq_of_le eJ with c | rfl
 .show(h i j c hj).le
 .show xF _
structure Dv(xs:Array Keyed)(p x:Nat):Prop where
 lt:p<x
 fa:Ag xs p
 mi:∀i j,i<p->p<=j->j<x->kk (T xs j)<kk (T xs i)
 al:∀i j,p<=i->i<j->j<x->kk (T xs i)=kk (T xs j)/\nn (T xs i)<nn (T xs j)
structure Bs(a₀:Array Keyed)(m:Nat)(st:SortSt):Prop where
 b:SBase a₀ st
 out:∀t,m<=t->t<a₀.size->nn (T (arrOf st) t)=t
 lo:∀t,t<m->nn (T (arrOf st) t)<m
section
variable{prog:Program}{w:World}{A:Around}{E:TH}{s:Shared}{a₀:Array Keyed}{st:SortSt}{xs:Array Keyed}{m n p x:Nat}
def Bs.up(h:Bs a₀ m st)(hm:m<a₀.size):Bs a₀ (m+1) st:=⟨h.b,λt a b=>h.out t (Nat.le_of_succ_le a) b,λt a=>by
 rcases yE.mp a with c | rfl
 .have:=h.lo t c;omega
 .rw[h.out t (qG _) hm];omega⟩
def Bs.mir(h:Bs a₀ m st){i j:Nat}(hj:j<=m)(hm:m<=a₀.size):Bs a₀ m (setArr st (mirror (arrOf st) i j ((j-i) / 2))):=by
 let sz:j<=(arrOf st).size:=by rw[h.b.size];show rK hj hm
 show⟨h.b.setArr (mirror_perm _ _ _ _),λt a b=>?_,λt a=>?_⟩
 .show nn (T (mirror (arrOf st) i j ((j-i) / 2)) t)=t;rw[j7 sz,qY λq=>xI (rK hj a) q.2];show h.out t a b
 .show nn (T (mirror (arrOf st) i j ((j-i) / 2)) t)<m;rw[j7 sz]
  split
  .show h.lo _ ()
  .show h.lo _ a
def Ah{i j:Nat}{Q:Option Bool->SortSt->Prop}(h0:IntKeys a₀)(hB:Bs a₀ m st)(hi:i<a₀.size)(hj:j<=i\/j<a₀.size)(h1:kk (T (arrOf st) i)<kk (T (arrOf st) j)->Q (!true) st)(h2:kk (T (arrOf st) j)<=kk (T (arrOf st) i)->Q (!false) st):wpS (model prog w) A E s (ltAt' i j) Q st:=by
 show wpS_ltK hB.b h0 hi (hj.elim (λq=>yB q hi) id) ?_;rw[Rr,Rr]
 by_cases h:kk (T (arrOf st) i)<kk (T (arrOf st) j)
 .rw[qR h];show h1 h
 .rw[qV h];show h2 (Int.not_lt.mp h)
def Dv.least(h:Dv xs p x){i:Nat}(hi:i<x):kk (T xs (x-1))<=kk (T xs i):=by
 by_cases hp:i<p
 .show v5 (h.mi i (x-1) hp (vA h.lt) ())
 .by_cases e:i=x-1
  .rw[e];show xF _
  .rw[(h.al i (x-1) (xQ hp) () ()).1];show xF _
def Dv.fal(h:Dv xs p x)(hx:x<=xs.size):Ag (mirror xs p x ((x-p) / 2)) x:=by
 intro i j eJ hj;rw[j7 hx,j7 hx]
 by_cases ci:p<=i
 .rw[qX ⟨rK ci (xD eJ),hj⟩,qX ⟨ci,uH eJ hj⟩];show .inr (h.al _ _ () () ())
 .by_cases cj:p<=j
  .rw[qX ⟨cj,hj⟩,qY λq=>ci q.1];show .inl (h.mi i _ (Nat.lt_of_not_le ci) () ())
  .rw[qY λq=>cj q.1,qY λq=>ci q.1];show h.fa i j eJ (Nat.lt_of_not_le cj)
def Dv.fal1(h:Dv xs p x)(e:x<=p+1):Ag xs x:=λi j eJ hj=>by
 by_cases c:j<p
 .show h.fa i j eJ c
 .show .inl (h.mi i j () (xQ c) hj)
def Da(h:Ag xs x)(hl:∀i,i<x->kk (T xs x)<kk (T xs i)):Dv xs x (x+1) :=
 ⟨xB _,h,λi j a b c=>by
  obtain rfl:j=x:=vF (vK c) b;show hl i a,λi j a b c=>qT c ()⟩
def Rs{a:Nat}{Q:AscSt->SortSt->Prop}(h0:IntKeys a₀)(ha:1<=a)(Rt:a<=a₀.size)(hB:Bs a₀ a st)(hs:Sto (arrOf st) a)(h:∀n,a<=n->n<=a₀.size->Bs a₀ n st->Sto (arrOf st) n->(n=a₀.size\/kk (T (arrOf st) n)<kk (T (arrOf st) (n-1)))->Q (none,n) st):wpS (model prog w) A E s (ascLoop a a₀.size) Q st:=by
 unfold ascLoop;show wpS_forRange (I:=λx c aQ=>aQ=st/\c=(none,x)/\Bs a₀ x st/\Sto (arrOf st) x) ?step ?fin ⟨O,O,hB,hs⟩
 case fin =>
  ext c aQ ⟨rfl,rfl,bE,bu⟩;rw[Nat.max_eq_right Rt]at bE bu⊢;show h _ Rt (qG _) bE bu (.inl O)
 case step =>
  ext x c aQ IN iG ⟨rfl,rfl,bE,bu⟩;dsimp only;show wpS_bind (Ah h0 bE iG (.inl (Nat.sub_le _ _)) (λhl=>?_) λhl=>?_)
  .show wpS_pure (h x IN (xD iG) bE bu (.inr hl))
  .show wpS_pure ⟨O,O,bE.up iG,λi j eJ hj=>?_⟩;rcases yE.mp hj with c | rfl
   .show bu i j eJ c
   .let e1:=bE.out j (qG _) iG;let e2:=bE.lo i eJ;let le:=xW (bu.le (vA eJ) ()) hl;unfold Lx;omega
def Ru{Q:Option Nat->SortSt->Prop}(h0:IntKeys a₀)(h1:1<=n)(nN:n<=a₀.size)(hB:Bs a₀ n st)(hs:Ag (arrOf st) n)(h:∀m aQ,Bs a₀ m aQ->1<=m->m<=a₀.size->Sto (arrOf aQ) m->Q (!m) aQ):wpS (model prog w) A E s (tail3 n a₀.size) Q st:=by
 unfold tail3;show wpS_bind (wpS_reverse ?_);show wpS_bind (Rs h0 h1 nN (hB.mir (qG _) nN) (λi j eJ hj=>?_) λm a b c d _=>wpS_pure (h m _ c (rK h1 a) b d));show Lx (T (mirror (arrOf st) 0 n ((n-0) / 2)) i) (T (mirror (arrOf st) 0 n ((n-0) / 2)) j);let sz:n<=(arrOf st).size:=by rw[hB.b.size];show nN
 rw[j7 sz,j7 sz,qX ⟨rO _,uH eJ hj⟩,qX ⟨rO _,hj⟩];show hs _ _ () ()
def qdR{Q:DescSt->SortSt->Prop}(h0:IntKeys a₀)(nN:n+1<=a₀.size)(hB:Bs a₀ (n+1) st)(hs:Dv (arrOf st) n (n+1))(h:∀m q aQ,Bs a₀ m aQ->n+1<=m->m<=a₀.size->q+1<=m->Dv (arrOf aQ) (m-(q+1)) m->Q (none,m,q) aQ):wpS (model prog w) A E s (descLoop (n+1) a₀.size) Q st:=by
 unfold descLoop;show wpS_forRange (I:=λx c aQ=>∃q,c=(none,x,q)/\Bs a₀ x aQ/\q+1<=x/\Dv (arrOf aQ) (x-(q+1)) x) ?step ?fin ⟨0,O,hB,yO (rO _),hs⟩
 case fin =>
  ext c aQ ⟨q,rfl,bE,hq,hd⟩;rw[Nat.max_eq_right nN]at bE hq hd⊢;show h _ q aQ bE nN (qG _) hq hd
 case step =>
  ext x c aQ IN iG ⟨q,rfl,bE,hq,hd⟩;dsimp only;let IP:=xD iG;let sz:x<=(arrOf aQ).size:=by rw[bE.b.size];show IP
  show wpS_bind (Ah h0 bE iG (.inl (Nat.sub_le _ _)) (λhl=>?_) λhl=>?_)
  .dsimp only;rw[qX O]
   by_cases Ai:q>0
   .rw[qX Ai];show wpS_bind (wpS_reverse (wpS_pure ⟨0,O,(bE.mir (qG _) IP).up iG,yO (rO _),?_⟩));show Dv (mirror (arrOf aQ) (x-(q+1)) x ((x-(x-(q+1))) / 2)) x (x+1);show Da (hd.fal sz) λi hi=>?_
    rw[j7 sz,j7 sz,qY λz=>rQ _ z.2]
    split
    .show uZ hl (hd.least ())
    .show uZ hl (hd.least hi)
   .rw[qY Ai];show wpS_pure ⟨0,O,bE.up iG,yO (rO _),Da (hd.fal1 ()) λi hi=>uZ hl (hd.least hi)⟩
  .dsimp only;rw[qY rA];show wpS_bind (Ah h0 bE (yB (Nat.sub_le _ _) iG) (.inr iG) (λhg=>?_) λhg=>?_)
   .show wpS_pure (h x q aQ bE IN IP hq hd)
   .have e:=Int.le_antisymm hg hl;show wpS_pure ⟨q+1,O,bE.up iG,yO hq,?_⟩;rw[Nat.succ_sub_succ];show⟨xT hd.lt,hd.fa,λi j a b c=>?_,λi j a b c=>?_⟩
    .rcases yE.mp c with cj | rfl
     .show hd.mi i j a b cj
     .rw[e];show hd.mi i _ a (vA hd.lt) ()
    .rcases yE.mp c with cj | rfl
     .show hd.al i j a b cj
     .rw[bE.out j (qG _) iG,e];show⟨?_,uZ (bE.lo i b) (xF _)⟩
      by_cases ei:i=j-1
      .rw[ei]
      .show(hd.al i (j-1) a () ()).1
def Rv{Q:Option Nat->SortSt->Prop}(h0:IntKeys a₀)(nN:n+1<=a₀.size)(hB:Bs a₀ (n+1) st)(hs:Dv (arrOf st) n (n+1))(h:∀m aQ,Bs a₀ m aQ->1<=m->m<=a₀.size->Sto (arrOf aQ) m->Q (!m) aQ):wpS (model prog w) A E s (descPart n a₀.size) Q st:=by
 unfold descPart;show wpS_bind (wpS_lift (wpAny_rule ⟨O,?_⟩));show wpS_bind (qdR h0 nN hB hs λm q aQ bE IQ pA hq hd=>?_);dsimp only;let m1:1<=m:=rK (yO (rO _)) IQ
 by_cases Ai:q>0
 .rw[qX Ai];show wpS_bind (wpS_reverse (Ru h0 m1 pA (bE.mir (qG _) pA) (hd.fal (by rw[bE.b.size];show pA)) h))
 .rw[qY Ai];show Ru h0 m1 pA bE (hd.fal1 ()) h
def qdS{Q:Option Nat->SortSt->Prop}(h0:IntKeys a₀)(h1:1<=a₀.size)(hB:Bs a₀ 1 st)(h:∀m aQ,Bs a₀ m aQ->1<=m->m<=a₀.size->Sto (arrOf aQ) m->Q (!m) aQ):wpS (model prog w) A E s (countRun' 0 a₀.size) Q st:=by
 rw[countRun0_eq];show wpS_bind (Rs h0 (qG 1) h1 hB (λi j a b=>qT b ()) λn Aj sR sV Ak hor=>?_);dsimp only
 by_cases Db:n=a₀.size
 .rw[qX ‹Db›];show wpS_pure (h n st sV Aj sR Ak)
 .rw[qY ‹Db›];let aZ:=hor.resolve_left Db;let sW:=Nat.lt_of_le_of_ne sR Db
  by_cases IR:n>1
  .rw[qX IR];show wpS_bind (Ah h0 sV h1 (.inr (yB (Nat.sub_le _ _) sW)) (λhr=>?_) λhr=>?_)
   .show wpS_pure (h n st sV Aj sR Ak)
   .let sz:n<=(arrOf st).size:=by rw[sV.b.size];show sR
    let n1:n-1<n:=Nat.sub_lt Aj Nat.one_pos;let eq:∀i,i<n->kk (T (arrOf st) i)=kk (T (arrOf st) (n-1)):=λi hi=>Int.le_antisymm (Ak.le (vA hi) n1) (xW hr (Ak.le (rO _) hi))
    let dv:Dv (arrOf st) 0 n:=⟨Aj,λi j _ b=>qT b (xS _),λi j a=>qT a (xS _),λi j _ a b=>by
     let e:kk (T (arrOf st) i)=kk (T (arrOf st) j):=(eq i (uH a b)).trans (eq j b).symm;show⟨e,(Ak i j a b).elim (λq=>?_) (·.2)⟩;rw[e]at q;show qT q (Int.lt_irrefl _)⟩
    show wpS_bind (wpS_reverse (Rv h0 sW ((sV.up sW).mir (yR _) sW) ?_ h));show Dv (mirror (arrOf st) 0 n ((n-0) / 2)) n (n+1);show Da (dv.fal sz) λi hi=>?_
    rw[j7 sz,j7 sz,qY λz=>rQ _ z.2,qX ⟨rO _,hi⟩,eq (0+n-1-i) ()];show aZ
  .rw[qY IR];obtain rfl:n=1:=vF (xQ IR) Aj;show Rv h0 sW (sV.up sW) (Da (λi j a b=>qT b ()) λi hi=>?_) h;obtain rfl:=Nat.lt_one_iff.mp hi;show aZ
def qdT{ok:Nat}{Q:Bool->SortSt->Prop}(h0:IntKeys a₀)(h1:1<=ok)(hok:ok<=a₀.size)(hB:Bs a₀ ok st)(hs:Sto (arrOf st) ok)(h:∀ aQ,SBase a₀ aQ->Sto (arrOf aQ) a₀.size->Q true aQ):wpS (model prog w) A E s (binarySort' 0 a₀.size ok) Q st:=by
 rw [binarySort'_eq,Nat.max_eq_left h1]
 simp only [Nat.zero_add]
 show wpS_bind (wpS_mono (wpS_forRange (I:=λk c aQ=>c=(none,Unit.unit)/\Bs a₀ k aQ/\Sto (arrOf aQ) k) (Q:=λc aQ=>c=(none,Unit.unit)/\SBase a₀ aQ/\Sto (arrOf aQ) a₀.size) ?step ?fin ⟨O,hB,hs⟩) ?post)
 case post =>
  ext c aQ ⟨rfl,bE,bu⟩
  show wpS_pure (h aQ bE bu)
 case fin =>
  ext c aQ ⟨hc,bE,bu⟩
  rw [Nat.max_eq_right hok] at bu
  show ⟨hc,bE.b,bu⟩
 case step =>
  ext k c aQ hak hk ⟨rfl,bE,bu⟩
  show wpS_bind (wpS_mono (wpS_forRange (I:=λy c cT=>cT=aQ/\∃ l r,c=(none,l,r)/\l<=r/\r<=k/\r - l<=k - y/\(∀ i,i < l->kk (T (arrOf aQ) i)<=kk (T (arrOf aQ) k))/\(∀ i,r<=i->i < k->kk (T (arrOf aQ) k) < kk (T (arrOf aQ) i)))
   (Q:=λc cT=>cT=aQ/\∃ l r,c=(none,l,r)/\l<=k/\(∀ i,i < l->kk (T (arrOf aQ) i)<=kk (T (arrOf aQ) k))/\(∀ i,l<=i->i < k->kk (T (arrOf aQ) k) < kk (T (arrOf aQ) i))) ?istep ?ifin ⟨O,0,k,O,rO _,qG _,qG _,λi hi=>qT hi (xS _),λi a b=>qT b (xI a)⟩) ?ipost)
  case ifin =>
   ext c cT ⟨rfl,l,r,rfl,Rw,Al,hm,og,tj⟩
   obtain rfl:l=r:=()
   show ⟨O,l,l,O,Al,og,tj⟩
  case istep =>
   ext y c cT _ hyk ⟨rfl,l,r,rfl,Rw,Al,hm,og,tj⟩
   dsimp only
   by_cases nM:l ≥ r
   .rw [qX nM]
    obtain rfl:=vF Rw nM
    show wpS_pure ⟨O,l,l,O,Al,og,tj⟩
   .rw [qY nM]
    let mr:(l+r) / 2 < r:=()
    let mk:=rB mr Al
    let lm:l<=(l+r) / 2:=()
    show wpS_bind (Ah h0 bE hk (.inl (xD mk)) (λhl=>?_) λhl=>?_)
    .show wpS_pure ⟨O,l,(l+r) / 2,O,lm,xD mk,(),og,λi a b=>uZ hl (bu.le a b)⟩
    .show wpS_pure ⟨O,(l+r) / 2+1,r,O,mr,Al,(),λi a=>xW (bu.le (vK a) mk) hl,tj⟩
  case ipost =>
   ext c cT ⟨rfl,l,r,rfl,nO,og,tj⟩
   show wpS _ _ _ _ (do moveDown' k l; pure (ForInStep.yield (none,Unit.unit))) _ _
   rw [moveDown'_eq]
   let kY:k < (arrOf cT).size:=by rw [bE.b.size]; show hk
   let b1:T (bubble (arrOf cT) k (k - l)) l=T (arrOf cT) k:=by rw [GD kY (Nat.sub_le _ _),qX (Nat.sub_sub_self nO).symm]
   let b2:∀ t,l<=t->t < k->T (bubble (arrOf cT) k (k - l)) (t+1)=T (arrOf cT) t:=λt a b=>by
    rw [GD kY (Nat.sub_le _ _),Nat.sub_sub_self nO,qY (),qX ⟨Nat.lt_succ_of_le a,b⟩]
    rfl
   let b3:∀ t,t < l\/k < t->T (bubble (arrOf cT) k (k - l)) t=T (arrOf cT) t:=λt a=>by
    rw [GD kY (Nat.sub_le _ _),Nat.sub_sub_self nO,qY (),qY ()]
   let nk:=bE.out k (qG _) hk
   let all:∀ {M:Nat->Keyed->Prop},(∀ t,t < l->M t (T (arrOf cT) t))->M l (T (arrOf cT) k)->(∀ t,l<=t->t < k->M (t+1) (T (arrOf cT) t))->∀ t,t < k+1->M t (T (bubble (arrOf cT) k (k - l)) t):=λ{M} m1 m2 m3 t ht=>by
    rcases Nat.lt_trichotomy t l with c | rfl | c
    .rw [b3 t (.inl c)]; show m1 t c
    .rw [b1]; show m2
    .obtain ⟨u,rfl⟩:∃ u,t=u+1:=⟨t - 1,()⟩
     rw [b2 u (vK c) (vL ht)]
     show m3 u (vK c) (vL ht)
   show wpS_bind (wpS_modify (wpS_pure ⟨O,⟨bE.b.setArr (bubble_perm _ _ _),λt a b=>?_,all (M:=λ_ x=>nn x < ((k+1:Nat):Int)) ?_ ?_ ?_⟩,λi j eJ hj=>all (M:=λj x=>i < j->Lx (T (bubble (arrOf cT) k (k - l)) i) x) ?_ ?_ ?_ j hj eJ⟩))
   .show nn (T (bubble (arrOf cT) k (k - l)) t)=t
    rw [b3 t (.inr a)]
    show bE.out t (Nat.le_of_succ_le a) b
   .show λt a=>Int.lt_trans (bE.lo t (rB a nO)) ()
   .rw [nk]; omega
   .show λt _ a=>Int.lt_trans (bE.lo t a) ()
   .intro t a hi
    rw [b3 i (.inl (uH hi a))]
    show bu i t hi (rB a nO)
   .intro hi
    rw [b3 i (.inl hi)]
    let a:=og i hi
    let b:=bE.lo i (rB hi nO)
    unfold Lx
    omega
   .intro t a b hi
    show all (M:=λi x=>i < t+1->Lx x (T (arrOf cT) t)) (λu c _=>bu u t (rB c a) b) (λ_=>.inl (tj t a b)) (λu c d e=>bu u t (vL e) b) i (uH eJ hj) hi
def IS(a₀:Array Keyed)(aQ:SortSt):=(arrOf aQ).Perm a₀/\failedOf aQ=none/\pendingOf aQ=#[(0,a₀.size,0)]/\Sto (arrOf aQ) a₀.size
def wp_stb{Q:Unit->SortSt->Prop}(h0:IntKeys a₀)(hp:∀t,t<a₀.size->nn (T a₀ t)=t)(ha:arrOf st=a₀)(hB:SBase a₀ st)(h2:2<=a₀.size)(fH:a₀.size<64)(h:∀aQ,(arrOf aQ).Perm a₀->failedOf aQ=none->Sto (arrOf aQ) a₀.size->Q Unit.unit aQ):wpS (model prog w) A E s sortRuns' Q st:=by
 let h1:1<=a₀.size:=Nat.le_of_succ_le h2;let B1:Bs a₀ 1 st:=⟨hB,λt _ b=>by rw[ha];show hp t b,λt a=>by rw[ha,hp t (rB a h1)];omega⟩;rw[sortRuns'_eq];show wpS_bind (wpS_get ?_);dsimp only;let hmr:minRun' a₀.size a₀.size 0=a₀.size:=by
  obtain⟨f,hf⟩:∃f,a₀.size=f+1:=⟨a₀.size-1,()⟩;have:minRun' (f+1) a₀.size 0=a₀.size:=by rw[minRun'_succ,qX fH];rfl
  rwa [<-hf]at this
 simp only[hB.size,hmr];let fin:∀{aQ:SortSt},SBase a₀ aQ->Sto (arrOf aQ) a₀.size->IS a₀ (setPending aQ ((pendingOf aQ).push (0,a₀.size,0))):=λbE hs=>⟨bE.perm,bE.failed,by show(pendingOf _).push _=_;rw[bE.pend];rfl,hs⟩
 show wpS_bind (wpS_mono (wpS_forRange (I:=λy c aQ=>(y=0/\c=(none,0)/\aQ=st)\/(1<=y/\c=(none,a₀.size)/\IS a₀ aQ)) (Q:=λc aQ=>c=(none,a₀.size)/\IS a₀ aQ) ?step ?fin (.inl ⟨O,O,O⟩)) ?post)
 case fin =>
  ext c aQ (⟨hx,_,_⟩ | ⟨_,hc,hD⟩)
  .omega
  .show⟨hc,hD⟩
 case step =>
  ext y c aQ _ hx (⟨rfl,rfl,rfl⟩ | ⟨hx1,rfl,hD⟩)
  .dsimp only;rw[qY (Nat.not_le_of_lt h1)];simp only[Nat.sub_zero,Nat.min_self,Nat.zero_add];show wpS_bind (qdS h0 h1 B1 λm gq IT IQ pA fA=>?_);dsimp only;let Rx:∀{kG:SortSt},SBase a₀ kG->Sto (arrOf kG) a₀.size->(pendingOf kG).back?=none:=λDc _=>by rw[Dc.pend];rfl
   by_cases aZ:m<a₀.size
   .rw[qX aZ];show wpS_bind (wpS_lift (wpAny_rule ⟨O,?_⟩));show wpS_bind (qdT h0 IQ pA IT fA λkG Dc Ry=>?_);simp only[Bool.not_true,Bool.false_eq_true,if_false];show wpS_bind (wpS_get ?_);rw[Rx Dc Ry];show wpS_bind (wpS_modify (wpS_pure (.inr ⟨qG _,O,fin Dc Ry⟩)))
   .rw[qY aZ];obtain rfl:m=a₀.size:=vF pA (xQ aZ);show wpS_bind (wpS_get ?_);rw[Rx IT.b fA];show wpS_bind (wpS_modify (wpS_pure (.inr ⟨qG _,O,fin IT.b fA⟩)))
  .dsimp only;rw[qX (qG _)];show wpS_pure ⟨O,hD⟩
 case post =>
  ext c aQ ⟨rfl,hD⟩;dsimp only;show wpS_bind (wpS_mono (wpS_forRange (I:=λ_ c cT=>cT=aQ/\c=(none,Unit.unit)) (Q:=λc cT=>cT=aQ/\c=(none,Unit.unit)) ?_ (λ_ _ hh=>hh) ⟨O,O⟩) ?_)
  .ext y c cT _ _ ⟨rfl,rfl⟩;show wpS_bind (wpS_get ?_);rw[qX (by rw[hD.2.2.1];show qG 1)];show wpS_pure ⟨O,O⟩
  .ext c cT ⟨rfl,rfl⟩;show wpS_pure (h _ hD.1 hD.2.1 hD.2.2.2)
end
end Stb
namespace L2
open PyProof.Rows
def pB(kz:TN)(vs out:TU):=∃ps:List (Int×Value),ps.Perm (kz.zip vs)/\out=ps.map Prod.snd/\ps.Pairwise λp q=>p.1<q.1\/(p.1=q.1/\numOf p.2<numOf q.2)
def qdU{a6:Array Value}{vs:TU}{kz:TN}(hk:IntsAre a6.toList kz){xs:Array Keyed}(hp:xs.Perm (a6.zip vs.toArray))(hs:Stb.Sto xs xs.size):pB kz vs (xs.map (·.2)).toList:=by
 show⟨xs.toList.map λp=>(numOf p.1,p.2),?_,by rw[Array.toList_map,xO];rfl,?_⟩
 .let hl:=Array.perm_iff_toList_perm.mp hp;rw[ksk_zip]at hl;rw[<-hk.nums,List.zip_map_left];show hl.map _
 .rw[List.pairwise_iff_getElem];intro i j hi hj eJ;rw[qA,xK]at hi hj;let q:=hs i j eJ hj;let e:∀{i:Nat} (h:i<xs.size),Tim.T xs i=xs[i]:=λh=>qZ ((Tim.T_at h).symm.trans (yP h))
  rw[e hi,e hj]at q;simpa[Stb.Lx]using q
structure Am{Γ:Type}(prog:Program)(w:World)(A:Around)(f:Value)(a kS:Addr)(vs:TU)(kz:TN)(G:Γ->Shared->Prop):Prop where
 ne:kS≠a
 pl:∀(i:Nat) (x:Value),vs[i]?=!x->∃t,x=Value.int (i:Nat) t
 put:∀(γ:Γ) (s:Shared) (b:Addr) (fn:Array Value->Array Value),b=a\/b=kS->G γ s->G γ {s with heap:=s.heap.update b (Obj.mapSeq fn)}
 turn:∀(i:Nat) (v:Value) (k:Int),vs[i]?=!v->kz[i]?=!k->∀(γ:Γ) (s:Shared) (oA oS:Obj),G γ s->s.heap.get? a=!oA->s.heap.get? kS=!oS ->
  wpAny (model prog w) A (call f [v]) (λx s'=>∃γ' t,x=.int k t/\G γ' s'/\s'.heap.get? a=!oA/\s'.heap.get? kS=!oS) (λ_ _=>False) s
section
variable{prog:Program}{w:World}{A:Around}{f:Value}{a kS:Addr}{vs:TU}{kz:TN}{Γ:Type}{G:Γ->Shared->Prop}{P:Fin->Shared->Prop}{E:TH}{e1:Nat}
def Rz(T:Am prog w A f a kS vs kz G){γ:Γ}{s:Shared}{a6:Array Value}{e:Nat}{st:SortSt}(g:G γ s)(ga:s.heap.get? a=!seqObj "list" #[] e1)(gk:s.heap.get? kS=!seqObj "list" a6 e)(hk:IntsAre a6.toList kz)(bT:kz⁻¹=vs⁻¹)(fH:vs⁻¹<64)(hp:(arrOf st).Perm (a6.zip vs.toArray))(hs:Stb.Sto (arrOf st) (arrOf st).size)(hf:failedOf st=none)(h:∀γ' s' out c,G γ' s'->s'.heap.get? a=!seqObj "list" out c->pB kz vs out.toList->P (.done (.ret .none)) s') :
  wpAny (model prog w) A (ksk_tail a false e1 (.ref kS) st) P E s:=by
 let z1:a6.size=vs⁻¹:=by
  have:=hk⁻¹;rw[xK]at this;omega
 let z2:(arrOf st).size=vs⁻¹:=by rw[hp.size_eq,Array.size_zip,z1,rC,Nat.min_self]
 let line:(64:Nat)<=sizeLine:={}
 unfold ksk_tail;dsimp only;let g1:=T.put γ s kS (λ_=>(#[]:Array Value)) (.inr O) g;let sb:=Heap.SameBut.update s.heap kS (Obj.mapSeq λ_=>(#[]:Array Value));let IU:=(sb.2 a T.ne.symm).trans ga;show qC (listUpdate_at gk O (qC (wpAny_letGo (qC (seqEpoch_at IU O ?_)))) () (rO _));let g2:=T.put γ _ a (λ_=>(arrOf st).map (·.2)) (.inl O) g1;show qC (listUpdate_at IU O ?_ (rO _) (by rw[qY rA,Array.size_map];omega));rw[hf];simp only[bne_self_eq_false,Bool.false_eq_true,if_false];obtain⟨c,hc⟩:∃c,((s.heap.update kS (Obj.mapSeq λ_=>(#[]:Array Value))).update a (Obj.mapSeq λ_=>(arrOf st).map (·.2))).get? a=!seqObj "list" ((arrOf st).map (·.2)) c:=⟨_,get?_update_seq IU λ_=>(arrOf st).map (·.2)⟩;show qL (h γ _ _ c g2 hc ‹qdU hk hp hs›)
def qdV(T:Am prog w A f a kS vs kz G){γ:Γ}{a6:Array Value}{e:Nat}(g:G γ s)(ga:s.heap.get? a=!seqObj "list" #[] e1)(gk:s.heap.get? kS=!seqObj "list" a6 e)(hk:IntsAre a6.toList kz)(bT:kz⁻¹=vs⁻¹)(fH:vs⁻¹<64)(h:∀γ' s' out c,G γ' s'->s'.heap.get? a=!seqObj "list" out c->pB kz vs out.toList->P (.done (.ret .none)) s') :
  wpAny (model prog w) A (ksk_end a false vs.toArray e1 (.ref kS) a6) P E s:=by
 let z1:a6.size=vs⁻¹:=by
  have:=hk⁻¹;rw[xK]at this;omega
 let z0:(a6.zip vs.toArray).size=vs⁻¹:=by rw[Array.size_zip,z1,rC,Nat.min_self]
 unfold ksk_end;dsimp only;rw[qY rA]
 by_cases h2:vs⁻¹<2
 .let An:vs.toArray.size<2:=by rw[rC];show h2
  rw[qX An,qX An];show qC (qL ?_);rw[StateT.run_pure];show qC (qL ?_);dsimp only;show Rz T (st:=SortSt.mk' general' (a6.zip vs.toArray) #[] 7 none) g ga gk hk bT fH (Array.Perm.refl _) (λi j eJ hj=>?_) O h;let Cv:j<(a6.zip vs.toArray).size:=hj;omega
 .let An:¬vs.toArray.size<2:=by rw[rC];show h2
  rw[qY An,qY An,ksk_kind hk ()];show qC (qL ?_);let ss:=Stb.wp_stb (prog:=prog) (w:=w) (A:=A) (E:=E) (s:=s) (a₀:=a6.zip vs.toArray) (st:=SortSt.mk' oneType' (a6.zip vs.toArray) #[] 7 none) (Q:=λ_ aQ=>(arrOf aQ).Perm (a6.zip vs.toArray)/\failedOf aQ=none/\Stb.Sto (arrOf aQ) (a6.zip vs.toArray).size) (ksk_intKeys hk) (λt ht=>?_) O ⟨Array.Perm.refl _,O,O,O⟩ () () λaQ p1 p2 p3=>⟨p1,p2,p3⟩
  rotate_left
  .let hv:t<vs⁻¹:=()
   let⟨u,e⟩:=T.pl t _ (qB hv);let e2:Tim.T (a6.zip vs.toArray) t=(a6.zip vs.toArray)[t]:=qZ ((Tim.T_at ht).symm.trans (yP ht));rw[e2,Array.getElem_zip];show numOf vs.toArray[t]=t;rw[List.getElem_toArray,e];rfl
  show qC (xJ ss ?_ λ_ _ z=>z);ext⟨⟨⟩,aQ⟩ s' ⟨rfl,hp,hf,hs⟩;dsimp only;show Rz T g ga gk hk bT fH hp (by rw[hp.size_eq];show hs) hf h
def qdW(T:Am prog w A f a kS vs kz G)(g:G γ s)(ga:s.heap.get? a=!seqObj "list" #[] e1)(gk:s.heap.get? kS=!seqObj "list" #[] 0)(bT:kz⁻¹=vs⁻¹)(fH:vs⁻¹<64)(h:∀γ' s' out c,G γ' s'->s'.heap.get? a=!seqObj "list" out c->pB kz vs out.toList->P (.done (.ret .none)) s') :
  wpAny (model prog w) A (ksk_rest a f false vs.toArray e1 (.ref kS)) P E s:=by
 let line:(64:Nat)<=sizeLine:={}
 unfold ksk_rest;show qC (wpAny_rule ?_);rw[List.forIn_toArray];show qC (ksk_fold (λi s'=>∃γ' kA e,G γ' s'/\s'.heap.get? a=!seqObj "list" #[] e1/\s'.heap.get? kS=!seqObj "list" kA e/\IntsAre kA.toList (kz.take i)) vs 0 s ⟨γ,#[],0,g,ga,gk,‹IntsAre.nil›⟩ ?_ ?_)
 .ext j x s' hx ⟨γ',kA,e,g',IV,Dd,hk⟩;rw[Nat.zero_add]at hk⊢;let hj:j<vs⁻¹:=(qE.mp hx).1;let ek:kz[j]?=!kz[j]:=qB ();let zk:kA.size<=vs⁻¹:=by
   have:=hk⁻¹;rw[xK,yC]at this;omega
  show qC (wpAny_attempt (xJ (T.turn j x _ hx ek γ' s' _ _ g' IV Dd) (λv s2 hv=>?_) λ_ _ z=>z.elim));let⟨γ2,t,rfl,g2,ga2,RA⟩:=hv;dsimp only;let g3:=T.put γ2 s2 kS (λq=>q.push (.int kz[j] t)) (.inr O) g2;let sb:=Heap.SameBut.update s2.heap kS (Obj.mapSeq λq=>q.push (.int kz[j] t));obtain⟨c2,hc2⟩:∃c2,(s2.heap.update kS (Obj.mapSeq λq=>q.push (.int kz[j] t))).get? kS=!seqObj "list" (kA.push (.int kz[j] t)) c2:=⟨_,get?_update_seq RA λq=>q.push (.int kz[j] t)⟩;show qC (listUpdate_at RA O (qL ⟨O,γ2,kA.push (.int kz[j] t),c2,g3,(sb.2 a T.ne.symm).trans ga2,hc2,?_⟩) () (by rw[Array.size_push];omega));rw[List.take_add_one,ek,Array.toList_push];show ksk_snoc hk
 .ext s' ⟨γ',kA,e,g',IV,Dd,hk⟩;rw[Nat.zero_add,qI ()]at hk;show qC (listItems_at Dd O ?_);show qdV T g' IV Dd hk bT fH h
end
section
variable{prog:Program}{w:World}{A:Around}{f:Value}{a:Addr}{vs:TU}{kz:TN}{Γ:Type}{G:Γ->Shared->Prop}{P:Fin->Shared->Prop}{E:TH}{s:Shared}
def tq(h:Heap)(a:Addr)(vs:TU):Heap:=((h.update a (Obj.mapSeq λ_=>(#[]:Array Value))).push (seqObj "tuple" vs.toArray 0)).push (seqObj "list" #[] 0)
def qdX{n:Nat}(ho:s.heap.get? a=!seqObj "list" vs.toArray n)(T:Am prog w A f a (~~~s+1) vs kz G)(g:G γ {s with heap:=tq s.heap a vs})(bT:kz⁻¹=vs⁻¹)(fH:vs⁻¹<64)(h:∀γ' s' out c,G γ' s'->s'.heap.get? a=!seqObj "list" out c->pB kz vs out.toList->P (.done (.ret .none)) s'):wpAny (model prog w) A (ksk_tree a f false) P E s:=by
 let line:(64:Nat)<=sizeLine:={}
 let lt:a< ~~~s:=qK ho;obtain⟨e1,g1⟩:∃e1,(s.heap.update a (Obj.mapSeq λ_=>(#[]:Array Value))).get? a=!seqObj "list" #[] e1:=⟨_,get?_update_seq ho λ_=>#[]⟩;let z:((s.heap.update a (Obj.mapSeq λ_=>(#[]:Array Value))).push (seqObj "tuple" vs.toArray 0)).objs.size= ~~~s+1:=by rw[size_push',Heap.size_update]
 unfold ksk_tree;show qC (listItems_at ho O (qC (listUpdate_at ho O ?_ (by rw[rC];omega) (rO _))));show qC (seqEpoch_at g1 O (qC (wpAny_newTuple ?_ (by show vs⁻¹<=_;omega))));show qC (wpAny_newList ?_ (rO _));show xY ?_;show wpAny (model prog w) A (ksk_rest a f false vs.toArray e1 (.ref ((s.heap.update a (Obj.mapSeq λ_=>(#[]:Array Value))).push (seqObj "tuple" vs.toArray 0)).objs.size)) P E {s with heap:=tq s.heap a vs};rw[z];show qdW T g (qF _ (qF _ g1)) (by rw[<-z];show qQ _ O) bT fH h
def qdY{i b c:Int}{n:Nat}{Q:TU->Shared->Prop}(hh:A.handled=none)(hr:IsRange s.heap r i b c t u v)(qdZ:Builtin.Range.small i b c=true)(hn:Builtin.Range.rangeSize i b c=n)(bT:n<=2 ^ 24)(h:∀ h' tk acc e,(∀ q o,s.heap.get? q=!o->h'.get? q=!o)->h'.get? (~~~s)=!seqObj "list" acc e->ItemsOf (λj x=>∃ t,x=.int (i+j*c) t) acc n->Q acc.toList { s with heap:=h',toks:=tk }) :
  wpAny (model prog w) A (collect (.ref r)) Q E s:=by
 unfold collect
 show qC (wpAny_runValue (xX entry_proto_collect' ?_))
 show wpAny _ _ (do again (.builtin "list.__iadd__" ⟨[<- newList [],.ref r],[]⟩)) _ _ s
 show qC (wpAny_newList (qL ⟨yU PySem.F.plain_list_iadd _,xX PySem.F.entry_list_iadd ?_⟩))
 let kp:∀ q o,s.heap.get? q=!o->(s.heap.push (seqObj "list" #[] 0)).get? q=!o:=λq o e=>qF _ e
 let ne:∀ q o,s.heap.get? q=!o->q≠~~~s:=λq o e=>rD (qK e)
 rw [xL PySem.F.plain_list_iadd _]
 show wpAny_extend_range (R:=λr s'=>match r with | .ok (.ret v)=>wpAny (model prog w) A (match v with | .ref a=>do { let o <- load a; match o.data with | .seq xs _=>pure xs.toList | _=>unsupported "internal:collect" } | _=>unsupported "internal:collect") Q E s' | .ok _=>False | .error e=>E e s') (s:={ s with heap:=s.heap.push (seqObj "list" #[] 0) }) hh (kp r _ hr) qdZ hn bT (~~~s) (.ref (~~~s)) 0 (qQ _ O) λh' tk acc e k' hS it=>?_
 show qC (wpAny_load hS (qL ?_))
 show h h' tk acc e (λq o z=>k' q o (ne q o z) (kp q o z)) hS it
end
section
variable{prog:Program}{w:World}{A:Around}{q r:Addr}{kz:TN}{E:TH}{s:Shared}{Q:TH}{n:Nat}{t u v:Tok}
def qd0(hh:A.handled=none)(hr:IsRange s.heap r 0 n 1 t u v)(fH:n<64)(bT:kz⁻¹=n)(T:∀(h1:Heap) (tk:Nat) (vs:TU) (a:Addr),(∀b o,s.heap.get? b=!o->h1.get? b=!o)-> ~~~s<=a->a<h1.objs.size->h1.get? a=!seqObj "list" vs.toArray 0->vs⁻¹=n->(∀(i:Nat) (x:Value),vs[i]?=!x->∃t,x=Value.int (i:Nat) t) ->
   ∃(Γ:Type) (G:Γ->Shared->Prop) (γ:Γ),Am prog w A.in1.in1 (.ref q) a (h1.objs.size+1) vs kz G/\G γ {s with heap:=tq h1 a vs,toks:=tk}/\∀γ' s' out c,G γ' s'->s'.heap.get? a=!seqObj "list" out c->pB kz vs out.toList->Q (.ref a) s') :
  wpAny (model prog w) A (call (.builtin "sorted") [.ref r] [(s!"key",.ref q)]) Q E s:=by
 let line:(64:Nat)<=sizeLine:={}
 show call_function_entry_kw kind_sorted plain_sorted entry_sorted (ksk_s1 _ _) ?_;unfold Builtin.«sorted»;show qC (m:=checkCount "sorted" 1 1 _) (qL (qC (qdY (n:=n) hh hr (small_one () () () ()) (by rw[rangeSize_one];split<;>omega) () λh' tk acc e kp gs it=>?_)));let⟨i1,i2⟩:=it;let la:acc.toList⁻¹=n:=by rw[xK];show i1
 show qC (wpAny_newList ?_ ());let ga:(h'.push (seqObj "list" acc.toList.toArray 0)).get? h'.objs.size=!seqObj "list" acc.toList.toArray 0:=qQ _ O;let⟨Γ,G,γ,TT,g,fin⟩:=T (h'.push (seqObj "list" acc.toList.toArray 0)) tk acc.toList h'.objs.size (λb o z=>qF _ (kp b o z)) (xD (qK gs)) (qK ga) ga la λj x hx=>by
  let⟨t,e⟩:=i2 j x ‹hx›;show⟨t,by rw[e];congr 1;omega⟩
 show qC (xY (wpAny_call_entry_kw slot_list_sort ⟨_,ga,O⟩ entry_list_sort ?_ (ksk_l1 _ _)));show wpAny (model prog w) A.in1.in1 (Builtin.«list.sort» ⟨[.ref h'.objs.size],[(s!"key",.ref q)]⟩) _ _ _;rw[ksk_t1];show qdX (s:={s with heap:=h'.push (seqObj "list" acc.toList.toArray 0),toks:=tk}) ga TT g () () λγ' s' out c g' go ko=>-⟨qL ⟨_,O,fin γ' s' out c g' go ko⟩⟩
end
end L2
namespace L2
open PySem.Calls PyProof.Rows PySem.W
structure De(scope:Scope)(body:Expr)(fn x y:Str):Prop where
 kind:scope.kind=.function
 co:scope.isCoroutine=false
 gen:scope.isGenerator=false
 nocell:∀z∈scope.names,z.2≠.cell
 loc:scope.names.lookup y=!.local
 fre:scope.names.lookup x=!.free
 glo:scope.names.lookup fn=!.globalImplicit
 bd:∃p0 p1 p2 pos eP,body=.UnaryOp .USub (.Call (.Name fn p0) [.Name x p1,.Name y p2] [] pos) eP
 d0:(fn == ("__debug__" : Str))=false
 d1:(x == ("__debug__" : Str))=false
 d2:(y == ("__debug__" : Str))=false
 d3:(x == ("__classdict__" : Str))=false
section
variable{P:Program}{w:World}{K:W.Frag}{mg:TJ}{base:Heap}{A:Around}{outer:List Env}{s:Shared}{H:Hp}{k:Nat}{f fp c' cc:Addr}{dp:FuncData}{fn x y qual:Str}{ps:TV}{sp:Sp}{params:Arguments}{body:Expr}{scope:Scope}{cl:List (Str×Addr)}{pm fw v ux:Value}{xv yv:V}{Φ:Hp->Prop}{kn:Int}{E:XK}{CX:dt}
def qd1(LO:De scope body fn x y)(hr:Room (k+1) A)(e0:Env0 P w K mg base A outer s H)(ho:s.heap.get? f=!kla_obj "<lambda>" qual params body scope cl pm c' fw)(fS:s.heap.CodeRec (.ref c') qual)(pC:bindArgs (kla_fn "<lambda>" qual params body scope cl pm (.ref c') fw) ⟨[v],[]⟩=pure [(y,v)])(eV:cl.lookup x=!cc)(jF:s.heap.IsCell cc (!ux))(F:aN P w K mg base CX k fp dp ps sp)(hb:Binds K dp ps [])(kp:W.keepIn K (.ref fp)=true)(hm:mg fn=!.ref fp)(hx:∀o h s2 e s3,CX o h s2 E e s3->False)(rx:RelV xv ux)(ry:RelV yv v)(q:sp [xv,yv] H (λkv H2=>Φ H2/\kv=.int kn) E) :
  codeAny (model P w) A (.call (.ref f) ⟨[v],[]⟩) (λr s'=>match r with | .ok (.ret u)=>CE outer P w H s (λkv H2=>Φ H2/\kv=.int (-kn)) u s' | _=>False) s:=by
 let kb:∀b o,base.get? b=!o->s.heap.get? b=!o:=λb o e=>(e0.bs b o e).1
 show kla_callFunE hr.depth ho O LO.co LO.gen O fS ?_;rw[pC];show qL (wpAny_newFunctionEnv LO.nocell (λz hz=>by rw[rT.mp hz];show LO.loc) (λh1 tu Bg=>⟨(e0.mod.nolimit.keeps kb).fresh _ Bg,?_⟩) LO.kind);show codeAny _ _ (.expr body (envX qual scope (~~~s) f (.ref c') cl)) _ _;let k1:∀b o,s.heap.get? b=!o->h1.get? b=!o:=λb o e=>Bg.extBut b o (rD (qK e)) (qF _ e)
 let Df:∀b o,base.get? b=!o->h1.get? b=!o:=λb o e=>k1 b o (kb b o e)
 let sz1: ~~~s<h1.objs.size:=tu.lt;let⟨p0,p1,p2,pos,eP,rfl⟩:=LO.bd;show kla_codeExpr (xJ (E:=λ_ _=>False) (UnaryOp_ ?_) (λu s' h=>h) λ_ _ z=>z.elim);let e1:Env0 P w K mg base (A.deeper (envX qual scope (~~~s) f (.ref c') cl)) (envX qual scope (~~~s) f (.ref c') cl::outer) {s with heap:=h1,toks:=s.toks+[(y,v)]⁻¹} H:=by
  let bn:base.get? (~~~s)=none:=Heap.get?_none_of_le e0.bsz;show⟨Around.frames_deeper e0.frames,e0.mod,λb o e=>⟨Df b o e,(e0.bs b o e).2⟩,rK e0.bsz (xD sz1),Heap.FunFrames.cons (by show scope.kind≠_;rw[LO.kind];show λz=>nomatch z) O tu bn (e0.funs.of_keeps λb o e _=>⟨o,k1 b o e,O⟩),λb hb=>?_,e0.hok.kept k1,e0.bare⟩;rcases qM.mp (show b∈~~~s::c8 outer from hb)with z | z
  .rw[z];show e0.hok.fresh (qG _)
  .show e0.frf b z
 show uL (Calls.Name_function_global LO.kind LO.glo (Calls.loadGlobal_global (e0.mod.glob.keeps Df) hm ?_) LO.d0);show W.callWith_K (h₀:=base) e0.mod.kin kp (Calls.spliced_cons (wpAny_Name (wpAny_loadName_free LO.kind LO.fre eV (jF.keeps k1) ?_ LO.d3) LO.d1)) O O;let hv:(λz=>[(y,v)].reverse.lookup z) y=!v:=∅
 show wpAny _ _ (spliced ((false,eval (.Name y p2) (envX qual scope (~~~s) f (.ref c') cl))::backTo pos (starEach [] (envX qual scope (~~~s) f (.ref c') cl)))) _ _ _;show Calls.spliced_cons (wpAny_Name (wpAny_loadName_local LO.kind LO.loc tu hv ?_) LO.d2);show Calls.spliced_nil ⟨e0.mod.kin.keeps Df,?_⟩;show wpAny_call (uQ (F.run _ _ _ H ⟨[ux,v],[]⟩ [ux,v] [xv,yv] _ E (hr.deeper _) e1 (hb _ [ux,v] (e0.mod.kin.keeps Df) (F.len _ _ _ _ q)) (.cons rx (.cons ry .nil)) q) λr s' hq=>?_);cases r with
 | error e=>show(hx _ _ _ _ _ hq).elim
 | ok fl =>
   cases fl with
   | next=>show False.elim hq
   | brk=>show False.elim hq
   | cont=>show False.elim hq
   | ret u =>
     let⟨v',H',os,bare,un,hok,r',ph,rfl⟩:=hq
     let⟨t,rfl⟩:=r'
     show neg_int ⟨.int (-kn),H',os,bare,Un.less k1 (qG _) un,hok,⟨_,O⟩,ph,O⟩
end
def nQ:Value->Nat
 | .int i _=>i.toNat
 | _=>0
def qd2{n:Nat}{a6:Nat->Int}(hv:vs⁻¹=n)(lI:∀(i:Nat) (x:Value),vs[i]?=!x->∃t,x=Value.int (i:Nat) t)(h:pB ((List.range n).map a6) vs out) :
  ∃ms:TM,ms.Perm (List.range n)/\Vals ⇑(ms.map λ(i:Nat)=>(i:Int)) out/\ms.Pairwise λa b=>a6 a<a6 b\/(a6 a=a6 b/\a<b):=by
 let⟨ps,hp,rfl,hs⟩:=h;let zl:(((List.range n).map a6).zip vs)⁻¹=n:=by rw[List.length_zip,qA,xZ,hv,Nat.min_self]
 let RB:∀i,i<n->∃t,(((List.range n).map a6).zip vs)[i]?=!(a6 i,Value.int (i:Nat) t):=λi hi=>by
  let ev:vs[i]?=!vs[i]:=qB ();let⟨t,e⟩:=lI i _ ev;show⟨t,?_⟩;rw[List.getElem?_zip_eq_some,qH,rX hi,ev,e];show⟨O,O⟩
 let all:∀p∈((List.range n).map a6).zip vs,∃t,p=(a6 (nQ p.2),Value.int (nQ p.2:Nat) t):=λp hp=>by
  let⟨i,hi,e⟩:=xA.mp hp;let cC:i<n:=()
  let⟨t,e2⟩:=RB i cC;rw[qB hi,e]at e2;let e3:=qZ e2;show⟨t,?_⟩;rw[e3];rfl
 let Dg:∀p∈ps,∃t,p=(a6 (nQ p.2),Value.int (nQ p.2:Nat) t):=λp h=>all p (hp.mem_iff.mp h)
 show⟨ps.map λp=>nQ p.2,?_,?_,?_⟩
 .let e:(((List.range n).map a6).zip vs).map (λp=>nQ p.2)=List.range n:=by
   apply vI;intro i;rw[qH]
   by_cases hi:i<n
   .let⟨t,e⟩:=RB i hi;rw[e,rX hi];rfl
   .rw[xN (),xN (by rw[xZ];omega)];rfl
  rw[<-e];show hp.map _
 .clear hp hs all
  induction ps with
  | nil=>show .nil
  | cons p r ih =>
    let⟨t,e⟩:=Dg p rE
    show .cons ⟨t,?_⟩ (ih λq hq=>Dg q (qS _ hq))
    rw[e]
    rfl
 .rw[List.pairwise_map];show hs.imp_of_mem λ{p q} iN hq' h=>?_
  let⟨t,e⟩:=Dg p iN;let⟨t',e'⟩:=Dg q hq';rw[e,e']at h;rcases h with h | ⟨h1,h2⟩
  .show .inl h
  .let h2:((nQ p.2:Nat):Int)<((nQ q.2:Nat):Int):=h2;show .inr ⟨h1,()⟩
section
variable{P:Program}{w:World}{K:W.Frag}{mg:TJ}{base:Heap}{A:Around}{outer:List Env}{s:Shared}{H:Hp}{k n:Nat}{f fp c' cc r:Addr}{dp:FuncData}{fn x y qual:Str}{ps:TV}{sp:Sp}{params:Arguments}{body:Expr}{scope:Scope}{cl:List (Str×Addr)}{pm fw ux:Value}{xv:V}{Q:VK}{E:XK}{CX:dt}{Ex:TH}
structure IW(P:Program)(w:World)(outer:List Env)(s:Shared)(H:Hp)(a kS:Addr)(Φ:Hp->Prop)(H':Hp)(t:Shared):Prop where
 un:Un (c8 outer) [] H H' s.heap t.heap
 hok:HOk P w H' t.heap
 bare:AllBare t.gens
 os:t.os=s.os
 phi:Φ H'
 nA:H' a=none
 nK:H' kS=none
 sz: ~~~s<= ~~~t
def qd3(LO:De scope body fn x y)(hr:Room (k+3) A)(e0:Env0 P w K mg base A outer s H)(ho:s.heap.get? f=!kla_obj "<lambda>" qual params body scope cl pm c' fw)(hf:H f=none)(ff:f∉c8 outer)(pC:∀v,bindArgs (kla_fn "<lambda>" qual params body scope cl pm (.ref c') fw) ⟨[v],[]⟩=pure [(y,v)])(eV:cl.lookup x=!cc)(jF:s.heap.IsCell cc (!ux))(jD:H cc=none)(fcc:cc∉c8 outer)(F:aN P w K mg base CX k fp dp ps sp)(hb:Binds K dp ps [])(kp:W.keepIn K (.ref fp)=true)(hm:mg fn=!.ref fp)(hx:∀o h s2 e s3,CX o h s2 E e s3->False)(rx:RelV xv ux)(hR:H r=!.rng 0 n)(fH:n<64)(Φ:Hp->Prop)(p0:Φ H)(pc:∀H',Φ H'->H' c'=!nH c' qual)(a6:Nat->Int)(IX:∀(i:Nat) (H':Hp),i<n->Φ H'->sp [xv,.int i] H' (λkv H2=>Φ H2/\kv=.int (a6 i)) E)(h:∀(a:Addr) (ms:TM) (H':Hp),Φ H'->H' a=none->ms.Perm (List.range n)->(ms.Pairwise λa b=>-(a6 a) < -(a6 b)\/(-(a6 a)=-(a6 b)/\a<b))->Q (.ref a) (af H' a (.lst ⇑(ms.map λ(i:Nat)=>(i:Int))))) :
  wpAny (model P w) A (call (.builtin "sorted") [.ref r] [(s!"key",.ref f)]) (λu s'=>CE outer P w H s Q u s') Ex s:=by
 obtain⟨t1,t2,t3,er⟩:∃t u v,s.heap.get? r=!{cls:=.type "range",data:=.fields #[.int 0 t,.int n u,.int 1 v]}:=e0.hok r _ hR;let nf:∀{b:Addr},~~~s<=b->b∉c8 outer:=λhb z=>by
  let⟨_,o,q,_⟩:=e0.funs.mem z;show qT (qK q) (xI hb)
 show qd0 (kz:=(List.range n).map λi=>-(a6 i)) hr.hd er fH ∅ λh1 tk vs a IY sa la ga lv lI=>?_
 let ak:h1.objs.size+1≠a:=yJ (xT la);let ks: ~~~s<=h1.objs.size+1:=rK sa (yS (xD la));let moved:∀{H':Hp} {t:Shared} {h':Heap} {tk:Nat} {J:Addr},IW P w outer s H a (h1.objs.size+1) Φ H' t-> ~~~s<=J->H' J=none->(∀b o,b≠J->t.heap.get? b=!o->h'.get? b=!o)-> ~~~t<=h'.objs.size->IW P w outer s H a (h1.objs.size+1) Φ H' {t with heap:=h',toks:=tk}:=λ{H' t h' tk J} g hJ nJ kk zz=>by
  let ne:∀{b:Addr} {o:Obj},s.heap.get? b=!o->b≠J:=λe z=>by
   have:=qK e;rw[z]at this;show qT this (xI hJ)
  show⟨⟨λb o e n hb he=>kk b o (ne e) (g.un.keep b o e n hb he),λb o e n hb he=>?_,g.un.free,λb o e he=>?_,g.un.tups,g.un.frzs,g.un.tbls⟩,HOk.but g.hok nJ kk,g.bare,g.os,g.phi,g.nA,g.nK,rK g.sz zz⟩
  .let⟨sl,q⟩:=g.un.slot b o e n hb he;show⟨sl,kk b _ (ne e) q⟩
  .let⟨o',q⟩:=g.un.there b o e he;show⟨o',kk b _ (ne e) q⟩
 show⟨Hp,IW P w outer s H a (h1.objs.size+1) Φ,H,⟨ak,lI,λH' t b fn hb g=>?_,λi v kz hv hk H' t oA oS g gA gS=>?_⟩,?_,λH' t out c g go ko=>?_⟩
 .let sb:=Heap.SameBut.update t.heap b (Obj.mapSeq fn);let nb:H' b=none:=by rcases hb with rfl | rfl;show g.nA;show g.nK
  let sbz: ~~~s<=b:=by rcases hb with rfl | rfl;show sa;show ks
  show moved (tk:=t.toks) g sbz nb (λq o nq e=>by rw[sb.2 q nq];show e) (by rw[Heap.size_update];show qG _)
 .have hi:i<n:=by
   have:=(qE.mp hv).1;omega
  rw[qH,rX hi]at hk;let ek:-(a6 i)=kz:=qZ hk;subst ek;let⟨t',rfl⟩:=lI i v hv;let⟨oc,qc,dc⟩:=jF;show wpAny_call (uQ (qd1 (Φ:=Φ) (kn:=a6 i) LO (hr.in1.in1) ((e0.un g.un g.hok g.bare g.sz).in1.in1) (g.un.keep f _ ho hf ff ∅) (g.hok c' _ (pc H' g.phi)).1 (pC _) eV ⟨oc,g.un.keep cc _ qc jD fcc ∅,dc⟩ F hb kp hm hx rx (yv:=.int i) ⟨t',O⟩ (IX i H' hi g.phi)) λrr s' hq=>?_);cases rr with
  | error e=>show False.elim hq
  | ok fl =>
    cases fl with
    | next=>show False.elim hq
    | brk=>show False.elim hq
    | cont=>show False.elim hq
    | ret u =>
      let⟨v',H2,os,bare,un,hok,r',ph,rfl⟩:=hq
      let⟨t2',rfl⟩:=r'
      let kA:=un.keep _ _ gA g.nA (nf sa) ∅
      let kS:=un.keep _ _ gS g.nK (nf ks) ∅
      show⟨H2,t2',O,⟨g.un.trans un,hok,bare,os.trans g.os,ph,un.free _ _ gA g.nA ∅,un.free _ _ gS g.nK ∅,?_⟩,kA,kS⟩
      show xD (yB sa (qK kA))
 .let kk:∀b o,s.heap.get? b=!o->(tq h1 a vs).get? b=!o:=λb o e=>by
   show qF _ (qF _ ?_);rw[Heap.get?_update_ne _ _ _ _ (λz=>by have:=qK e;rw[z]at this;show qT this (xI sa))];show IY b o e
  show⟨Un.kept kk,e0.hok.kept kk,e0.bare,O,p0,e0.hok.fresh sa,e0.hok.fresh ks,?_⟩;show ~~~s<=(tq h1 a vs).objs.size;unfold tq;rw[size_push',size_push',Heap.size_update];show rK sa (rK (xD la) (yS (yR _)))
 .let⟨ms,m1,m2,m3⟩:=qd2 lv lI ko;let lm:ms⁻¹=n:=by rw[m1.length_eq,xZ]
  show⟨.ref a,af H' a (.lst ⇑(ms.map λ(i:Nat)=>(i:Int))),g.os,g.bare,⟨g.un.keep,g.un.slot,λb o e nb he=>?_,g.un.there,λb ys e=>?_,λb o z e=>?_,λb qs e=>?_⟩,HOk.reT g.hok g.nA λ_=>⟨?_,out.toList,c,m2,‹go›⟩,O,h a ms H' g.phi g.nA m1 m3⟩
  .rw[aM (λz=>by have:=qK e;rw[z]at this;show qT this (xI sa))];show g.un.free b o e nb he
  .let nb:b≠a:=λz=>by let q:=g.un.tups b ys e;rw[z,g.nA]at q;cases q
   rw[aM nb];show g.un.tups b ys e
  .let nb:b≠a:=λy=>by let q:=g.un.frzs b o z e;rw[y,g.nA]at q;cases q
   rw[aM nb];show g.un.frzs b o z e
  .let nb:b≠a:=λy=>by let⟨qs',q⟩:=g.un.tbls b qs e;rw[y,g.nA]at q;cases q
   rw[aM nb];show g.un.tbls b qs e
  .rw[qA,qA,lm];show rK (xD fH) {}
end
def qd4(ta:TA)(ix:Nat)(sp:Sp)(E:XK)(Pt:Addr)(Ao:Pos)(qual:Str):TE:=λσ H Q=>ta σ H λvs H1=>∃(r:Addr) (n:Nat) (xv:V) (a6:Nat->Int),vs=[.ref r]/\H1 r=!.rng 0 n/\n<64/\kx H1 Pt Ao qual/\σ[ix]?=!!xv /\
 ∀(H2:Hp) (c':Addr),(∀b,b≠Pt->∀o,H1 b=!o->H2 b=!o)->kx H2 Pt Ao qual->H2 c'=!nH c' qual ->
  ∃Φ:Hp->Prop,Φ H2/\(∀H',Φ H'->H' c'=!nH c' qual)/\(∀(i:Nat) (H':Hp),i<n->Φ H'->sp [xv,.int i] H' (λkv H3=>Φ H3/\kv=.int (a6 i)) E) /\
   ∀(a:Addr) (ms:TM) (H':Hp),Φ H'->H' a=none->ms.Perm (List.range n)->(ms.Pairwise λa b=>-(a6 a) < -(a6 b)\/(-(a6 a)=-(a6 b)/\a<b))->Q (.ref a) (af H' a (.lst ⇑(ms.map λ(i:Nat)=>(i:Int))))
section
variable{X:Cx}{CX:dt}{k:Nat}{e:Expr}{ta:TA}{ix:Nat}{c Pt fp:Addr}{dp:FuncData}{fn x y:Str}{ps:TV}{sp:Sp}{E:XK}{params:Arguments}{body:Expr}{scope:Scope}{Ao IY p pos:Pos}
def qd5(hc:X.calm=true)(hg:Gl X "sorted")(hm:X.mg "sorted" = none)(hv:bootBuiltins "sorted" = !.builtin "sorted")(ha:PA X [e] ta)(LO:De scope body fn x y)(hr:Room (k+3) X.A)(hN:X.N[ix]?=!x)(IZ:X.env.kindOf x=!.cell)(tI:X.fn x=true)(C8:X.env.code=.ref c)(hC:codeHdIn X.K c Pt=true)(hPt:Pt≠mainGlobals)(hB:X.base.BuiltinsAt X.mg Pt)(eV:∀cc,X.env.cells.lookup x=!cc->closureFor scope X.env=pure [(x,cc)])(IM:defaultsOf params X.env=([],[]))(pC:∀(qual:Str) (cl:List (Str×Addr)) (pm:Value) (c':Addr) (fw v:Value),bindArgs (kla_fn "<lambda>" qual params body scope cl pm (.ref c') fw) ⟨[v],[]⟩=pure [(y,v)])(F:aN X.prog X.w X.K X.mg X.base CX k fp dp ps sp)(hb:Binds X.K dp ps [])(kp:W.keepIn X.K (.ref fp)=true)(hmf:X.mg fn=!.ref fp)(Dh:∀o h s2 e s3,CX o h s2 E e s3->False)(he:starEach [e] X.env=[(false,eval e X.env)]:=by rfl) :
  PE X (.Call (.Name "sorted" p) [e] [⟨!"key",.Lambda params body scope Ao,IY⟩] pos) (qd4 ta ix sp E Pt Ao (X.env.qual ++ "<lambda>")):=by
 intro aa s σ H Q I h;show uL (jG I hg hm hv ?_ {} {});show callWith_kw (aR (ha pos aa s σ H _ I h) λus s1 hx=>?_) (by rw[he];rfl) (by rw[he];rfl);let⟨vs,H1,I1,r1,r,n,xv,a6,e1,hR,fH,tb,hσ,rest⟩:=hx;subst e1;let⟨u,rfl,rx⟩:=vals1 r1;cases rx;let tQ:pO X.env.scope x:=.inr (.inl IZ);let⟨cc,jD⟩:=I1.ok.has x (.inl IZ);show kws_cons (qdQ I1 C8 hC hPt tb hB (eV cc jD) IM λf c' fw h' tk H2 I2 ho hsz nf hf eO tb2 Di=>kws_nil ?_);let⟨Φ,p0,pc,IX,fin⟩:=rest H2 c' Di tb2 eO;let⟨m,hn,qd6⟩:=I2.loc;let⟨u,ru,lk⟩:=qd6 ix x xv hN hσ tQ;let jF:h'.IsCell cc (!u):=by
  rcases lk with⟨kd,_⟩ | ⟨_,c2,e2,z⟩
  .rw[IZ]at kd;cases kd
  .rw[jD]at e2;cases e2;show z
 let fs:∀{b:Addr},b∈c8 X.stack->b≠f/\b≠cc:=λ{b} hb=>by
  show⟨λz=>?_,λz=>?_⟩
  .let⟨_,o,q,_⟩:=I1.stack.mem hb;have:=qK q;rw[z]at this;show qT this (xI hsz)
  .rcases qM.mp (I1.stkSub b hb)with y | y
   .show I1.cne x cc jD (z.symm.trans y)
   .let⟨_,o,q,_⟩:=I1.ok.funs.mem y;have:=qK q;rw[z]at this;show qT this (xI (I1.ok.cab x cc tI jD))
 let hR2:H2 r=!.rng 0 n:=Di r (λz=>by let⟨qs,e,_⟩:=tb;rw[z,e]at hR;cases hR) _ hR;show wpAny _ _ (call (.builtin "sorted") [.ref r] [(s!"key",.ref f)]) _ _ _;show xJ (qd3 (Ex:=X.xe) LO hr I2.env0 ho hf (λz=>(fs z).1 O) (λv=>pC _ _ _ _ _ v) ∅ jF (I2.freeC x cc jD) (λz=>(fs z).2 O) F hb kp hmf Dh ru hR2 fH Φ p0 pc a6 IX fin) (λu s' ce=>I2.after ce) λ_ _ z=>z
end
end L2
namespace Ins
open L2 Bk Gen Gd Shr Sp0
open Bd
def bQ(ds:List Nd)(j:Nat):Bool:=decide (ds[j]?.map Nd.k=!Kd.note)
section
variable{ds:List Nd}{ls:TB}{hs:Nat->Int}{n m:Nat}{d:Nd}
def RC(ds:List Nd)(n:Nat):(kk ds n).map some=(aw ds n).map λj=>ds[j]?.map Nd.k:=by
 have all:∀i,i<=ds⁻¹->(kk (ds.take i) n).map some=((List.range i).filter λj=>decide (ds[j]?.map Nd.e=!(n:Int))).map λj=>ds[j]?.map Nd.k:=by
  intro i
  induction i with
  | zero=>intro _;rfl
  | succ i ih =>
    intro hi
    let e:ds[i]?=!ds[i]:=qB hi
    rw[qO,e,FJ,qD,ih (),yV,rS,qD]
    congr 1
    by_cases h:ds[i].e=(n:Int)<;>simp[kk,qw,h,e]
 have:=all ds⁻¹ (qG _)
 rwa [yD]at this
def Ja{i:Nat}(h:(aw ds n)[i]?=!m):(kk ds n)[i]?=ds[m]?.map Nd.k:=by
 let q:=xH (·[i]?) (RC ds n);simp only[List.getElem?_map,h,Option.map_some]at q;cases e:(kk ds n)[i]? with
 | none=>rw[e]at q;cases q
 | some k=>rw[e]at q;show qZ q
def Jb(b:Book ds)(ed:ds[n]?=!d)(h:m∈aw ds n):∃c,ds[m]?=!c/\fF d.k c.k=true:=by
 let⟨c,ec,_⟩:=fK h;let⟨i,hi,e⟩:=xA.mp h;show⟨c,ec,(Bk.Book.each b ed).kids.1 _ (qN (i:=i) ?_)⟩;rw[Ja (by rw[qB hi,e]),ec];rfl
def qd7:∀{l:List Kd} {i:Nat},Nexts l->l[i]?=!.aside->l[i+1]?=!.text:=by
 intro l
 induction l using Nexts.induct with
 | case1=>intro i _ h;simp at h
 | case2 r ih =>
   intro i n h
   match i with
   | 0=>rfl
   | 1=>cases h
   | i+2=>show ih n h
 | case3 t h1=>intro i n h;simp[Nexts]at n
 | case4 x r h1 h2 ih =>
   intro i n h
   match i with
   | 0=>show qT (qZ h) (by intro z;subst z;simp_all)
   | i+1=>show ih (by cases x<;>simp_all [Nexts]) h
def RD(ds:List Nd)(n:Nat):(aw ds n).Pairwise (·< ·):=List.Pairwise.filter _ List.pairwise_lt_range
def qd8{i a:Nat}(h1:(aw ds n)[i]?=!a)(h2:(aw ds n)[i+1]?=!m)(ha:cE ds a=true)(ed:ds[m]?=!d)(hk:d.k=.text):bN ds m=!a:=by
 let⟨d',i4,he⟩:=fK (qN h2);rw[ed]at i4;cases i4;unfold bN;rw[ed];show(if d.k=.text then _ else _)=_;rw[qX hk,he,P5 h2,qO,h1];show(List.getLast? (_++[a])).filter _=_;rw[List.getLast?_append];simp[ha]
def qd9(b:Book ds)(ed:ds[n]?=!d)(h:m∈aw ds n)(ha:cE ds m=true):∃x∈aw ds n,cE ds x=false/\bN ds x=!m:=by
 let⟨i,hi,e⟩:=xA.mp h;let e1:(aw ds n)[i]?=!m:=by rw[qB hi,e]
 let nx:=(Bk.Book.each b ed).kids.2.2.1;let hk:(kk ds n)[i]?=!.aside:=by rw[Ja e1];show rF ha
 let hx:=qd7 nx hk;let hl:i+1<(aw ds n)⁻¹:=by
  have:=(qE.mp hx).1;let l2:=xH List.length (RC ds n);rw[qA,qA]at l2;omega
 let e2:(aw ds n)[i+1]?=!(aw ds n)[i+1]:=qB hl;rw[Ja e2]at hx;let⟨c,ec,hc⟩:=rP.mp hx;show⟨_,rJ hl,?_,qd8 e1 e2 ha ec hc⟩;unfold cE;rw[ec];show qV λz=>?_
 let z:c.k=Kd.aside:=qZ z;rw[hc]at z;cases z
theorem RE:∀(ks:TM) (acc:List (Nat×Int)×Int),(∀x∈acc.1,x∈(ks.foldl (dI ds ls hs) acc).1)/\∀k∈ks,∀e∈bz ds k,∃t,(e,t)∈(ks.foldl (dI ds ls hs) acc).1
 | [],acc=>⟨λ_ h=>h,λ_ h=>nomatch h⟩
 | k :: ks, acc => by
   rw[xG,zc]
   let⟨h1,h2⟩:=RE ks (acc.1++(bz ds k).map (λe=>(e,iC ls acc k)),iC ls acc k+bC ((bz ds k).map hs))
   show⟨λx hx=>h1 x (uP _ hx),λj hj e he=>?_⟩
   rcases qM.mp hj with rfl | hj
   · show⟨_,h1 _ (rN _ (qP.mpr ⟨e,he,O⟩))⟩
   · show h2 j hj e he
def RF(ds:List Nd)(hs:Nat->Int)(x y:Nat×Int):Prop:=x.2+hs x.1<=y.2\/bN ds y.1=!x.1
theorem Jc(h0:∀m,0<=hs m)(l0:∀m,0<=aB ls m 2):∀(ks:TM) (acc:List (Nat×Int)×Int),acc.1.Pairwise (RF ds hs)->(∀x∈acc.1,0<=x.2/\x.2+hs x.1<=acc.2)->0<=acc.2->(ks.foldl (dI ds ls hs) acc).1.Pairwise (RF ds hs)/\∀x∈(ks.foldl (dI ds ls hs) acc).1,0<=x.2
 | [],acc,h1,h2,h3=>⟨h1,λx hx=>(h2 x hx).1⟩
 | k :: ks, acc, h1, h2, h3 => by
   let t0:acc.2<=iC ls acc k:=by
     unfold iC
     have:=l0 k
     split<;>omega
   rw[xG,zc]
   show Jc h0 l0 ks _ (List.pairwise_append.mpr ⟨h1,?_,λx hx y hy=>?_⟩) (λx hx=>?_) ?_
   · unfold bz
     cases e:bN ds k with
     | none=>show List.pairwise_singleton _ _
     | some a =>
       show List.pairwise_cons.mpr ⟨λy hy=>?_,List.pairwise_singleton _ _⟩
       rw[rT.mp hy]
       show .inr e
   · let⟨e,_,rfl⟩:=qP.mp hy
     show .inl (xW (h2 x hx).2 t0)
   · show 0<=x.2/\x.2+hs x.1<=iC ls acc k+bC ((bz ds k).map hs)
     rcases rG.mp hx with z | z
     · have:=h2 x z
       let b0:0<=bC ((bz ds k).map hs):=mN λv hv=>by
         let⟨e,_,rfl⟩:=qP.mp hv
         show h0 e
       omega
     · let⟨e,he,rfl⟩:=qP.mp z
       have:=jU _ (qP.mpr ⟨e,he,O⟩:hs e∈(bz ds k).map hs)
       show 0<=iC ls acc k/\iC ls acc k+hs e<=_
       omega
   · show 0<=iC ls acc k+bC ((bz ds k).map hs)
     let b0:0<=bC ((bz ds k).map hs):=mN λv hv=>by
       let⟨e,_,rfl⟩:=qP.mp hv
       show h0 e
     omega
theorem RG{R:Nat×Int->Nat×Int->Prop}{x y:Nat×Int}:∀{l:List (Nat×Int)},l.Pairwise R->(l.map Prod.fst).Pairwise (·< ·)->x∈l->y∈l->x.1<y.1->R x y
 | [],_,_,h,_,_=>nomatch h
 | z :: l, p, q, hx, hy, lt => by
   let⟨p1,p2⟩:=List.pairwise_cons.mp p
   rw[xP]at q
   let⟨q1,q2⟩:=List.pairwise_cons.mp q
   rcases qM.mp hx with e1 | h1
   · rcases qM.mp hy with e2 | h2
     · rw[e1,e2]at lt
       omega
     · rw[e1]
       show p1 y h2
   · rcases qM.mp hy with e2 | h2
     · have:=q1 _ (yQ h1)
       rw[e2]at lt
       omega
     · show RG p2 q2 h1 h2 lt
def qea(ls:TB)(hs:Nat->Int)(n:Nat):((bJ ds ls hs n).map Prod.fst).Pairwise (·< ·):=(RD ds n).sublist sB
def qeb(b:Book ds)(ed:ds[n]?=!d)(hk:¬(d.k=.text\/d.k=.head\/d.k=.note))(hl:d.k=.grid->(dY (aB ls n 7).toNat (b8 ls (aw ds n)))⁻¹=(aw ds n)⁻¹)(h:m∈aw ds n):∃t,(m,t)∈bJ ds ls hs n:=by
 by_cases h2:d.k=.shelf
 .rw[Iq ed h2];show⟨0,qP.mpr ⟨m,h,O⟩⟩
 by_cases h3:d.k=.grid
 .rw[CV ed h3];unfold gQ;let hl:=hl h3;generalize dY (aB ls n 7).toNat (b8 ls (aw ds n))=pl at hl⊢;let⟨i,hi,e⟩:=xA.mp h;show⟨_,qP.mpr ⟨((aw ds n)[i],pl[i]'(by omega)),?_,by rw[e]⟩⟩;show xA.mpr ⟨i,by rw[List.length_zip];omega,by rw[List.getElem_zip]⟩
 .rw[CW ed hk h2 h3];unfold gU;let q:=(RE (ds:=ds) (ls:=ls) (hs:=hs) ((aw ds n).filter λm=>(Bool.not (cE ds m))) ([],0)).2;cases ha:cE ds m with
  | false=>show q m (rY.mpr ⟨h,by rw[ha];rfl⟩) m (by unfold bz;cases bN ds m<;>simp)
  | true =>
    let⟨x,hx,h4,h5⟩:=qd9 b ed h ha
    show q x (rY.mpr ⟨hx,by rw[h4];rfl⟩) m (by unfold bz;rw[h5];simp)
def RH{l:TN}(h:∀v∈l,0<=v){a b:Nat}(ab:a<=b):(l.take a).sum<=(l.take b).sum:=by
 let e:b=a+(b-a):=()
 rw[e,List.take_add,List.sum_append];have:=xz (l:=(l.drop a).take (b-a)) λv hv=>h v (vO (x8 hv))
 omega
def Placed.apart{cols:Nat}{cs:List (Nat×Nat)}{ps:List Pl}(h:Placed cols cs ps):ps.Pairwise λp q=>ql p q=false:=by
 induction h with
 | nil=>show .nil
 | snoc a f ih =>
   show List.pairwise_append.mpr ⟨ih,List.pairwise_singleton _ _,λp hp q hq=>?_⟩
   rw[rT.mp hq]
   have:=uI.mp f.fr p hp
   simpa using this
def RI{zs:List (Pl×Int)}{M:Nat}{x y:Pl×Int}(hx:x∈zs)(hd:1<=x.1.d)(hm:x.1.r+x.1.d<=M)(hr:x.1.r+x.1.d<=y.1.r):((bM zs M).take x.1.r).sum+x.2<=((bM zs M).take y.1.r).sum:=by
 let h1:=qaB hx hd hm;rw[OI]at h1;let h2:=RH (Iw zs M) hr;omega
def RJ{rm:Int×Int}{cols:Int}(h:0<=rm.2)(hc:0<cols){a b:Nat}(ab:a<=b):m9 rm cols a<=m9 rm cols b:=by
 unfold m9;let h1:=Int.mul_le_mul_of_nonneg_right (show(a:Int)<=b by omega) (Int.ediv_nonneg h (v5 hc));omega
def RK{i j x y:Nat}(hi:(aw ds n)[i]?=!x)(hj:(aw ds n)[j]?=!y)(lt:x<y):i<j:=by
 let⟨h1,e1⟩:=qE.mp hi;let⟨h2,e2⟩:=qE.mp hj;show Classical.byContradiction λz=>?_
 rcases Nat.lt_or_eq_of_le (xQ z)with z | z
 .have:=List.pairwise_iff_getElem.mp (RD ds n) j i h2 h1 z;omega
 .subst z;omega
def RL{cols:Nat}{pl:List Pl}{ks:TM}{x:Nat×Int}(e:dY cols (b8 ls ks)=pl)(hl:pl⁻¹=ks⁻¹)(hx:x∈gQ ls hs cols ks):∃(i:Nat) (p:Pl),ks[i]?=!x.1/\pl[i]?=!p/\x.2=((bM (pl.zip (ks.map hs)) (many pl)).take p.r).sum/\(p,hs x.1)∈pl.zip (ks.map hs):=by
 unfold gQ at hx;rw[e]at hx;let⟨y,hy,rfl⟩:=qP.mp hx;let⟨i,hi,e⟩:=xA.mp hy;rw[List.length_zip]at hi;rw[List.getElem_zip]at e;show⟨i,y.2,?_,?_,O,xA.mpr ⟨i,by rw[List.length_zip,qA];omega,?_⟩⟩
 .rw[qB (),<-e]
 .rw[qB (),<-e]
 .rw[List.getElem_zip,List.getElem_map,<-e]
variable{sp:TC}{rm:Int×Int}{x y:Nat×Int}
def Ap(hx:x∈bJ ds ls hs n):x.1∈aw ds n:=sB.subset (yQ hx)
def RM(h0:∀m,0<=hs m)(l0:∀m,0<=aB ls m 2)(ed:ds[n]?=!d)(hx:x∈bJ ds ls hs n):0<=x.2:=by
 by_cases h1:d.k=.text\/d.k=.head\/d.k=.note
 .rw[CU ed h1]at hx;cases hx
 by_cases h2:d.k=.shelf
 .rw[Iq ed h2]at hx;let⟨k,_,rfl⟩:=qP.mp hx;show xF _
 by_cases h3:d.k=.grid
 .rw[CV ed h3]at hx;let⟨k,_,rfl⟩:=qP.mp hx;show xz λv hv=>Iw _ _ v (x8 hv)
 .rw[CW ed h1 h2 h3]at hx;show(Jc h0 l0 _ ([],0) .nil (λx hx=>nomatch hx) (xF _)).2 x hx
def pE{zs:TC}(e:(aw ds n).map (aJ sp)=zs)(h:m∈aw ds n):∃i:Nat,(aw ds n)[i]?=!m/\zs[i]?=!aJ sp m:=by
 let⟨i,hi,ei⟩:=xA.mp h;let ki:(aw ds n)[i]?=!m:=by rw[qB hi,ei]
 show⟨i,ki,by rw[<-e,qH,ki];rfl⟩
def Jd{w:TN}{i:Nat}{left:Int}{z:Int×Int}(h:(iA left w)[i]?=!z):∃v,w[i]?=!v/\z=(left+(w.take i).sum,v):=by
 let hi:=(qE.mp h).1;rw[GJ]at hi;unfold iA at h;rw[qH,rX hi]at h;show⟨_,qB hi,?_⟩;rw[<-qZ h];show(_,w.getD i 0)=_;rw[qW,qB hi];rfl
def qec(g:HeldP ds ls rm n d ((aw ds n).map (aJ sp)))(r0:0<=rm.2)(h0:∀m,0<=hs m)(l0:∀m,0<=aB ls m 2)(c1:1<=aB ls n 7)(ed:ds[n]?=!d)(hx:x∈bJ ds ls hs n)(hy:y∈bJ ds ls hs n)(lt:x.1<y.1) :
  bN ds y.1=!x.1\/x.2+hs x.1<=y.2\/y.2+hs y.1<=x.2\/(aJ sp x.1).1+(aJ sp x.1).2<=(aJ sp y.1).1\/(aJ sp y.1).1+(aJ sp y.1).2<=(aJ sp x.1).1:=by
 by_cases h1:d.k=.text\/d.k=.head\/d.k=.note
 .rw[CU ed h1]at hx;cases hx
 by_cases h2:d.k=.shelf
 .let⟨w,w0,e⟩:=g.sh h2;let⟨i,ki,zi⟩:=pE e (Ap hx);let⟨j,kj,zj⟩:=pE e (Ap hy);let ij:=RK ki kj lt;let⟨v,ev,e1⟩:=Jd zi;let⟨_,_,e2⟩:=Jd zj;let m1:=RH w0 (show i+1<=j by omega);rw[qO,ev,List.sum_append]at m1;rw[e1,e2];show .inr (.inr (.inr (.inl ?_)));show rm.1+(w.take i).sum+v<=rm.1+(w.take j).sum;have:(w.take i).sum+(v+0)<=(w.take j).sum:=m1;omega
 by_cases h3:d.k=.grid
 .let⟨pl,pd,ok,e⟩:=g.gr h3;let hl:pl⁻¹=(aw ds n)⁻¹:=by rw[pd.len];unfold b8;rw[qA]
  let⟨i',Ig,zi⟩:=pE e (Ap hx);let⟨j',kj',zj⟩:=pE e (Ap hy);rw[CV ed h3]at hx hy;let⟨i,p,ki,pi,tx,mx⟩:=RL pd.eq.symm hl hx;let⟨j,q,kj,pj,ty,my⟩:=RL pd.eq.symm hl hy;let ij:=RK ki kj lt;let ix:∀{a b c:Nat},(aw ds n)[a]?=!c->(aw ds n)[b]?=!c->a=b:=λha hb=>(List.getElem?_inj (qE.mp ha).1 (Cd n)).mp (ha.trans hb.symm)
  rw[ix Ig ki,qH,pi]at zi;rw[ix kj' kj,qH,pj]at zj;let⟨Iz,IE⟩:=qE.mp pi;let⟨Ix,Iy⟩:=qE.mp pj;let nm:=List.pairwise_iff_getElem.mp (Placed.apart pd) i j Iz Ix ij;rw[IE,Iy]at nm;let nm:=of_decide_eq_false nm;let pm:=qN pi;let qm:=qN pj;rw[<-qZ zi,<-qZ zj,tx,ty];let bm:=λ{a b:Nat}=>RJ (rm:=rm) (cols:=aB ls n 7) r0 () (a:=a) (b:=b)
  by_cases a1:p.r+p.d<=q.r
  .show .inr (.inl (RI (y:=(q,0)) mx (ok p pm).2.1 (Oq pm) a1))
  by_cases a2:q.r+q.d<=p.r
  .show .inr (.inr (.inl (RI (y:=(p,0)) my (ok q qm).2.1 (Oq qm) a2)))
  unfold cR
  by_cases a3:p.c+p.s<=q.c
  .have:=bm a3;show .inr (.inr (.inr (.inl (by dsimp only;omega))))
  .have:=bm (show q.c+q.s<=p.c by omega);show .inr (.inr (.inr (.inr (by dsimp only;omega))))
 .let pw:=qea (ds:=ds) ls hs n;rw[CW ed h1 h2 h3]at hx hy pw;have:=(Jc (ds:=ds) h0 l0 ((aw ds n).filter λm=>(Bool.not (cE ds m))) ([],0) .nil (λx hx=>nomatch hx) (xF _)).1;rcases RG this pw hx hy lt with z | z
  .show .inr (.inl z)
  .show .inl z
theorem qed(g:HeldP ds ls rm n d ((aw ds n).map (aJ sp)))(r0:0<=rm.2)(c1:1<=aB ls n 7)(ed:ds[n]?=some d)(h1:¬(d.k=.text\/d.k=.head\/d.k=.note))(sd:0<=aB ls m 10)(h:m∈aw ds n):rm.1<=(aJ sp m).1:=by
 by_cases h2:d.k=.shelf
 ·obtain⟨w,w0,e⟩:=g.sh h2;obtain⟨i,_,zi⟩:=pE e h;obtain⟨v,_,e1⟩:=Jd zi;rw[e1];have:=xz (l:=w.take i) λv hv=>w0 v (x8 hv)
  show rm.1<=rm.1+(w.take i).sum;omega
 by_cases h3:d.k=.grid
 ·obtain⟨pl,pd,ok,e⟩:=g.gr h3;obtain⟨i,_,zi⟩:=pE e h;rw[qH]at zi;obtain⟨p,_,ep⟩:=rP.mp zi;rw[<-ep];have:=RJ (rm:=rm) (cols:=aB ls n 7) r0 (by omega) (rO p.c);have:=uE rm.2 (show aB ls n 7≠0 by omega);unfold cR;unfold m9 at *;simp at *;omega
 ·obtain⟨i,ki,zi⟩:=pE (g.pi h1 h2 h3) h;rw[qH,ki]at zi;rw[<-qZ zi];unfold m7
  split
  ·have:0<=aB ls m 10*(rm.2-iX ls rm m):=Int.mul_nonneg sd (by unfold iX;omega);show rm.1<=rm.1+_;omega
  ·exact xF _
def IsSz.nn2{us:List (List Un)}{z:Sz}(h:IsSz ds ls us sp hs n d z)(h0:∀m,0<=hs m)(l0:∀m,0<=aB ls m 2)(ed:ds[n]?=!d)(fm:vg d)(uh:∀u∈bg us n,1<=u.h):0<=z.h:=by
 cases h with
 | pic a b =>
   have:=fm.st
   rw[a]at this
   let⟨x,y,e,_,_,h1,_⟩:=this
   rw[b]at e
   cases e
   show xW {} h1
 | box a b =>
   show mN λv hv=>?_
   let⟨x,hx,rfl⟩:=qP.mp hv
   show Int.add_nonneg (RM h0 l0 ed hx) (h0 x.1)
 | row a c f=>show Int.mul_nonneg () (mN λx hx=>by
   let⟨u,hu,rfl⟩:=qP.mp hx;have:=uh u hu;omega)
end
def jz(H H':Hp):=∀b o,(∀qs,o≠HO.tbl qs)->H b=!o->H' b=!o
section
variable{H H':Hp}
def Aq{β:Type}{F:Hp->Addr->β->Prop}{xs:List β}(hF:∀a x,F H a x->F H' a x)(k:jz H H')(h:LstAt F H L xs):LstAt F H' L xs:=by
 let⟨as,e,p⟩:=h;show⟨as,k _ _ (λ_ z=>nomatch z) e,p.mono hF⟩
def Je(k:jz H H')(h:cM (λ_=>True) H B ds):cM (λ_=>True) H' B ds:=by
 let⟨as,e,p⟩:=h;show⟨as,k _ _ (λ_ z=>nomatch z) e,p.mono λa d q=>?_⟩;let⟨_,m,s,e1,_,e2,_,vs,e3,pr⟩:=q;show⟨trivial,m,s,k _ _ (λ_ z=>nomatch z) e1,trivial,k _ _ (λ_ z=>nomatch z) e2,trivial,vs,k _ _ (λ_ z=>nomatch z) e3,pr.mono λv x y=>?_⟩;cases x with
 | int n=>show y
 | tri s x t =>
   let⟨b,rfl,_,e4⟩:=y
   show⟨b,O,trivial,k _ _ (λ_ z=>nomatch z) e4⟩
def RN{ls:TB}(k:jz H H')(h:LstAt LkAt H p ls):LstAt LkAt H' p ls:=Aq (λ_ _ e=>k _ _ (λ_ z=>nomatch z) e) k h
def RO{ls:TC}(k:jz H H')(h:LstAt PrAt H p ls):LstAt PrAt H' p ls:=Aq (λ_ _ e=>k _ _ (λ_ z=>nomatch z) e) k h
def RP(k:jz H H')(h:LstAt Bw.RowAt H p us):LstAt Bw.RowAt H' p us:=Aq (λ_ _ e=>Aq (λ_ _ ⟨nl,e1,l,e2⟩=>⟨nl,k _ _ (λ_ z=>nomatch z) e1,l,k _ _ (λ_ z=>nomatch z) e2⟩) k e) k h
def SzN.g{N:Addr->Prop}(k:jz H H')(h:SzN N H a z):SzN N H' a z:=by
 let⟨A,B,h1,n1,h2,n2,bs,h3,h4⟩:=h;show⟨A,B,k _ _ (λ_ z=>nomatch z) h1,n1,Aq (λ_ _ e=>k _ _ (λ_ z=>nomatch z) e) k h2,n2,bs,k _ _ (λ_ z=>nomatch z) h3,h4.mono λc os y=>⟨k _ _ (λ_ z=>nomatch z) y.1,y.2⟩⟩
def Jf(k:∀b o,(∀xs,o≠HO.lst xs)->H b=!o->H' b=!o)(h:kx H Pt pos qual):kx H' Pt pos qual:=by
 let⟨ps,e,t,c⟩:=h;show⟨ps,k _ _ (λ_ z=>nomatch z) e,t,c.imp id λ⟨c',y,z⟩=>⟨c',y,k _ _ (λ_ z=>nomatch z) z⟩⟩
end
end Ins
namespace K33
open L2 Bk Gd Shr Sp0 Ins
open Bd
open Gen
abbrev fz:=top 101
def qee:Stmt->Option (Arguments×Expr×Scope×Pos)
 | .FunctionDef _ _ b _ _ _ _ _ _ _ => match b with
   | _ :: .For _ (.Call _ _ (⟨_,.Lambda a e s p,_⟩::_) _) _ _ _::_=>!(a,e,s,p)
   | _=>none
 | _=>none
def nR:Arguments×Expr×Scope×Pos:=(qee fz).getD (⟨[],[],none,[],[],none,[]⟩,.Constant .none 0 ⟨0,0,0,0⟩,default,⟨0,0,0,0⟩)
def qef:De nR.2.2.1 nR.2.1 "level_of" "book" "one":=⟨by ac_rfl,by ac_rfl,by ac_rfl,by ac_rfl,by ac_rfl,by ac_rfl,by ac_rfl,⟨_,_,_,_,_,O⟩,{},{},{},{}⟩
def qeg:nR.2.2.1.names=[(s!"one",.local),(s!"book",.free),(s!"level_of",.globalImplicit)]:=by ac_rfl
def qeh(e:env.cells.lookup (s!"book")=!cc):closureFor nR.2.2.1 env=pure [(s!"book",cc)]:=by
 unfold closureFor;rw[qeg];simp[cellOf,e]
def Ar:Str:=(s!"all_sizes" ++ s!".<locals>.")++s!"<lambda>"
inductive Dj(Pt:Addr):List V->Hp->VK->XK->Prop
|m (B p U Sp:Addr) (ds:List Nd) (ls:TB) (us:List (List Un)) (sp:TC):vs=[.ref B,.ref p,.ref U,.ref Sp]->cM (λ_=>True) H B ds->LstAt LkAt H p ls->LstAt Bw.RowAt H U us->LstAt PrAt H Sp sp->(∀sz:List Sz,sz⁻¹=ds⁻¹->kq ds ls sz sp us)->(∀n,0<=aB ls n 2)->ds⁻¹<64->kx H Pt nR.2.2.2 Ar->(∀(S:Addr) (sz:List Sz) (H':Hp),H S=none->jz H H'->LstAt SzAt H' S sz->sz⁻¹=ds⁻¹->Ad ds ls us sp sz->(∀z∈sz,0<=z.h)->Q (.ref S) H')->Dj Pt vs H Q E
def RQ:n8 ["book", "looks", "units", "spans", "sizes", "node"] ["book", "looks", "units", "spans"] (bw fz):=⟨O,O,O,by ac_rfl,O,by ac_rfl,by ac_rfl⟩
def qei{f c Pt fl:Addr}{dl:FuncData}{oc dV kV bq pm ct:Value}{od an:Option Addr}{fB:Array (Option Value)}(lk:K.lookup f=!⟨oc,od,.func (W.fnOf "all_sizes" "all_sizes" (dw fz) (cy fz) (bw fz) dV kV bq pm an (.ref c) ct),fB⟩)(qej:W.codeIn K (.ref c) "all_sizes" = true)(T:bY mg)(tSo:mg "sorted" = none)(hC:W.codeHdIn K c Pt=true)(hPt:Pt≠mainGlobals)(hB:base.BuiltinsAt mg Pt)(Fl:(~~~0) 2 fl dl ["book", "node"] Fb)(CZ:Binds K dl ["book", "node"] [])(Jg:W.keepIn K (.ref fl)=true)(Jh:mg "level_of" = !.ref fl)(qek:⋯ 7 "node_size" ["book", "looks", "units", "spans", "sizes", "node"] IH):(~~~0) 8 f (W.fnOf "all_sizes" "all_sizes" (dw fz) (cy fz) (bw fz) dV kV bq pm an (.ref c) ct) ["book", "looks", "units", "spans"] (Dj Pt):=by
 show DS lk qej RQ (λvs H Q E h=>?_) (λA outer s H vs Q E hr h=>?_)
 .let⟨B,p,U,Sp,ds,ls,us,sp,rfl,_⟩:=h;rfl
 .obtain⟨B,p,U,Sp,ds,ls,us,sp,rfl,hBk,nO,hun,fU,cx,l0,RS,tb,q⟩:=h;let RT:Room 7 (fT am P w K mg base ["book", "looks", "units", "spans", "sizes", "node"] "all_sizes" (bw fz) f (.ref c) A outer s H E).nox.A:=hr;let qel:Room (2+3) (fT am P w K mg base ["book", "looks", "units", "spans", "sizes", "node"] "all_sizes" (bw fz) f (.ref c) A outer s H E).nox.A:=RT.mono {};have:Nd (fT am P w K mg base ["book", "looks", "units", "spans", "sizes", "node"] "all_sizes" (bw fz) f (.ref c) A outer s H E).nox.N:=⟨RQ.nd⟩;let hxl:∀(o:List Env) (h:Hp) (s2:Shared) (e:Value) (s3:Shared),am o h s2 E0 e s3->False:=λ_ _ _ _ _ z=>z
  let TT:PSs (fT am P w K mg base ["book", "looks", "units", "spans", "sizes", "node"] "all_sizes" (bw fz) f (.ref c) A outer s H E).nox (cy fz) _:=(ax (sm 4 ["node"] [] [] (bc '0') (nv 0) br (bR (aO ao (a3 (bf bX) (bf bX) ao))))
   (ax (fv (bc (qd5 (ix:=0) (by rfl) (by rfl) tSo Ma (a1 (iL YA (by rfl) T.range qai (a1 (ln T.len '0')))) qef qel (by rfl) (by rfl) (by rfl) O hC hPt hB (λcc e=>qeh e) (by rfl) (λ_ _ _ _ _ _=>rfl) Fl CZ Jg Jh hxl)) (nv 5)
   (aA (nW (L7 qek RT (by rfl) Eb (aO '0' (aO '1' (aO '2' (a3 '3' '4' '5'))))) (tP '4' '5' pX))))
   (aA (aH '4'))))
  show⟨_,TT.nox,?_⟩;let⟨ab,As,nd⟩:=hBk;let dR:ab⁻¹=ds⁻¹:=nd⁻¹;show-⟨B,O,⟨_,ag As⟩,bB (xs:=↑ab) (λi ys ae H'=>Same H H'/\(∃z,ae=[z])/\∃as,ys=↑as/\Paired (SzN (λ_=>True) H') as (List.replicate i ⟨0,[],[],0⟩)) (by rw[qA];show aW ()) ⟨Same.refl H,⟨none,O⟩,[],O,.nil⟩ ?_ ?_ ?_⟩
  .ext i ys ae H' hi ⟨s1,_,as,rfl,pr⟩;show ag (s1 _ _ As)
  .ext i y ys ae H' hy ⟨s1,⟨z,rfl⟩,as,rfl,pr⟩;show⟨aT,λX hX=>⟨aT,λY hY=>⟨aT,λt ht=>?_⟩⟩⟩;let s2:=ay hX (.lst []);let s3:=ay hY (.lst []);let s4:=ay ht (.tup [.int 0,.ref X,.ref Y,.int 0]);let sA:=(s2.trans s3).trans s4;show⟨s1.trans sA,⟨_,O⟩,as++[t],by rw[qD];rfl,?_⟩;rw[List.replicate_succ'];show(pr.mono λ_ _ z=>z.same sA).snoc ⟨X,Y,ar,trivial,⟨[],(s3.trans s4) _ _ ar,.nil⟩,trivial,[],s4 _ _ ar,.nil⟩
  ext ys ae H1 ⟨s1,_,as,rfl,pr⟩ S hS;rw[qA,dR]at pr;let s2:=ay hS (.lst ↑as);let gK:af H1 S (.lst ↑as) S=!.lst ↑as:=ar;let RU:Paired (SzN (·≠ S) (af H1 S (.lst ↑as))) as (List.replicate ds⁻¹ ⟨0,[],[],0⟩):=pr.mono λ_ _ z=>(z.mono (N':=(·≠ S)) λb ⟨o,e⟩ _ y=>by rw[y,hS]at e;cases e).same s2
  let be:=s1.trans s2;let S0:H S=none:=s1.free hS;generalize af H1 S (.lst ↑as)=H2 at gK RU be⊢;clear s2 hS s1 pr;let⟨Lv,RV⟩:=Book.levs (cx (List.replicate ds⁻¹ ⟨0,[],[],0⟩) (yH)).bk;show-⟨B,_,O,.inl (ag (be _ _ As)),(↑ab)⁻¹,O,by rw[qA];omega,λr CC=>?_⟩;let s3:=be.trans (ay CC (.rng 0 (↑ab)⁻¹));let pz:=ay CC (.rng 0 (↑ab)⁻¹) _ _ gK;let jv:Paired (SzN (·≠ S) (af H2 r (.rng 0 (↑ab)⁻¹))) as (List.replicate ds⁻¹ ⟨0,[],[],0⟩):=RU.mono λ_ _ z=>z.same (ay CC _)
  let l6:af H2 r (.rng 0 (↑ab)⁻¹) r=!.rng 0 (↑ab)⁻¹:=ar;generalize af H2 r (.rng 0 (↑ab)⁻¹)=H3 at s3 pz jv l6⊢;let RW:kx H3 Pt nR.2.2.2 Ar:=Jf (λb o _ e=>s3 b o e) tb;let nP:∀{b:Addr} {o:HO},(∀qs,o≠.tbl qs)->H3 b=!o->b≠Pt:=λn e z=>by
   let⟨ps,e',_⟩:=RW;rw[z,e']at e;cases e;show n _ O
  show⟨r,(↑ab)⁻¹,.ref B,λi=>(Lv i:Int),O,l6,by rw[qA];omega,RW,O,λH4 c' Di tb4 eO=>?_⟩;show⟨λH'=>(∀b o,b≠Pt->H3 b=!o->H' b=!o)/\H' c'=!nH c' Ar/\kx H' Pt nR.2.2.2 Ar,⟨λb o n e=>Di b n o e,eO,tb4⟩,λH' h=>h.2.1,λi H' hi h=>?_,λa ms H' h ha pm dp=>?_⟩
  .let cC:i<ds⁻¹:=by rw[qA]at hi;omega
   let sd:jz H H':=λb o n e=>h.1 b o (nP n (s3 _ _ e)) (s3 _ _ e)
   let⟨l1,l2⟩:=RV i cC;show⟨B,i,Lv i,ds,_,O,Je sd ⟨ab,As,nd⟩,l1,(),λH5 s5=>⟨⟨λb o n e=>s5 _ _ (h.1 b o n e),s5 _ _ h.2.1,Jf (λb o _ e=>s5 b o e) h.2.2⟩,O⟩⟩
  let gh:∀m∈ms,m<ds⁻¹:=λm hm=>by
   have:=xC.mp (pm.mem_iff.mp hm);rw[qA]at this;omega
  let ml:ms⁻¹=ds⁻¹:=by rw[pm.length_eq,xZ,qA,dR]
  let Dk:jz H3 (af H' a (.lst ⇑(ms.map λ(i:Nat)=>(i:Int)))):=λb o n e=>by
   let e':=h.1 b o (nP n e) e;rw[aM (cH e' ha)];show e'
  let Ji:KL (af H' a (.lst ⇑(ms.map λ(i:Nat)=>(i:Int)))) a ms:=ar;let aS:a≠S:=λz=>by
   have:=h.1 S _ (nP (o:=.lst ↑as) (λ_ z=>nomatch z) pz) pz;rw[<-z,ha]at this;cases this
  generalize af H' a (.lst ⇑(ms.map λ(i:Nat)=>(i:Int)))=G0 at Dk Ji⊢;let sm:∀{G:Hp},Keep1 S G0 G->jz H G:=λk1 b o n e=>k1 _ _ (λz=>by rw[z,S0]at e;cases e) (Dk _ _ n (s3 _ _ e))
  let ms0:ms.Nodup:=pm.nodup_iff.mpr List.nodup_range;show⟨a,O,⟨_,ag Ji⟩,iK (xs:=⇑(ms.map λ(j:Nat)=>(j:Int))) (λi σ G=>Keep1 S G0 G/\(∃z5,σ=[!.ref B,!.ref p,!.ref U,!.ref Sp,!.ref S,z5])/\∃as sz,G S=!.lst ↑as/\Paired (SzN (·≠ S) G) as sz/\sz⁻¹=ds⁻¹/\C1 ds ls us sp ms i sz/\∀z∈sz,0<=z.h) ⟨KeepN.refl,⟨none,O⟩,as,_,Dk _ _ (λ_ z=>nomatch z) pz,jv.mono λ_ _ z=>z.g Dk,yH,(λj n d hj=>qT hj (xS _)),λz hz=>by rw[vD hz];show xF _⟩ ?_ ?_ ?_⟩
  .ext i σ G hi ⟨k1,_⟩;show ag (k1 _ _ aS Ji)
  .ext i y σ G hy ⟨k1,⟨z5,rfl⟩,as,sz,Au,Av,lz,to,nn⟩;let⟨m,em,rfl⟩:=fN hy;let hm:=gh m (qN em);let sd:=sm k1;let las:=qU Av;let ed:ds[m]?=!ds[m]:=qB hm;let Jj:=cx sz lz;dsimp only[aY];show¬⟨_,O,_,O,_,O,_,O,B,p,U,Sp,S,m,ds[m],ds,ls,us,sp,sz,O,⟨⟨⟨Je sd ⟨ab,As,nd⟩,RN sd nO,as,Au,Av.mono λ_ _ z=>z.at⟩,RO sd fU⟩,RP sd hun⟩,Jj,ed,λt z G1 s4 hz iz=>?_⟩;let jy:=s4 _ _ Au;show¬⟨S,_,_,m,O,O,jy,by rw[qA,las,lz];show GH hm,λb o n e=>by rw[aM n];show s4 _ _ (k1 b o n e),⟨_,O⟩,as.set m t,sz.set m z,by rw[ar,List.map_set],?_,by rw[u7,lz],qdB RV dp ms0 lz to em ed iz,λv hv=>?_⟩
   .show Paired.set (Av.mono λ_ _ y=>(y.same s4).put jy) ((hz.mono (N':=(·≠ S)) λb _ hb e=>by rw[e,Au]at hb;cases hb).put jy) m
   .rcases List.mem_or_eq_of_mem_set hv with hv | rfl
    .show nn v hv
    .show iz.nn2 (Rh nn) l0 ed (Jj.bk.form _ (rJ hm)) λu hu=>((C2 Jj hm).2 u hu).2.1
  .ext σ G ⟨k1,⟨z5,rfl⟩,as,sz,Au,Av,lz,to,nn⟩;let pm':ms.Perm (List.range ds⁻¹):=by rw[qA,dR]at pm;show pm
   rw[qA,qA]at to;show-⟨q S sz G S0 (sm k1) ⟨as,Au,Av.mono λ_ _ z=>z.at⟩ lz (qdC pm' to) nn⟩
end K33
namespace K33
open L2 Bk Gen Gd Bd Ins
abbrev RX:=top 110
inductive Jk:List V->Hp->VK->XK->Prop
|m (B S:Addr) (n:Nat) (ds:List Nd) (sp:TC):vs=[.ref B,.ref S,.int n]->cM (λ_=>True) H B ds->LstAt PrAt H S sp->n<ds⁻¹->sp⁻¹=ds⁻¹->(∀(m:Nat) (d:Nd),ds[m]?=!d->d.k=.picture->∃a b:Int,d.st=[.int a,.int b])->Q (.int (iD ds sp n)) H->Jk vs H Q E
def qem(F:Fu K "own_wide" RX f fd)(U:sw mg)(tS:∃t,mg "STUFF" = !.int 4 t):(~~~0) 1 f fd ["book", "spans", "node"] Jk:=by
 rcases F.go ["book", "spans", "node"] with⟨B,S,n,ds,sp,rfl,⟨as,hB,nd⟩,⟨bs,hS,pr⟩,hn,gO,pic,q⟩;let⟨_,dW⟩:=U.kind;let⟨_,mU⟩:=tS;let⟨_,gN⟩:=U.wide;let ed:ds[n]?=!ds[n]:=qB hn;let⟨a,ea,na⟩:=nd.get ed;let⟨_,m',s',ha,_,_,st⟩:=na;generalize ds[n]=d at ed ha st;let ow:iD ds sp n=if d.k=.picture then iT d else(aJ sp n).2:=by unfold iD;rw[ed]
 show⟨_,(aA (aH (jI (tc bv (px aF (px aK '0' '2') (gi dW)) aU) (px aK (px aF (px aK '0' '2') (gi mU)) ao) (px aF (px aK '1' '2') (gi gN))))),?_⟩;rw[ow]at q;let⟨_,mV,bu,fi⟩:=st;let hb:n<bs⁻¹:=by rw[qU pr,gO];show hn
 let eb:bs[n]?=!bs[n]:=qB hb;let⟨pp,ep,Cm⟩:=bW pr eb;let epp:aJ sp n=pp:=by unfold aJ;rw[ep];rfl
 show¬⟨B,_,_,_,O,O,ag hB,aX ea,a,_,_,_,O,O,aC ha,O,O,_,O,?_⟩
 by_cases hp:d.k=.picture
 .show hV (bH d.k .picture) hp ?_;let⟨w1,h1,jZ⟩:=pic n d ed hp;let sn:mV[0]?=!.int w1:=by
   rw[jZ]at fi;cases fi with
   | cons q1 _=>rw[show _=V.int w1 from q1];rfl
  show¬⟨B,_,_,_,O,O,ag hB,aX ea,a,_,_,_,O,O,aC ha,O,s',_,_,_,O,O,ag bu,fX (j:=0) sn,?_⟩;rw[qX hp]at q;unfold iT at q;rw[jZ]at q;show q
 .show h8 (bH d.k .picture) hp ?_;rw[qY hp,epp]at q;show¬⟨S,_,_,_,O,O,ag hS,aX eb,_,_,_,_,O,O,aC Cm,O,q⟩
end K33
namespace Ins
open L2 Bk Gen Gd Shr Sp0
open Bd
section
variable{box:Nat->Int->List Int}{tops:Nat->List (Nat×Int)}{ds:List Nd}{t:Int}
theorem Jl{t:Int}{x:Nat×Int}:∀{xs:List (Nat×Int)} {T:Nat->Option Int},(xs.map Prod.fst).Nodup->x∈xs->put T t xs x.1=!t+x.2
 | y :: xs, T, nd, h => by
   rw[xP]at nd
   let⟨n1,n2⟩:=y9.mp nd
   show put (λj=>if j=y.1 then !t+y.2else T j) t xs x.1=_
   rcases qM.mp h with e | h
   · rw[e,CG n1,qX O]
   · show Jl n2 h
structure Bx(box:Nat->Int->List Int)(tops:Nat->List (Nat×Int))(ds:List Nd)(t:Int)(i:Nat)(st:List (TN)×(Nat->Option Int)):Prop where
 a:st.1=((List.range i).filter λj=>(Bool.not (bQ ds j))).map λj=>box j ((st.2 j).getD 0)
 b:∀(j:Nat) (d:Nd),ds[j]?=!d->bQ ds j=false->d.e<(i:Int)->st.2 j≠none
 c:∀j,st.2 j≠none->bQ ds j=false
 d:∀n,n<i->∀x∈tops n,∀u,st.2 n=!u->st.2 x.1=!u+x.2
 e:st.2 0=!t
def qen{i:Nat}{st:List (TN)×(Nat->Option Int)}(bk:Book ds)(ts:∀n,((tops n).map Prod.fst).Sublist (aw ds n))(cv:∀n m,m∈aw ds n->bQ ds m=false->m∈(tops n).map Prod.fst)(nn:∀n,∀x∈tops n,bQ ds x.1=false)(hi:i<ds⁻¹)(h:Bx box tops ds t i st):Bx box tops ds t (i+1) (stepI box tops st i):=by
 let⟨dX,T⟩:=st;let bh:=mS bk;obtain⟨d,ed⟩:∃d,ds[i]?=!d:=⟨_,qB hi⟩;let kid:∀{j:Nat} {c:Nd} {n:Nat},ds[j]?=!c->c.e=(n:Int)->j∈aw ds n:=λ{j c n} e1 e2=>rY.mpr ⟨xC.mpr (qE.mp e1).1,by rw[e1];show qR (xH some e2)⟩
 let gt:∀{n j:Nat},j∈(tops n).map Prod.fst->n<j/\j∈aw ds n:=λ{n j} hj=>by
  let h1:=(ts n).subset hj;let⟨c,e1,e2⟩:=fK h1;have:=bh j c e1;show⟨(),h1⟩
 cases hT:T i with
 | none =>
   rw[P8 hT]
   let hn:bQ ds i=true:=by
     cases z:bQ ds i with
     | true=>rfl
     | false=>show qT hT (h.b i d ed z (bh i d ed))
   show⟨?_,λj c ej hj lt=>?_,h.c,λn tG x hx u hu=>?_,h.e⟩
   · rw[h.a,yV,rS,uV,qY (by rw[hn];simp)]
     simp
   · by_cases e:c.e=(i:Int)
     · exfalso
       let⟨c',e1,e2⟩:=Jb bk ed (kid ej e)
       let e3:d.k=.note:=by
         have:=rF hn
         rw[ed]at this
         show qZ this
       rw[e3]at e2
       revert e2
       cases c'.k<;>decide
     · show h.b j c ej hj ()
   · by_cases e:n=i
     · let hu:T n=!u:=hu
       rw[e,hT]at hu
       cases hu
     · show h.d n () x hx u hu
 | some u =>
   rw[P9 hT]
   let out:∀{j:Nat},j∉(tops i).map Prod.fst->put T u (tops i) j=T j:=λhj=>CG hj
   let low:∀{j:Nat},j<=i->put T u (tops i) j=T j:=λ{j} hj=>out λz=>by have:=(gt z).1;omega
   let nd:((tops i).map Prod.fst).Nodup:=(ts i).nodup (Cd i)
   let hn:bQ ds i=false:=h.c i (by show T i≠none;rw[hT];simp)
   show⟨?_,λj c ej hj lt=>?_,λj hj=>?_,λn tG x hx v hv=>?_,(low (rO _)).trans h.e⟩
   · show dX++[box i u]=_
     rw[yV,rS,uV,qX (by rw[hn];rfl),qD]
     congr 1
     · rw[show dX=_ from h.a]
       show uU λj hj=>?_
       have:=xC.mp (rY.mp hj).1
       show box j ((T j).getD 0)=box j ((put T u (tops i) j).getD 0)
       rw[low ()]
     · show _=[box i ((put T u (tops i) i).getD 0)]
       rw[low (qG _),hT]
       rfl
   · show put T u (tops i) j≠none
     by_cases e:c.e=(i:Int)
     · have:=cv i j (kid ej e) hj
       let⟨x,hx,rfl⟩:=qP.mp this
       rw[Jl nd hx]
       simp
     · rw[out λz=>by
         let⟨c',e1,e2⟩:=fK (gt z).2
         rw[ej]at e1
         cases e1
         show e e2]
       show h.b j c ej hj ()
   · by_cases z:j∈(tops i).map Prod.fst
     · let⟨x,hx,rfl⟩:=qP.mp z
       show nn i x hx
     · show h.c j (by show T j≠none;rw[<-out z];show hj)
   · show put T u (tops i) x.1=_
     let w:T n=!v:=(low (j:=n) ()).symm.trans hv
     by_cases e:n=i
     · subst e
       rw[hT]at w
       cases w
       show Jl nd hx
     · rw[out λz=>e (OE (gt (yQ hx)).2 (gt z).2)]
       show h.d n () x hx v w
theorem RY(bk:Book ds)(ts:∀n,((tops n).map Prod.fst).Sublist (aw ds n))(cv:∀n m,m∈aw ds n->bQ ds m=false->m∈(tops n).map Prod.fst)(nn:∀n,∀x∈tops n,bQ ds x.1=false):∀i,i<=ds⁻¹->Bx box tops ds t i ((List.range' 0 i).foldl (stepI box tops) ([],λj=>if j=0 then !t else none))
 | 0, _ => by
   let bh:=mS bk
   show⟨O,λj d ej hj lt=>?_,λj hj=>?_,λn hn=>qT hn (xS _),O⟩
   · rcases(Bk.Book.each bk ej).up with⟨e0,_⟩ | ⟨_,k,_,e,_⟩
     · show(if j=0 then !t else none)≠none
       rw[qX e0]
       simp
     · omega
   · by_cases e0:j=0
     · rw[e0]
       let⟨d0,sub,ks,rfl,_,k0,_⟩:=bk.tree
       show qV λz=>?_
       let z:d0.k=.note:=qZ z
       rw[k0]at z
       cases z
     · show qT (qY e0) hj
 | i + 1, hi => by
   let er:List.range' 0 (i+1)=List.range' 0 i++[i]:=by rw[List.range'_concat];simp
   rw[er,List.foldl_append]
   show qen bk ts cv nn () (RY bk ts cv nn i ())
end
section
variable{ds:List Nd}{ls:TB}{us:List (List Un)}{sp:TC}{sz:List Sz}{t:Int}
def cG(ds:List Nd):TM:=(List.range ds⁻¹).filter λj=>(Bool.not (bQ ds j))
structure Tp(ds:List Nd)(ls:TB)(hs:Nat->Int)(t:Int)(tp:Nat->Int):Prop where
 top:tp 0=t
 kid:∀n,n<ds⁻¹->bQ ds n=false->∀x∈bJ ds ls hs n,tp x.1=tp n+x.2
def Aw{n:Nat}(ed:ds[n]?=!d)(h:d.k≠.note):bQ ds n=false:=by
 unfold bQ;rw[ed];show qV λz=>h (qZ z)
def qeo{n:Nat}(ed:ds[n]?=!d)(h:bQ ds n=false):d.k≠.note:=λz=>by
 have:=of_decide_eq_false h;rw[ed]at this;show this (xH some z)
def qep(h:fF a b=true)(hb:b≠.note):¬(a=.text\/a=.head\/a=.note):=by
 ext(rfl | rfl | rfl)<;>revert h hb<;>cases b<;>decide
def RZ(h:fF a b=true)(ha:¬(a=.text\/a=.head\/a=.note)):b≠.note/\a≠.picture:=by
 show⟨λz=>?_,λz=>?_⟩
 .subst z;cases a<;>first | show ha (.inl rfl) | show ha (.inr (.inl rfl)) | cases h
 .subst z;cases b<;>cases h
def qeq(sg:SpG ds ls ds⁻¹ sp){n:Nat}(ed:ds[n]?=!d)(hg:d.k=.grid):(dY (aB ls n 7).toNat (b8 ls (aw ds n)))⁻¹=(aw ds n)⁻¹:=by
 let⟨pl,pd,_⟩:=(sg n d (qE.mp ed).1 ed).gr hg;rw[<-pd.eq,pd.len];unfold b8;rw[qA]
def Dl(bk:Book ds)(sg:SpG ds ls ds⁻¹ sp){hs:Nat->Int}{n m:Nat}(h:m∈aw ds n)(hm:bQ ds m=false):∃d,ds[n]?=!d/\d.k≠.picture/\¬(d.k=.text\/d.k=.head\/d.k=.note)/\∃u,(m,u)∈bJ ds ls hs n:=by
 let⟨c,ec,he⟩:=fK h;have:=mS bk m c ec;let hn:n<ds⁻¹:=by have:=cO h;omega
 let ed:ds[n]?=!ds[n]:=qB hn;let⟨c',gx,mh⟩:=Jb bk ed h;rw[ec]at gx;cases gx;let np:=qep mh (qeo ec hm);show⟨_,ed,(RZ mh np).2,np,qeb bk ed np (λz=>qeq sg ed z) h⟩
def qer(bk:Book ds)(sg:SpG ds ls ds⁻¹ sp):∃tp,((List.range' 0 ds⁻¹).foldl (stepI (dE ds sp sz) (bJ ds ls (aI sz))) ([],λj=>if j=0 then !t else none)).1=(cG ds).map (λj=>dE ds sp sz j (tp j))/\Tp ds ls (aI sz) t tp:=by
 let h:=RY (box:=dE ds sp sz) (tops:=bJ ds ls (aI sz)) (t:=t) bk (λn=>sB) (λn m hm hz=>by
  let⟨_,_,_,_,u,hu⟩:=Dl (hs:=aI sz) bk sg hm hz;show qP.mpr ⟨_,hu,O⟩) (λn x hx=>by
  let hk:=Ap hx;let⟨c,ec,he⟩:=fK hk;have:=mS bk _ c ec;let hn:n<ds⁻¹:=by have:=cO hk;omega
  let ed:ds[n]?=!ds[n]:=qB hn;let⟨c',gx,mh⟩:=Jb bk ed hk;rw[ec]at gx;cases gx;show Aw ec (RZ mh λz=>?_).1;rw[CU ed z]at hx;cases hx) ds⁻¹ (qG _)
 generalize (List.range' 0 ds⁻¹).foldl (stepI (dE ds sp sz) (bJ ds ls (aI sz))) ([],λj=>if j=0 then !t else none)=st at h;show⟨λj=>(st.2 j).getD 0,h.a,by show(st.2 0).getD 0=t;rw[h.e];rfl,λn hn nz x hx=>?_⟩;let ed:ds[n]?=!ds[n]:=qB hn;let lt:=mS bk n _ ed;cases hu:st.2 n with
 | none=>show qT hu (h.b n _ ed nz ())
 | some u =>
   show(st.2 x.1).getD 0=_
   rw[h.d n hn x hx u hu]
   rfl
variable{tp:Nat->Int}
def qes(az:Ad ds ls us sp sz){n:Nat}(ed:ds[n]?=!d)(h1:d.k≠.picture)(h2:¬(d.k=.text\/d.k=.head\/d.k=.note)):aI sz n=sQ ds ls (aI sz) n:=by
 let⟨z,ez,iz⟩:=az n d ed;rw[qdD ez];cases iz with
 | pic a _=>show qT a h1
 | box _ _=>rfl
 | row a _ _=>show qT a h2
def R0(ds:List Nd)(ls:TB)(sp:TC)(sz:List Sz)(tp:Nat->Int)(n m:Nat):Prop:=n<ds⁻¹/\bQ ds n=false/\tp n<=tp m/\tp m+aI sz m<=tp n+aI sz n/\(aJ sp n).1+aB ls n 3<=(aJ sp m).1
def R3(ds:List Nd)(sp:TC)(sz:List Sz)(tp:Nat->Int)(a b:Nat):Prop:=bN ds b=!a\/tp a+aI sz a<=tp b\/tp b+aI sz b<=tp a\/(aJ sp a).1+(aJ sp a).2<=(aJ sp b).1\/(aJ sp b).1+(aJ sp b).2<=(aJ sp a).1
def qet(c5:Cx5 ds ls sz sp)(sg:SpG ds ls ds⁻¹ sp)(az:Ad ds ls us sp sz)(h0:∀m,0<=aI sz m)(l0:∀m,0<=aB ls m 2)(T:Tp ds ls (aI sz) t tp){n m:Nat}(h:m∈aw ds n)(hm:bQ ds m=false):R0 ds ls sp sz tp n m:=by
 let⟨d,ed,np,nt,u,hu⟩:=Dl (hs:=aI sz) c5.bk sg h hm;let hn:=(qE.mp ed).1;let nz:bQ ds n=false:=Aw ed λz=>nt (.inr (.inr z))
 let k:=T.kid n hn nz _ hu;let u0:=RM h0 l0 ed hu;let hg:u+aI sz m<=sQ ds ls (aI sz) n:=jU _ (qP.mpr ⟨_,hu,O⟩);rw[<-qes az ed np nt]at hg;let⟨l,_,ok,lv⟩:=c5.look hn;let⟨l',_,oR,oT⟩:=c5.look (cO h);let r0:0<=(cf ls sp n).2:=by unfold cf;show 0<=max 0 _;omega
 show⟨hn,nz,by rw[k];show tp n<=tp n+u;have:0<=u:=u0;omega,by rw[k];show tp n+u+_<=_;omega,?_⟩;show qed (sg n d hn ed) r0 (by rw[lv];show ok.cols.1) ed nt (by rw[oT];rcases oR.side with z | z<;>omega) h
def qeu(c5:Cx5 ds ls sz sp)(sg:SpG ds ls ds⁻¹ sp)(h0:∀m,0<=aI sz m)(l0:∀m,0<=aB ls m 2)(T:Tp ds ls (aI sz) t tp){n a b:Nat}(ha:a∈aw ds n)(hb:b∈aw ds n)(na:bQ ds a=false)(nb:bQ ds b=false)(lt:a<b):R3 ds sp sz tp a b:=by
 let⟨d,ed,np,nt,u,hu⟩:=Dl (hs:=aI sz) c5.bk sg ha na;let⟨_,_,_,_,v,hv⟩:=Dl (hs:=aI sz) c5.bk sg hb nb;let hn:=(qE.mp ed).1;let nz:bQ ds n=false:=Aw ed λz=>nt (.inr (.inr z))
 let k:=T.kid n hn nz _ hu;let k':=T.kid n hn nz _ hv;let⟨l,_,ok,lv⟩:=c5.look hn;let r0:0<=(cf ls sp n).2:=by unfold cf;show 0<=max 0 _;omega
 have:=qec (x:=(a,u)) (y:=(b,v)) (sg n d hn ed) r0 h0 l0 (by rw[lv];show ok.cols.1) ed hu hv lt;let k:tp a=tp n+u:=k;let k':tp b=tp n+v:=k';change _\/u+aI sz a<=v\/v+aI sz b<=u\/_ at this;rcases this with z | z | z | z
 .show .inl z
 .show .inr (.inl ())
 .show .inr (.inr (.inl ()))
 .show .inr (.inr (.inr z))
end
inductive Jm:List V->Hp->VK->XK->Prop
|m (B p Sp S:Addr) (n:Nat) (t:Int) (ds:List Nd) (ls:TB) (sp:TC) (sz:List Sz):vs=[.ref B,.ref p,.ref Sp,.ref S,.int n,.int t]->InI H B p Sp S ds ls sp sz->Cx5 ds ls sz sp->n<ds⁻¹->(∀(L:Addr) (H':Hp),H L=none->Same H H'->LstAt km H' L ((List.range' n (ds⁻¹-n)).foldl (stepI (dE ds sp sz) (bJ ds ls (aI sz))) ([],λj=>if j=n then !t else none)).1->Q (.ref L) H')->Jm vs H Q E
def BxAt(H:Hp)(D:Addr)(ds:List Nd)(sp:TC)(sz:List Sz)(tp:Nat->Int):=∃aj,H D=!.dK aj/\∀j,j<ds⁻¹->bQ ds j=false->∃a,bP aj (.inl (j:Int))=!.ref a/\km H a (dE ds sp sz j (tp j))
def BxAt.same{sp:TC}{tp:Nat->Int}(s:Same H H')(h:BxAt H D ds sp sz tp):BxAt H' D ds sp sz tp:=by
 let⟨aj,e,q⟩:=h;show⟨aj,s _ _ e,λj hj hn=>by
  let⟨a,h1,h2⟩:=q j hj hn;show⟨a,h1,s _ _ h2⟩⟩
def BxAt.get{sp:TC}{tp:Nat->Int}(h:BxAt H D ds sp sz tp){j:Nat}(hj:j<ds⁻¹)(hn:bQ ds j=false):∃a,DGet H D (.int (j:Int)) (!.ref a)/\H a=!.tup [.int j,.int (aJ sp j).1,.int (tp j),.int (iD ds sp j),.int (aI sz j)]:=by
 let⟨aj,e,q⟩:=h;let⟨a,h1,h2⟩:=q j hj hn;have:=DGet.k (k:=.inl (j:Int)) e;rw[h1]at this;show⟨a,this,h2⟩
structure InG(H:Hp)(B p U Sp S D:Addr)(ds:List Nd)(ls:TB)(us:List (List Un))(sq:TC)(zq:List Sz)(tp:Nat->Int):Prop extends InZ H B p U Sp S ds ls us sq zq where
 bx:BxAt H D ds sq zq tp
def InG.same{H H':Hp}{B p U Sp S D:Addr}{ds:List Nd}{ls:TB}{us:List (List Un)}{sp:TC}{sz:List Sz}{tp:Nat->Int}(h:InG H B p U Sp S D ds ls us sp sz tp)(s:Same H H'):InG H' B p U Sp S D ds ls us sp sz tp:=⟨h.toInZ.same s,h.bx.same s⟩
inductive Jn:List V->Hp->VK->XK->Prop
|m (B p U Sp S D:Addr) (n:Nat) (ds:List Nd) (ls:TB) (us:List (List Un)) (sp:TC) (sz:List Sz) (tp:Nat->Int):vs=[.ref p,.ref D,.int n]->InG H B p U Sp S D ds ls us sp sz tp->kq ds ls sz sp us->n<ds⁻¹->bQ ds n=false->(∀(L:Addr) (r:Int) (H':Hp),Same H H'->H' L=!.lst [.int ((aJ sp n).1+aB ls n 3),.int r]->Q (.ref L) H')->Jn vs H Q E
inductive Jo:List V->Hp->VK->XK->Prop
|m (B p U Sp S D:Addr) (n m:Nat) (ds:List Nd) (ls:TB) (us:List (List Un)) (sp:TC) (sz:List Sz) (tp:Nat->Int):vs=[.ref B,.ref p,.ref D,.int m]->InG H B p U Sp S D ds ls us sp sz tp->kq ds ls sz sp us->m∈aw ds n->bQ ds m=false->R0 ds ls sp sz tp n m->(∀(H':Hp),Same H H'->Q (.bl true) H')->Jo vs H Q E
inductive Jp:List V->Hp->VK->XK->Prop
|m (B p U Sp S D:Addr) (m:Nat) (ds:List Nd) (ls:TB) (us:List (List Un)) (sp:TC) (sz:List Sz) (tp:Nat->Int):vs=[.ref Sp,.ref D,.int m]->InG H B p U Sp S D ds ls us sp sz tp->kq ds ls sz sp us->m<ds⁻¹->bQ ds m=false->Q (.bl (decide (iD ds sp m>(aJ sp m).2))) H->Jp vs H Q E
inductive Jq:List V->Hp->VK->XK->Prop
|m (a b:Addr) (i l t v h i' l' t' v' h':Int):vs=[.ref a,.ref b]->H a=!.tup [.int i,.int l,.int t,.int v,.int h]->H b=!.tup [.int i',.int l',.int t',.int v',.int h']->(t+h<=t'\/t'+h'<=t\/l+v<=l'\/l'+v'<=l)->Q (.bl false) H->Jq vs H Q E
inductive Jr:List V->Hp->VK->XK->Prop
|m (B p U Sp S D:Addr) (a b:Nat) (ds:List Nd) (ls:TB) (us:List (List Un)) (sp:TC) (sz:List Sz) (tp:Nat->Int):vs=[.ref B,.ref Sp,.ref D,.int a,.int b]->InG H B p U Sp S D ds ls us sp sz tp->kq ds ls sz sp us->a<ds⁻¹->bQ ds a=false->b<ds⁻¹->bQ ds b=false->R3 ds sp sz tp a b->(∀(H':Hp),Same H H'->Q (.bl true) H')->Jr vs H Q E
inductive Js:List V->Hp->VK->XK->Prop
|m (B p U Sp S:Addr) (n:Nat) (d:Nd) (ds:List Nd) (ls:TB) (us:List (List Un)) (sp:TC) (sz:List Sz):vs=[.ref B,.ref p,.ref U,.ref Sp,.ref S,.int n]->InZ H B p U Sp S ds ls us sp sz->kq ds ls sz sp us->Ad ds ls us sp sz->(∀m,0<=aI sz m)->ds[n]?=!d->d.k=.text->(∀(H':Hp),Same H H'->Q (.bl true) H')->Js vs H Q E
end Ins
namespace K33
open L2 Bk Gd Bd Shr Sp0 Ins
open Gen
abbrev R4:=top 109
def qev(F:Fu K "insides" R4 f fd)(T:bY mg)(tS:∃t,mg "SIZE_HIGH" = !.int 0 t)(tL:∃t,mg "LEFT" = !.int 0 t)(qew:⋯ 1 "own_wide" ["book", "spans", "node"] Jk)(Ir:⋯ 5 "held_tops" ["book", "looks", "sizes", "node"] CH):(~~~0) 6 f fd ["book", "looks", "spans", "sizes", "node", "top"] Jm:=by
 rcases F.go ["book", "looks", "spans", "sizes", "node", "top", "told", "tops", "one", "other", "below"] with⟨B,p,Sp,S,n,t,ds,ls,sp,sz,rfl,I,cx,hn,q⟩;let⟨_,lX⟩:=tS;let⟨_,kh⟩:=tL;let cV:=mB hr;show⟨_,(ax (sv 6 (bf bX))
  (ax (sv 7 (qcj (qch '4' '5' qcg) O O ∅ {}))
  (ax (fv (AN (by rfl) T.range (a2 '4' (ln T.len '0'))) (nv 8)
  (aA (ba (kD (M3 cV '8' '7')) (ax (cI (ap '6' (bR (aO '8' (aO (px aF (px aK '2' '8') (gi kh)) (a3 (kZ cV '7' '8' (λ_ _=>rfl)) (cF qew hr (a3 '0' '2' '8')) (px aF (px aK '3' '8') (gi lX))))))))
  (aA (fv (bc (cF Ir hr (aO '0' (a3 '1' '3' '8')))) (jJ (by rfl) (bF (nv 9) (bF (nv 10) dZ)))
  (aA (Fh cV '7' '9' (aG a9 (kZ cV '7' '8' (λ_ _=>rfl)) ':') (by rfl)))))) bi)))
  (aA (aH '6'))))),?_⟩
 let le:=cx.le;let ts:∀m,((bJ ds ls (aI sz) m).map Prod.fst).Sublist (aw ds m):=λm=>sB
 show⟨aT,λL hL=>?_⟩;let s1:=ay hL (.lst []);let bo:af H L (.lst []) L=!.lst ↑([]:TQ):=ar;generalize af H L (.lst [])=H1 at s1 bo⊢;show λD hD=>¬⟨ar,[(.inl (n:Int),.int t)],O,by show 1<=15;decide,?_⟩
 let DL:D≠L:=λz=>by rw[z,bo]at hD;cases hD
 let R5:af (af H1 D (.dK [])) D (.dK (nD [] [(.inl (n:Int),.int t)])) D=!.dK [(.inl (n:Int),.int t)]:=ar;let s2:Same H1 (af (af H1 D (.dK [])) D (.dK (nD [] [(.inl (n:Int),.int t)]))):=λb o e=>by
  rw[aM (cH e hD),aM (cH e hD)];show e
 let be:=s1.trans s2;let eI:=s2 _ _ bo;let D0:H D=none:=s1.free hD;generalize af (af H1 D (.dK [])) D (.dK (nD [] [(.inl (n:Int),.int t)]))=H2 at R5 s2 be eI⊢;let sm:∀{G:Hp},KeepN (λb=>b≠L/\b≠D) H2 G->Same H G:=λk1 b o e=>k1 _ _ ⟨(λz=>by rw[z,hL]at e;cases e),(λz=>by rw[z,D0]at e;cases e)⟩ (be _ _ e)
 let qex:DRel [(.inl (n:Int),.int t)] (λj=>if j=n then !t else none):=λj=>by
  by_cases e:j=n
  .rw[gF (show(Sum.inl (n:Int):aV)=Sum.inl (j:Int) by rw[e])];simp[e]
  .rw[gG (show¬(Sum.inl (n:Int):aV)=Sum.inl (j:Int)from λz=>e (by have:=Sum.inl.inj z;omega)),Yc];simp[e]
 let⟨ab,hB,nd⟩:=(I.same be).bk;let dR:ab⁻¹=ds⁻¹:=nd⁻¹;show¬⟨B,_,O,.inl (ag hB),_,_,O,⟨(),(),(),by rw[qA];omega⟩,gY (λi σ G=>KeepN (λb=>b≠L/\b≠D) H2 G/\(∃z8 z9 c7,σ=[!.ref B,!.ref p,!.ref Sp,!.ref S,!.int n,!.int t,!.ref L,!.ref D,z8,z9,c7])/\LstAt km G L ((List.range' n i).foldl (stepI (dE ds sp sz) (bJ ds ls (aI sz))) ([],λj=>if j=n then !t else none)).1/\∃aj,G D=!.dK aj/\aj⁻¹<=1+100*i/\DRel aj ((List.range' n i).foldl (stepI (dE ds sp sz) (bJ ds ls (aI sz))) ([],λj=>if j=n then !t else none)).2) ⟨KeepN.refl,⟨none,none,none,O⟩,⟨[],eI,.nil⟩,_,R5,∅,qex⟩ ?_ ?_⟩
 .rintro i σ G hi ⟨k1,⟨z8,z9,c7,rfl⟩,⟨as,lZ,jx⟩,aj,l7,lk,cK⟩;let hm:n+i<ds⁻¹:=by rw[qA]at hi;omega
  rw[show(n:Int)+(i:Int)=((n+i:Nat):Int) by omega];let er:List.range' n (i+1)=List.range' n i++[n+i]:=by rw[List.range'_concat];simp
  let al:=Qe (box:=dE ds sp sz) (tops:=bJ ds ls (aI sz)) (l:=List.range' n i) (st:=([],λj=>if j=n then !t else none));rw[List.length_range']at al;let al:((List.range' n i).foldl (stepI (dE ds sp sz) (bJ ds ls (aI sz))) ([],λj=>if j=n then !t else none)).1.length<=100:=rK al (by show 0+i<=100;omega);rw[er,List.foldl_append];generalize (List.range' n i).foldl (stepI (dE ds sp sz) (bJ ds ls (aI sz))) ([],λj=>if j=n then !t else none)=st at jx cK al⊢;let⟨dX,T'⟩:=st;let i100:i<100:=()
  generalize n+i=m at hm⊢;let e1:[m].foldl (stepI (dE ds sp sz) (bJ ds ls (aI sz))) (dX,T')=stepI (dE ds sp sz) (bJ ds ls (aI sz)) (dX,T') m:=rfl;rw[e1];let IG:=I.same (sm k1);dsimp only[aY];let rm:=cK m;show¬⟨D,_,O,DGet.k (k:=.inl (m:Int)) l7,_,O,?_⟩;rw[show bP aj (Sum.inl (m:Int))=⇑(T' m) from rm];cases hT:T' m with
  | none =>
    rw[P8 hT]
    show bj ⟨k1,⟨_,_,_,O⟩,⟨as,lZ,jx⟩,aj,l7,(),cK⟩
  | some u =>
    rw[P9 hT]
    show bK ?_
    let⟨bs,kr,fQ⟩:=IG.sp
    let⟨cs,hS,pF⟩:=IG.sz
    let⟨b,eb,hb⟩:=dP fQ (rz (show m<sp⁻¹ by rw[cx.sl];show hm))
    let⟨c,_,_,_,ec,hc⟩:=sF pF (show m<sz⁻¹ by rw[cx.zl];show hm)
    let gD:DGet G D (kV (.inl (m:Int))) (!.int u):=by
      have:=DGet.k (k:=.inl (m:Int)) l7
      rw[show bP aj (Sum.inl (m:Int))=⇑(T' m) from rm,hT]at this
      show this
    let zr:=qU jx
    show-⟨.inl ⟨O,_,ag lZ⟩,_,O,_,O,_,O,Sp,_,_,_,O,O,ag kr,aX eb,b,_,_,_,O,O,aC hb,O,_,O,_,O,D,_,O,gD,_,O,_,O,_,O,B,Sp,m,ds,sp,O,IG.bk,⟨bs,kr,fQ⟩,hm,cx.sl,cx.pic,_,O,_,O,S,_,_,_,O,O,ag hS,aX ec,c,_,_,_,O,O,aC hc,O,aT,λx hx=>?_⟩
    let sx:=ay hx (.tup [.int (m:Int),.int (aJ sp m).1,.int u,.int (iD ds sp m),.int (aI sz m)])
    let Dh:km (af G x (.tup [.int (m:Int),.int (aJ sp m).1,.int u,.int (iD ds sp m),.int (aI sz m)])) x (dE ds sp sz m u):=ar
    let cr:=sx _ _ lZ
    let R6:=sx _ _ l7
    let k3:=k1.trans (sx.keep (N:=λb=>b≠L/\b≠D))
    let jv:Paired (km (af G x (.tup [.int (m:Int),.int (aJ sp m).1,.int u,.int (iD ds sp m),.int (aI sz m)]))) as dX:=jx.mono λ_ _ z=>sx _ _ z
    generalize af G x (.tup [.int (m:Int),.int (aJ sp m).1,.int u,.int (iD ds sp m),.int (aI sz m)])=G3 at Dh cr R6 k3 jv⊢
    show⟨L,_,_,O,O,cr,aW (by rw[qA];omega),?_⟩
    let tl:=Tups.lst (o:=.lst (↑as++[.ref x])) cr
    let cS:af G3 L (.lst (↑as++[.ref x])) L=!.lst ↑(as++[x]):=by rw[ar,qD];rfl
    let kf:af G3 L (.lst (↑as++[.ref x])) D=!.dK aj:=by rw[aM DL];show R6
    let k4:KeepN (λb=>b≠L/\b≠D) H2 (af G3 L (.lst (↑as++[.ref x]))):=λb o nb e=>by rw[aM nb.1];show k3 b o nb e
    let R7:Paired (km (af G3 L (.lst (↑as++[.ref x])))) (as++[x]) (dX++[dE ds sp sz m u]):=(jv.mono λ_ _ z=>tl _ _ z).snoc (tl _ _ Dh)
    generalize af G3 L (.lst (↑as++[.ref x]))=G4 at cS kf k4 R7⊢
    show¬⟨_,O,_,O,B,p,S,m,ds,ls,sz,O,(I.same (sm k4)).toInT,cx.toCx4,hm,λY G5 hY s5 lY=>?_⟩
    let zt:=ts m
    let zu:=zt.length_le
    rw[qA]at zu
    let kl:=mO ds m
    let nm:m∉(bJ ds ls (aI sz) m).map Prod.fst:=λz=>by
      let⟨dd,e3,e4⟩:=fK (zt.subset z)
      have:=mS cx.bk m dd e3
      omega
    generalize bJ ds ls (aI sz) m=xs at lY zu nm⊢
    let⟨ys,ky,R8⟩:=lY
    let ly:=qU R8
    let YD:Y≠D:=λz=>by rw[z,kf]at hY;cases hY
    let YL:Y≠L:=λz=>by rw[z,cS]at hY;cases hY
    let iE:=s5 _ _ cS
    let Jt:=s5 _ _ kf
    let k5:=k4.trans (s5.keep (N:=λb=>b≠L/\b≠D))
    let CT:Paired (km G5) (as++[x]) (dX++[dE ds sp sz m u]):=R7.mono λ_ _ z=>s5 _ _ z
    show⟨Y,O,⟨_,ag ky⟩,iK (xs:=↑ys) (λk σ G'=>Keep1 D G5 G'/\(∃z9 c7,σ=[!.ref B,!.ref p,!.ref Sp,!.ref S,!.int n,!.int t,!.ref L,!.ref D,!.int m,z9,c7])/\∃pH,G' D=!.dK pH/\pH⁻¹<=1+100*i+k/\DRel pH (put T' u (xs.take k))) ⟨KeepN.refl,⟨_,_,O⟩,aj,Jt,(),cK⟩ ?_ ?_ ?_⟩
    · ext k σ G' hk ⟨k6,_⟩
      show ag (k6 _ _ YD ky)
    · rintro k y σ G' hy ⟨k6,⟨z9,c7,rfl⟩,pH,iZ,R9,Ax⟩
      let⟨a,ea,rfl⟩:=cJ hy
      let⟨v,ev,ha⟩:=bW R8 ea
      let hk:k<xs⁻¹:=(qE.mp ev).1
      let aD:a≠D:=λz=>by
        let mL:G5 a=!.tup _:=ha
        rw[z,Jt]at mL
        cases mL
      let et:xs.take (k+1)=xs.take k++[v]:=by rw[qO,ev];rfl
      let nk:m∉(xs.take k).map Prod.fst:=λz=>nm (by
        let⟨w',hw,e3⟩:=qP.mp z
        show qP.mpr ⟨w',x8 hw,e3⟩)
      let gD':DGet G' D (kV (.inl (m:Int))) (!.int u):=by
        have:=DGet.k (k:=.inl (m:Int)) iZ
        rw[show bP pH (Sum.inl (m:Int))=⇑(put T' u (xs.take k) m) from Ax m,CG nk,hT]at this
        show this
      show⟨a,_,O,aC (k6 _ _ aD ha),O,_,_,O,_,_,O,O,?_⟩
      show¬⟨D,_,O,gD',_,O,_,_,O,O,_,O,_,O,D,_,O,DPut.k (k:=.inl (v.1:Int)) iZ ?_,?_⟩
      · rw[sizeLine_eq]
        omega
      · refine⟨λb o nb e=>by rw[aM nb];show k6 b o nb e,⟨_,_,O⟩,_,ar,?_,?_⟩
        · show rK (qk _ _ _) ()
        · rw[et,qck]
          show Ax.put v.1 (u+v.2)
    · ext σ G' ⟨k6,⟨z9,c7,rfl⟩,pH,iZ,R9,Ax⟩
      rw[qI (by rw[qA,ly];show qG _)]at Ax
      rw[qA]at R9
      show⟨λb o nb e=>k6 _ _ nb.2 (k5 b o nb e),⟨_,_,_,O⟩,⟨as++[x],k6 _ _ DL.symm iE,Br.paired_mem CT λa b _ z=>k6 _ _ (λy=>?_) z⟩,pH,iZ,(),Ax⟩
      let z':G5 a=!.tup _:=z
      rw[y,Jt]at z'
      cases z'
 .ext σ G ⟨k1,⟨z8,z9,c7,rfl⟩,lG,_⟩;rw[show((((↑ab)⁻¹:Nat):Int)-(n:Int)).toNat=ds⁻¹-n by rw[qA,dR];omega]at lG;show-⟨q L G hL (sm k1) lG⟩
end K33
namespace K33
open L2 Bk Gen Gd Bd
abbrev R':Stmt:=top 125
def kB(ds:List Nd)(n i:Nat):TM:=(List.range i).filter λj=>decide (ds[j]?.map Nd.e=!(n:Int)) && decide (ds[j]?.map Nd.k≠!Kd.note)
inductive Ju:List V->Hp->VK->XK->Prop
|m (B:Addr) (n:Nat) (ds:List Nd):vs=[.ref B,.int n]->cM (λ_=>True) H B ds->ds⁻¹<=100->(∀(L:Addr) (H':Hp),H L=none->Same H H'->H' L=!.lst ((kB ds n ds⁻¹).map λ(j:Nat)=>V.int (j:Int))->Q (.ref L) H')->Ju vs H Q E
def qey(F:Fu K "_law_held" R' f fd)(T:bY mg):(~~~0) 1 f fd ["_law_book_here", "_law_node"] Ju:=by
 rcases F.go ["_law_book_here", "_law_node"] with⟨B,n,ds,rfl,⟨as,hB,nd⟩,le,q⟩;let dR:as⁻¹=ds⁻¹:=nd⁻¹;show⟨_,(aA (aH (cm ["_law_k"] ["_law_node", "_law_book_here"] [1,0] (r1 T.range (ln T.len '0')) (nv 0) (h9 (PW.pt (gX (tc bv (px (r:=bZ K) aF (px (r:=du K) aK '2' '0') ao) '1') (i9 (tc jc (px (r:=bZ K) aF (px (r:=du K) aK '2' '0') ao) aU))))) '0'))),?_⟩;let el:(((↑as)⁻¹:Int)).toNat=ds⁻¹:=by rw[qA,dR];rfl
 show-⟨B,_,O,.inl (ag hB),_,O,by rw[qA];omega,by rw[qA];omega,jO (λi ys ae H'=>H'=H/\ys=(kB ds n i).map (λ(j:Nat)=>V.int (j:Int))/\∃z,ae=[z,!.int n,!.ref B]) (by rw[el];show aW ()) ⟨O,O,none,O⟩ ?_ ?_⟩
 .ext i ys ae H' hi ⟨rfl,rfl,z,rfl⟩;rw[el]at hi;rw[show(0:Int)+(i:Int)=(i:Int)from uY _];let ed:ds[i]?=!ds[i]:=qB hi;let⟨a,ea,na⟩:=nd.get ed;let⟨m',s',ha,_⟩:=na.ex;let more:kB ds n (i+1)=kB ds n i++(if ds[i].e=(n:Int)/\ds[i].k≠.note then[i]else[]):=by
   unfold kB;rw[yV,rS]
   congr 1
   by_cases h1:ds[i].e=(n:Int)<;>by_cases h2:ds[i].k=.note<;>simp[ed,h1,h2]
  show¬⟨B,_,_,_,O,O,ag hB,aX ea,a,_,_,_,O,O,aC ha,O,_,O,O,_,O,?_⟩
  by_cases he:ds[i].e=(n:Int)
  .show eS (xH V.int he) ⟨_,O,_,O,B,_,_,_,O,O,ag hB,aX ea,a,_,_,_,O,O,aC ha,O,O,_,O,?_⟩;rw[show decide (V.str ds[i].k.s=V.str (s!"note"))=decide (ds[i].k=.note)from bH ds[i].k .note]
   by_cases hk:ds[i].k=.note
   .rw[qR hk];show bj ⟨O,?_,_,O⟩;rw[more,qY (λz=>z.2 hk),rZ]
   .rw[qV hk];show bK ⟨_,O,O,?_,_,O⟩;rw[more,qX ⟨he,hk⟩,qD];rfl
  .rw[qV λz=>he (V.int.inj z)];show bj (bj ⟨O,?_,_,O⟩);rw[more,qY (λz=>he z.1),rZ]
 .ext ys ae H' ⟨rfl,rfl,_⟩ D hD;rw[el];show q D _ hD (ay hD _) ar
end K33
namespace K33
open L2 Bk Gd Shr Sp0 Ins
open Bd
open Gen
open Br (pg_tupL)
abbrev Se:=top 128
abbrev Sf:=top 129
abbrev Sg:=top 130
abbrev Si:=top 131
abbrev Sj:=top 132
def qez(F:Fu K "_law_room" Se f fd)(T:bY mg):(~~~0) 1 f fd ["_law_looks_here", "_law_boxes", "_law_node"] Jn:=by
 rcases F.go ["_law_looks_here", "_law_boxes", "_law_node", "_law_inset", "_law_left"] with⟨B,p,U,Sp,S,D,n,ds,ls,us,sp,sz,tp,rfl,I,cx,hn,nn,q⟩;let cV:=mB hr;let⟨aq,eq,pq⟩:=I.lk;let⟨g,eg,hg⟩:=dP pq (qB (show n<ls⁻¹ by rw[cx.ll];show hn));let e3:=fX (OJ (j:=3) (show n<ls⁻¹ by rw[cx.ll];show hn) cx.l13 {});let⟨a,ga,ha⟩:=I.bx.get hn nn;show⟨_,(ax (sv 3 (px aK (px aK '0' '2') ao))
   (ax (sv 4 (aG a9 (px aF (kZ cV '1' '2' (λ_ _=>rfl)) ao) '3'))
   (aA (aH (bf (a2 '4' (aG a9 '4' (cb (kH (by rfl)) T.max dU (a2 ao (aG c9 (px aF (kZ cV '1' '2' (λ_ _=>rfl)) ao) (aG eR ao '3'))))))))))),?_⟩
 show¬⟨p,_,_,_,O,O,ag eq,aX eg,g,_,_,_,O,O,ag hg,e3,?_⟩;dsimp only[aY];show¬⟨D,_,O,ga,a,_,_,_,O,O,aC ha,O,_,O,_,_,O,O,?_⟩;dsimp only[aY];show¬⟨_,O,_,O,D,_,O,ga,a,_,_,_,O,O,aC ha,O,_,O,_,_,O,O,.inl ⟨{},{}⟩,_,_,O,O,_,_,O,_,_,O,O,aT,λL hL=>?_⟩;show q L _ _ (ay hL _) ar
def qeA(F:Fu K "_law_within" Sf f fd)(qeB:⋯ 1 "_law_room" ["_law_looks_here", "_law_boxes", "_law_node"] Jn):(~~~0) 2 f fd ["_law_book_here", "_law_looks_here", "_law_boxes", "_law_node"] Jo:=by
 rcases F.go ["_law_book_here", "_law_looks_here", "_law_boxes", "_law_node", "_law_elder", "_law_box", "_law_held_here", "_law_left", "_law_right"] with⟨B,p,U,Sp,S,D,n,m,ds,ls,us,sp,sz,tp,rfl,I,cx,hm,nm,⟨hn,nn,g1,g2,g3⟩,q⟩;let cV:=mB hr;let⟨ab,hB,nd⟩:=I.bk;let⟨d,ed,he⟩:=fK hm;let⟨c,ex,nc⟩:=nd.get ed;let⟨_,_,hc,_⟩:=nc.ex;show⟨_,(ax (sv 4 (px aF (px aK '0' '3') ao))
   (ax (sv 5 (kZ cV '2' '3' (λ_ _=>rfl)))
   (ax (sv 6 (kZ cV '2' '4' (λ_ _=>rfl)))
   (ax (ba (PW.pt (jH (tc jd (px aF '5' ao) (px aF '6' ao)) (kF (tc gZ (aG a9 (px aF '5' ao) (px aF '5' ao)) (aG a9 (px aF '6' ao) (px aF '6' ao)))))) (aA (aH gp)) bi)
   (ax (nW (cF qeB hr (a3 '1' '2' '4')) (pg_tupL (by rfl) (bF (nv 7) (bF (nv 8) dZ))))
   (aA (aH (ec AQ (px aF '5' ao) '7')))))))),?_⟩
 rw[he]at hc;let⟨a,ga,ha⟩:=I.bx.get (cO hm) nm;let⟨b,gb,hb⟩:=I.bx.get hn nn;show¬⟨B,_,_,_,O,O,ag hB,aX ex,c,_,_,_,O,O,aC hc,O,?_⟩;dsimp only[aY];show¬⟨D,_,O,ga,?_⟩;dsimp only[aY];show¬⟨D,_,O,gb,?_⟩;dsimp only[aY];show-⟨a,_,_,_,O,O,aC ha,O,_,O,b,_,_,_,O,O,aC hb,O,_,_,O,O,_,O,?_⟩;show dM (show¬tp m<tp n by omega) ⟨_,O,a,_,_,_,O,O,aC ha,O,_,O,a,_,_,_,O,O,aC ha,O,_,_,O,O,_,O,b,_,_,_,O,O,aC hb,O,_,O,b,_,_,_,O,O,aC hb,O,_,_,O,O,_,_,O,O,_,O,?_⟩;show dM (show¬tp n+aI sz n<tp m+aI sz m by omega) ⟨_,O,_,O,_,O,B,p,U,Sp,S,D,n,ds,ls,us,sp,sz,tp,O,I,cx,hn,nn,λL r H1 s1 hL=>?_⟩;show⟨L,_,O,ag hL,O,_,_,O,_,_,O,O,?_⟩;dsimp only[aY];show-⟨a,_,_,_,O,O,aC (s1 _ _ ha),O,_,O,_,_,O,O,?_⟩;show Q (.bl (decide ((aJ sp n).1+aB ls n 3<=(aJ sp m).1))) H1;rw[qR g3];show q H1 s1
def qeC(F:Fu K "_law_juts" Sg f fd):(~~~0) 1 f fd ["_law_spans", "_law_boxes", "_law_node"] Jp:=by
 rcases F.go ["_law_spans", "_law_boxes", "_law_node"] with⟨B,p,U,Sp,S,D,m,ds,ls,us,sp,sz,tp,rfl,I,cx,hm,nm,q⟩;let cV:=mB hr;let⟨a,ga,ha⟩:=I.bx.get hm nm;let⟨bs,kr,fQ⟩:=I.sp;let⟨b,eb,hb⟩:=dP fQ (rz (show m<sp⁻¹ by rw[cx.sl];show hm));show⟨_,(aA (aH (ec gZ (px aF (kZ cV '1' '2' (λ_ _=>rfl)) ao) (px aF (px aK '0' '2') ao)))),_,O,_,O,D,_,O,ga,a,_,_,_,O,O,aC ha,O,_,O,_,O,Sp,_,_,_,O,O,ag kr,aX eb,b,_,_,_,O,O,aC hb,O,_,_,O,O,q⟩
def qeD(F:Fu K "_law_meet" Si f fd):(~~~0) 1 f fd ["_law_one", "_law_other"] Jq:=by
 rcases F.go ["_law_one", "_law_other"] with⟨a,b,i,l,t,v,h,i',l',t',v',h',rfl,ha,hb,g,q⟩;show⟨_,(ax (ba (PW.pt (jH (tc tX (aG a9 (px aF '0' ao) (px aF '0' ao)) (px aF '1' ao)) (kF (tc tX (aG a9 (px aF '1' ao) (px aF '1' ao)) (px aF '0' ao))))) (aA (aH gp)) bi)
   (aA (aH (UT (ec gZ (aG a9 (px aF '0' ao) (px aF '0' ao)) (px aF '1' ao)) (Kf (ec gZ (aG a9 (px aF '1' ao) (px aF '1' ao)) (px aF '0' ao))))))),?_⟩
 show-⟨a,_,_,_,O,O,aC ha,O,_,O,a,_,_,_,O,O,aC ha,O,_,_,O,O,_,O,b,_,_,_,O,O,aC hb,O,_,_,O,O,_,O,?_⟩
 by_cases g1:t+h<=t'
 .show eS g1 (bK q)
 show dM g1 ⟨_,O,b,_,_,_,O,O,aC hb,O,_,O,b,_,_,_,O,O,aC hb,O,_,_,O,O,_,O,a,_,_,_,O,O,aC ha,O,_,_,O,O,_,O,?_⟩
 by_cases g2:t'+h'<=t
 .show eS g2 q
 show dM g2 ⟨_,O,a,_,_,_,O,O,aC ha,O,_,O,a,_,_,_,O,O,aC ha,O,_,_,O,O,_,O,b,_,_,_,O,O,aC hb,O,_,_,O,O,_,O,?_⟩
 by_cases g3:l'<l+v
 .show eS g3 ⟨_,O,b,_,_,_,O,O,aC hb,O,_,O,b,_,_,_,O,O,aC hb,O,_,_,O,O,_,O,a,_,_,_,O,O,aC ha,O,_,_,O,O,?_⟩;show Q (.bl (decide (l<l'+v'))) H;rw[qV ()];show q
 .show dM g3 q
def qeE(F:Fu K "_law_apart" Sj f fd)(Jv:⋯ 1 "_law_beside" ["_law_book_here", "_law_node"] o8)(Sk:⋯ 1 "_law_juts" ["_law_spans", "_law_boxes", "_law_node"] Jp)(qeF:⋯ 1 "_law_meet" ["_law_one", "_law_other"] Jq):(~~~0) 2 f fd ["_law_book_here", "_law_spans", "_law_boxes", "_law_one", "_law_other"] Jr:=by
 rcases F.go ["_law_book_here", "_law_spans", "_law_boxes", "_law_one", "_law_other"] with⟨B,p,U,Sp,S,D,x,y,ds,ls,us,sp,sz,tp,rfl,I,cx,hx,nx,hy,ny,g,q⟩;let cV:=mB hr;show⟨_,(ax (ba (PW.pt (jH (tc bv (cF Jv hr (a2 '0' '4')) '3') (jH (kE (cF Sk hr (a3 '1' '2' '3'))) (kF (kE (cF Sk hr (a3 '1' '2' '4'))))))) (aA (aH gp)) bi)
   (aA (aH (UW (cF qeF hr (a2 (kZ cV '2' '3' (λ_ _=>rfl)) (kZ cV '2' '4' (λ_ _=>rfl)))))))),?_⟩
 refine¬⟨B,y,ds,O,I.bk,cx.bk,cx.le,hy,λH1 s1=>?_⟩;let I1:=I.same s1;let sc:DO (CS (bN ds y)) (V.int x)=true/\decide (CS (bN ds y)=V.int x)=decide (bN ds y=!x):=by
  cases e:bN ds y with
  | none=>show⟨O,(qV λz=>nomatch z).trans (qV λz=>nomatch z).symm⟩
  | some a =>
    show⟨O,decide_eq_decide.mpr ⟨λz=>?_,λz=>by rw[qZ z];rfl⟩⟩
    let z:(a:Int)=x:=V.int.inj z
    rw[show a=x by omega]
 show-⟨sc.1,_,O,?_⟩;rw[sc.2]
 by_cases g1:bN ds y=!x
 .show eS g1 (bK (q H1 s1))
 show dM g1 ⟨_,O,_,O,_,O,B,p,U,Sp,S,D,x,ds,ls,us,sp,sz,tp,O,I1,cx,hx,nx,?_⟩;show-⟨?_⟩
 by_cases g2:iD ds sp x>(aJ sp x).2
 .show eS g2 (bK (q H1 s1))
 show dM g2 ⟨_,O,_,O,_,O,B,p,U,Sp,S,D,y,ds,ls,us,sp,sz,tp,O,I1,cx,hy,ny,_,O,?_⟩
 by_cases g3:iD ds sp y>(aJ sp y).2
 .show eS g3 (q H1 s1)
 show dM g3 ?_;let⟨a,ga,ha⟩:=I1.bx.get hx nx;let⟨b,gb,hb⟩:=I1.bx.get hy ny;show¬⟨D,_,O,ga,_,O,_,O,D,_,O,gb,a,b,_,_,_,_,_,_,_,_,_,_,O,ha,hb,?_,_,O,q H1 s1⟩;rcases g with g | g | g | g | g
 .show qT g g1
 .show .inl g
 .show .inr (.inl g)
 .show .inr (.inr (.inl ()))
 .show .inr (.inr (.inr ()))
end K33
def Jw{c:Bool}{A B Z:Prop}(h:Z)(h1:c=true->Z->A)(h2:c=false->Z->B):if c=true then A else B:=by
 cases c with
 | true=>show h1 O h
 | false=>show h2 O h
namespace Br
open L2 Bk Gen Gd Bd
def Ch.fits{room:Nat->Int}{r j:Nat}{rows:List (Nat×Nat)}(ok:∀u∈us,UOk u)(h:Ch us room r j rows):j<=us⁻¹->∀(q:Nat) (x:Nat×Nat),rows[q]?=!x->x.1<x.2/\x.2<=us⁻¹/\(longU us x.1 x.2<=room q\/x.2-x.1=1):=by
 induction h with
 | nil=>intro _ q x e;simp at e
 | @snoc r i j m rows c hm hi ih =>
   intro hj q x e
   let⟨⟨b,s,h1,_⟩,_⟩:=hi
   let⟨lt,hb⟩:=(Gf ok hj).mp h1
   let lr:=c.len
   by_cases hq:q<rows⁻¹
   · rw[xE hq]at e
     show ih () q x e
   · rw[rL ()]at e
     let e0:q-rows⁻¹=0:=by
       have:=(qE.mp e).1
       simp at this
       omega
     rw[e0]at e
     cases e
     show⟨lt,hj,?_⟩
     let eq:q=r:=()
     rw[eq]
     unfold dB at hb
     by_cases z:room r-longU us i j<0
     · rw[qX z]at hb
       by_cases z2:j-i=1
       · show .inr z2
       · rw[qY z2]at hb;cases hb
     · left
       show longU us i j<=room r
       omega
def up_b{l s:Int}(hs:1<=s):l<=dA l s*s/\(dA l s-1)*s<l:=by
 show⟨(OB hs).mp (xF _),Int.lt_of_not_ge λz=>?_⟩;have:=(OB hs).mpr z;omega
end Br
namespace K33
open L2 Bk Gd Shr Sp0 Ins
open Bd
open Gen
abbrev Sl:=top 133
def qeG(F:Fu K "_law_rows_beside" Sl f fd)(T:bY mg)(Jv:⋯ 1 "_law_beside" ["_law_book_here", "_law_node"] o8):(~~~0) 2 f fd ["_law_book_here", "_law_looks_here", "_law_units", "_law_spans", "_law_sizes", "_law_node"] Js:=by
 show F.go ["_law_book_here", "_law_looks_here", "_law_units", "_law_spans", "_law_sizes", "_law_node", "_law_aside", "_law_high", "_law_count", "_law_width", "_law_row", "_law_first", "_law_last", "_law_room_here", "_law_some", "_law_long"] ?_;ext aE A outer s H0 vs Q E hr ⟨B,p,U,Sp,S,n,d,ds,ls,us,sp,sz,rfl,I0,cx,az,h0,ed,hk,q⟩ _;show⟨_,(ax (sv 6 (cF Jv hr (a2 '0' '5')))
   (ax (ba (kD (tJ '6')) (aA (aH gp)) bi)
   (ax (sv 7 (cb (oK (by rfl)) T.max dU (a1 (cm ["_law_unit"] [] [] (bc (px aK '2' '5')) (nv 0) br (px (r:=bZ K) aF '0' ao)))))
   (ax (sv 8 (px aF (px aK '4' '5') ao))
   (ax (ba (PW.pt (jH (tc jd (aG eR '8' '7') (px aF (px aK '4' '6') ao)) (kF (PW.pt (gX (tc gZ '8' ao) (i9 (tc AQ (aG eR (aG c9 '8' ao) '7') (px aF (px aK '4' '6') ao)))))))) (aA (aH gp)) bi)
   (ax (sv 9 (cb (kH (by rfl)) T.max dU (a2 ao (aG c9 (px aF (px aK '3' '5') ao) (aG eR ao (px aK (px aK '1' '5') ao))))))
   (ax (fv (qa (by rfl) T.enumerate (a1 (px aF (px aK '4' '5') ao))) (jJ (by rfl) (bF (nv 10) (bF (jJ (by rfl) (bF (nv 11) (bF (nv 12) dZ))) dZ)))
   (ax (sv 13 '9')
   (ax (ba (tc jd ':' '8') (aA (sv 13 (cb (kH (by rfl)) T.max dU (a2 ao (aG c9 '9' (px aF (px aK '3' '6') ao)))))) bi)
   (ax (sv 14 (jL mw (px aK '2' '5') (hG ';') (hG '<')))
   (ax (sv 15 (aG a9 (cb (ir (by rfl)) T.sum fJ (a1 (cm ["_law_unit"] [] [] (bc '>') (nv 0) br (px (r:=bZ K) aF '0' ao)))) (cb (ir (by rfl)) T.sum fJ (a1 (cm ["_law_unit"] [] [] (bc (jL mw '>' oa (hG (dJ dL ao)))) (nv 0) br (px (r:=bZ K) aF '0' ao))))))
   (aA (ba (PW.pt (gX (tc gZ '?' '=') (i9 (tc gZ (aG c9 '<' ';') ao)))) (aA (aH gp)) bi)))))))
   (aA (aH gp))))))))),?_⟩
 show mC λC hC=>?_
 let hn:=(qE.mp ed).1;show¬⟨B,n,ds,O,I0.bk,cx.bk,cx.le,hn,λH s0=>?_⟩;let I:=I0.same s0;dsimp only[aY];cases hb:bN ds n with
 | none=>show bG hC λC hC=>¬⟨bK (q H s0)⟩
 | some a =>
 show bG hC λC hC=>¬⟨bj ?_⟩
 let eX:=cx.un n d ed (.inl hk);let⟨ul,uo⟩:=C2 cx hn;let hi:=HY eX uo;let ha:=HQ hb;let C4:n<sp⁻¹:=by rw[cx.sl];show hn
 let asp:a<sp⁻¹:=by rw[cx.sl];omega
 let⟨l,el,cQ,lv⟩:=cx.look hn;let⟨bs,kr,fQ⟩:=I.sp;let⟨b,eb,Af⟩:=dP fQ (rz C4);let⟨b',nB,qeH⟩:=dP fQ (rz asp);let⟨as,hU,Ae⟩:=I.un;let⟨r,er,l6⟩:=II Ae (show n<us⁻¹ by rw[cx.ul];show hn);let⟨aq,eq,pq⟩:=I.lk;let⟨g,eg,hg⟩:=dP pq (qB (show n<ls⁻¹ by rw[cx.ll];show hn));let e3:=fX (OJ (j:=3) (show n<ls⁻¹ by rw[cx.ll];show hn) cx.l13 {});let⟨zs,hS,C3⟩:=I.sz;let⟨za,_,_,_,Sm,Sn⟩:=sF C3 (show a<sz⁻¹ by rw[cx.zl];omega);let⟨z,ez,iz⟩:=az n d ed;let⟨zn,Sq,A',B',Jx,qeI,_⟩:=dP C3 ez;let en:fu ds us sp (aI sz) n=(dA (aI sz a) (bC ((bg us n).map Un.h)),(aJ sp a).2):=by unfold fu;rw[hb]
 obtain⟨ec,fits⟩:z.c=dA (aI sz a) (bC ((bg us n).map Un.h))/\∀(q:Nat) (x:Nat×Nat),z.rows[q]?=!x->x.1<x.2/\x.2<=(bg us n)⁻¹/\(Br.longU (bg us n) x.1 x.2<=Br.roomN (cf ls sp n).2 (dA (aI sz a) (bC ((bg us n).map Un.h)),(aJ sp a).2) q\/x.2-x.1=1):=by
  cases iz with
  | pic k _=>rw[hk]at k;cases k
  | box _ k=>show qT (.inl hk) k
  | row _ c _ =>
    rw[en]at c
    show⟨by rw[en],c.fits (λu hu=>(uo u hu).1) (qG _)⟩
 rw[ec]at Jx;let uc:=Br.up_b (l:=aI sz a) hi.1;let⟨ps,Jy,Jz⟩:=l6;let lp:=qU Jz;show bG hC λC hC=>¬⟨U,_,_,_,O,O,ag hU,aX er,r,O,⟨_,ag Jy⟩,bB (xs:=↑ps) (λi ys ae H'=>H'=H/\ys=⇑(((bg us n).take i).map Un.h)/\∃z,ae=[z]) (by rw[qA];show aW ()) ⟨O,O,none,O⟩ ?_ ?_ ?_⟩
 .ext i ys ae H' hi ⟨rfl,rfl,_⟩;show ag Jy
 .ext i y ys ae H' hy ⟨rfl,rfl,z,rfl⟩;let⟨c,ec,rfl⟩:=cJ hy;let⟨u,eu,_,hu,_⟩:=bW Jz ec;show-⟨c,_,_,_,O,O,aC hu,O,O,?_,_,O⟩;rw[qO,eu,qD,qD];rfl
 ext ys ae G ⟨eG,rfl,_⟩ D hD;obtain rfl:H=G:=eG.symm;rw[show(bg us n).take (↑ps)⁻¹=bg us n from qI (by rw[qA];omega)];let s1:=ay hD (.lst ⇑((bg us n).map Un.h));show⟨D,_,bC ((bg us n).map Un.h),O,ag ar,jT ‹eX›,jU,?_⟩;generalize af H D (.lst ⇑((bg us n).map Un.h))=H1 at s1⊢;dsimp only[aY];generalize bC ((bg us n).map Un.h)=Ay at *;generalize dA (aI sz a) Ay=ct at *;show bG hC λC hC=>¬⟨S,_,_,_,O,O,ag (s1 _ _ hS),aX Sq,zn,_,_,_,O,O,aC (s1 _ _ Jx),O,?_⟩
 dsimp only[aY];show bG hC λC hC=>¬⟨_,_,O,O,.inr ⟨(),()⟩,_,O,_,O,S,_,_,_,O,O,ag (s1 _ _ hS),aX Sm,za,_,_,_,O,O,aC (s1 _ _ Sn),O,_,_,O,O,_,O,?_⟩
 show dM (show¬ct*Ay<aI sz a by omega) ⟨_,O,_,_,O,O,_,O,Jw (Z:=C _ H1) ?_ (λz k=>-⟨_,_,O,O,_,O,_,_,O,O,.inr ⟨(),()⟩,_,O,_,O,S,_,_,_,O,O,ag (s1 _ _ hS),aX Sm,za,_,_,_,O,O,aC (s1 _ _ Sn),O,_,_,O,O,_,O,by rw[qV (show¬aI sz a<=(ct-1)*Ay by omega)];show bj k⟩) λz k=>bj k⟩;show bG hC λC hC=>¬⟨Sp,_,_,_,O,O,ag (s1 _ _ kr),aX eb,b,_,_,_,O,O,aC (s1 _ _ Af),O,_,O,_,O,p,_,_,_,O,O,ag (s1 _ _ eq),aX eg,g,_,_,_,O,O,ag (s1 _ _ hg),e3,_,_,O,O,.inl ⟨{},{}⟩,_,_,O,O,_,_,O,?_⟩
 dsimp only[aY];rw[sj,show max 0 ((aJ sp n).2-2*aB ls n 3)=(cf ls sp n).2 from rfl];generalize (cf ls sp n).2=wd at *;let⟨ra,C6,C7⟩:=qeI;let zr:=qU C7;show bG hC λC hC=>¬⟨S,_,_,_,O,O,ag (s1 _ _ hS),aX Sq,zn,_,_,_,O,O,aC (s1 _ _ Jx),O,A',O,⟨_,ag (s1 _ _ C6)⟩,BE (xs:=↑ra) (λi σ G=>Same H1 G/\∃c7 pI pJ jA Dm Dn,σ=[!.ref B,!.ref p,!.ref U,!.ref Sp,!.ref S,!.int n,!.int a,!.int Ay,!.int ct,!.int wd,c7,pI,pJ,jA,Dm,Dn]) ⟨Same.refl _,none,none,none,none,none,none,O⟩ ?_ ?_ ?_⟩
 .ext i σ G hi ⟨s2,_⟩;show ag (s2 _ _ (s1 _ _ C6))
 .rintro k y σ G T' hy hT ⟨s2,c7,pI,pJ,jA,Dm,Dn,rfl⟩;let⟨c,gx,rfl⟩:=cJ hy;let⟨x,ex,hc⟩:=bW C7 gx;let⟨x1,x2,x3⟩:=fits k x ex;let sT:=ay hT (.tup [.int (k:Int),.ref c]);let fj:af G T' (.tup [.int (k:Int),.ref c]) T'=!.tup [.int (k:Int),.ref c]:=ar;let s3:=(s1.trans s2).trans sT;let gj:=s2.trans sT;generalize af G T' (.tup [.int (k:Int),.ref c])=G1 at sT fj s3 gj⊢;show⟨T',_,O,aC fj,O,_,_,O,_,_,O,c,_,O,aC (s3 _ _ hc),O,_,_,O,_,_,O,O,O,?_⟩;dsimp only[aY];show mC λC' pK=>-⟨?_⟩
  dsimp only[aY];show bG pK λC' pK=>?_
  let x3:Br.longU (bg us n) x.1 x.2<=(if(k:Int)<ct then max 0 (wd-(aJ sp a).2)else wd)\/x.2-x.1=1:=by
   rcases x3 with z | z
   .left;unfold Br.roomN Br.roomR at z
    split<;>rename_i zz
    .rw[qX zz]at z;let z:_<=max (wd-(aJ sp a).2) 0:=z;omega
    .rw[qY zz]at z;show z
   .show .inr z
  show¬⟨_,_,O,O,_,O,Jw (Z:=∀rm:Int,rm=(if(k:Int)<ct then max 0 (wd-(aJ sp a).2)else wd)->C' [!.ref B,!.ref p,!.ref U,!.ref Sp,!.ref S,!.int n,!.int a,!.int Ay,!.int ct,!.int wd,!.int k,!.int x.1,!.int x.2,!.int rm,Dm,Dn] G1) ?_ (λz kk=>¬⟨_,O,Sp,_,_,_,O,O,ag (s3 _ _ kr),aX nB,b',_,_,_,O,O,aC (s3 _ _ qeH),O,_,_,O,O,_,_,O,kk _ (by rw[qX (rF z),sj])⟩) λz kk=>kk _ (by rw[qY (of_decide_eq_false z)])⟩;intro rm Sr;rw[<-Sr]at x3;clear Sr;show bG pK λC' pK=>¬⟨U,_,_,_,O,O,ag (s3 _ _ hU),aX er,_,O,_,O,_,O,_,O,r,_,O,ag (s3 _ _ Jy),λZ hZ=>?_⟩
  rw[Br.cutV_nat (as:=ps) (i:=x.1) (j:=x.2) () ()];let sZ:=ay hZ (.lst ↑((ps.drop x.1).take (x.2-x.1)));let fR:af G1 Z (.lst ↑((ps.drop x.1).take (x.2-x.1))) Z=!.lst ↑((ps.drop x.1).take (x.2-x.1)):=ar;let pF:Paired (Bw.UnAt H) ((ps.drop x.1).take (x.2-x.1)) (Br.cutU (bg us n) x.1 x.2):=Br.paired_cut Jz x.1 (x.2-x.1);let s4:=s3.trans sZ;let gE:=gj.trans sZ;generalize af G1 Z (.lst ↑((ps.drop x.1).take (x.2-x.1)))=G2 at sZ fR s4 gE⊢;generalize (ps.drop x.1).take (x.2-x.1)=cs at pF fR⊢;let cl:=Br.cut_len (us:=bg us n) (i:=x.1) x2;let x3:iU (Br.cutU (bg us n) x.1 x.2)<=rm\/_:=x3;generalize Br.cutU (bg us n) x.1 x.2=cu at pF x3 cl;let lc:=qU pF;dsimp only[aY];show bG pK λC' pK=>-⟨Z,O,⟨_,ag fR⟩,bB (xs:=↑cs) (λi ys ae G'=>G'=G2/\ys=⇑((cu.take i).map Un.w)/\∃z,ae=[z]) (by rw[qA];show aW ()) ⟨O,O,none,O⟩ ?_ ?_ ?_⟩
  .ext i ys ae H' hi ⟨rfl,rfl,_⟩;show ag fR
  .ext i y ys ae H' hy ⟨rfl,rfl,z,rfl⟩;let⟨e,ee,rfl⟩:=cJ hy;let⟨u,eu,_,he,_⟩:=bW pF ee;show-⟨e,_,_,_,O,O,aC (s4 _ _ he),O,O,?_,_,O⟩;rw[qO,eu,qD,qD];rfl
  ext ys ae G' ⟨eG,rfl,_⟩ X hX;obtain rfl:G2=G':=eG.symm;rw[qI (by rw[qA];omega)];let sX:=ay hX (.lst ⇑(cu.map Un.w));show⟨X,_,O,ag ar,?_⟩;generalize af G2 X (.lst ⇑(cu.map Un.w))=G3 at sX⊢;show¬⟨_,O,Z,_,O,ag (sX _ _ fR),λY hY=>?_⟩;rw[OX];let sY:=ay hY (.lst ↑cs.dropLast);let ky:af G3 Y (.lst ↑cs.dropLast) Y=!.lst ↑cs.dropLast:=ar;let s5:=s4.trans (sX.trans sY);let Do:=gE.trans (sX.trans sY);generalize af G3 Y (.lst ↑cs.dropLast)=G4 at sY ky s5 Do⊢;let Ss:Paired (Bw.UnAt H) cs.dropLast cu.dropLast:=by
   have:=Br.paired_cut pF 0 (cs⁻¹-1);rw[vS,vS]at this;rw[List.dropLast_eq_take,List.dropLast_eq_take,<-lc];show this
  let ld:=qU Ss;show⟨Y,O,⟨_,ag ky⟩,bB (xs:=↑cs.dropLast) (λi ys ae G'=>G'=G4/\ys=⇑((cu.dropLast.take i).map Un.b)/\∃z,ae=[z]) (by rw[qA,List.length_dropLast];show aW ()) ⟨O,O,none,O⟩ ?_ ?_ ?_⟩
  .ext i ys ae H' hi ⟨rfl,rfl,_⟩;show ag ky
  .ext i y ys ae H' hy ⟨rfl,rfl,z,rfl⟩;let⟨e,ee,rfl⟩:=cJ hy;let⟨u,eu,_,he,_⟩:=bW Ss ee;show-⟨e,_,_,_,O,O,aC (s5 _ _ he),O,O,?_,_,O⟩;rw[qO,eu,qD,qD];rfl
  ext ys ae G' ⟨eG,rfl,_⟩ W hW;obtain rfl:G4=G':=eG.symm;rw[qI (by rw[qA];omega)];let s6:=Do.trans (ay hW (.lst ⇑(cu.dropLast.map Un.b)));show⟨W,_,O,ag ar,_,_,O,O,?_⟩;generalize af G4 W (.lst ⇑(cu.dropLast.map Un.b))=G5 at s6⊢;dsimp only[aY];show mD pK ⟨_,O,_,O,_,_,O,O,_,O,Jw (Z:=True) trivial (λz _=>¬⟨_,_,O,O,_,_,O,O,_,O,?_⟩) λz _=>bj ⟨s6,_,_,_,_,_,_,O⟩⟩;let z:rm<iU cu:=rF z;show dM (show¬(1:Int)<(x.2:Int)-x.1 by omega) ⟨s6,_,_,_,_,_,_,O⟩
 .ext σ G ⟨s2,c7,pI,pJ,jA,Dm,Dn,rfl⟩;show mD hC (q G (s0.trans (s1.trans s2)))
end K33
namespace Ins
open L2 Bk Gen Gd Shr Sp0
open Bd
def Su{j:Nat}:j∈cG ds↔j<ds⁻¹/\bQ ds j=false:=by
 unfold cG;rw[rY,xC];cases bQ ds j<;>simp
def Sv(ds:List Nd):(cG ds).Nodup:=List.Pairwise.filter _ List.nodup_range
def qeJ(b:Book ds):∃r,cG ds=0::r:=by
 let⟨d0,sub,ks,rfl,_,k0,_⟩:=b.tree;unfold cG;rw[rH,List.range_succ_eq_map,uV,qX]
 .show⟨_,O⟩
 .rw[Aw (d:=d0) O (by rw[k0];simp)];rfl
def qeK(b:Book ds){m:Nat}(hm:m<ds⁻¹)(h0:m≠0):∃n,m∈aw ds n:=by
 rcases(Bk.Book.each b (qB hm)).up with⟨e,_⟩ | ⟨_,j,_,e,_⟩
 .show qT e h0
 .show⟨j,rY.mpr ⟨xC.mpr hm,by rw[qB hm];show qR (xH some e)⟩⟩
end Ins
namespace K33
open L2 Bk Gd Shr Sp0 Ins
open Bd
open Gen
open Br (pg_tupL)
abbrev Sw:=top 134
def qeL(k:jz H H')(h:SqL K H a xs):SqL K H' a xs:=by
 rcases h with(h | ⟨o,h⟩) | h
 .show .inl (.inl (k _ _ (λ_ z=>nomatch z) h))
 .show .inl (.inr ⟨o,k _ _ (λ_ z=>nomatch z) h⟩)
 .show .inr h
def qeM{n m:Nat}(h:m∈kB ds n ds⁻¹):m∈aw ds n/\bQ ds m=false:=by
 unfold kB at h;let⟨h1,h2⟩:=rY.mp h;let⟨h3,h4⟩:=Bool.and_eq_true_iff.mp h2;show⟨rY.mpr ⟨h1,h3⟩,qV (rF h4)⟩
inductive Az(Pt:Addr)(K:W.Frag):List V->Hp->VK->XK->Prop
|m (a:Addr) (ns:TN):vs=[.ref a]->SqL K H a ⇑ns->ns⁻¹<=63->kx H Pt nR.2.2.2 Ar->(∀H',Q (.bl true) H')->Az Pt K vs H Q E
def qeN(F:Fu K "law" Sw f fd)(T:bY mg)(ze:⋯ 1 "_law_stream" ["_law_script", "_law_k"] (Bi K))(bI:⋯ 1 "_law_take" ["_law_stream_here", "_law_most"] im)(qeO:⋯ 12 "_law_made" ["_law_script"] (Ie K))(qeP:⋯ 8 "all_sizes" ["book", "looks", "units", "spans"] (Dj Pt))(qeQ:⋯ 6 "insides" ["book", "looks", "spans", "sizes", "node", "top"] Jm)(qeR:⋯ 2 "_law_within" ["_law_book_here", "_law_looks_here", "_law_boxes", "_law_node"] Jo)(qeS:⋯ 1 "_law_held" ["_law_book_here", "_law_node"] Ju)(qeT:⋯ 2 "_law_apart" ["_law_book_here", "_law_spans", "_law_boxes", "_law_one", "_law_other"] Jr)(qeU:⋯ 2 "_law_rows_beside" ["_law_book_here", "_law_looks_here", "_law_units", "_law_spans", "_law_sizes", "_law_node"] Js):(~~~0) 13 f fd ["_law_script"] (Az Pt K):=by
 rcases F.go ["_law_script", "_law_book_here", "_law_looks_here", "_law_units", "_law_spans", "_law_sizes", "_law_top", "_law_found", "_law_boxes", "_law_box", "_law_nodes", "_law_node", "_law_some", "_law_other"] with⟨a,ns,rfl,hA,h63,tb,q⟩;let hu:=hr.units;let cV:=mB hr;show⟨_,(ax (nW (cF qeO hr (a1 '0')) (pg_tupL (by rfl) (bF (nv 1) (bF (nv 2) (bF (nv 3) (bF (nv 4) dZ))))))
   (ax (sv 5 (cF qeP hr (aO '1' (a3 '2' '3' '4'))))
   (ax (sv 6 (cF bI hr (a2 (cF ze hr (a2 '0' ao)) ao)))
   (ax (sv 7 (cF qeQ hr (aO '1' (aO '2' (aO '4' (a3 '5' ao '6'))))))
   (ax (sv 8 Ys)
   (ax (fv (bc '7') (nv 9)
   (aA (Fh cV '8' (px aF '9' ao) '9' (by rfl))))
   (ax (sm 10 ["_law_node"] ["_law_book_here"] [1] (r1 T.range (ln T.len '1')) (nv 0) (h9 (tc jc (px (r:=bZ K) aF (px (r:=du K) aK '1' '0') ao) aU)) '0')
   (ax (ba (PW.pt (jH (tc (WV hu) (cm ["_law_box"] [] [] (bc '7') (nv 0) br (px (r:=bZ K) aF '0' ao)) ':') (kF (tc jc (px aF (px aK '7' ao) ao) '6')))) (aA (aH gp)) bi)
   (ax (fv (bc (jL mw ':' (hG ao) oa)) (nv 11)
   (ax (ba (tM (kE (cF qeR hr (aO '1' (a3 '2' '8' ';'))))) (aA (aH gp)) bi)
   (ax (sv 12 (cF qeS hr (a2 '1' (px aF (px aK '1' ';') ao))))
   (ax (fv (bc (cm ["_law_one"] ["_law_node"] [11] (bc '<') (nv 0) (h9 (tc gZ '0' '1')) '0')) (nv 13)
   (aA (ba (tM (kE (cF qeT hr (aO '1' (aO '4' (a3 '8' ';' '=')))))) (aA (aH gp)) bi)))
   (aA (ba (tc bv (px aF (px aK '1' ';') ao) aU) (aA (ba (tM (kE (cF qeU hr (aO '1' (aO '2' (aO '3' (a3 '4' '5' ';'))))))) (aA (aH gp)) bi)) bi))))))
   (aA (aH gp))))))))))),?_⟩
 show mC λC hC=>?_
 show-⟨a,ns,O,hA,λR B p U Sp ds ls us sp H1 s1 hR bk lk un JA RS cx l0 sg=>?_⟩;show⟨R,_,O,ag hR,O,_,_,O,_,_,O,_,_,O,_,_,O,O,?_⟩;dsimp only[aY];show bG hC λC hC=>¬⟨_,O,_,O,B,p,U,Sp,ds,ls,us,sp,O,bk,lk,un,JA,cx,l0,RS,Jf (λb o _ e=>s1 b o e) tb,λS sz H2 hS0 sd lS lz az h0=>?_⟩
 let h0:=Rh h0;let cx:=cx sz lz;let I2:InZ H2 B p U Sp S ds ls us sp sz:=⟨⟨⟨Je sd bk,RN sd lk,lS⟩,RO sd JA⟩,RP sd un⟩;let Sx:=qeL sd (Br.sql_same s1 hA);clear sd bk lk un JA hS0 hR s1 tb;dsimp only[aY];show bG hC λC hC=>-⟨a,ns,2,O,Sx,{},{},λst H3 cp S3 s3=>⟨st,1000,O,S3,{},{},λt H4 _ _ _ K4=>?_⟩⟩
 let s4:Same H2 H4:=λb o e=>K4 _ _ (cH e cp) (s3 _ _ e)
 let I4:=I2.same s4;clear K4 S3 s3 cp I2 Sx s4;dsimp only[aY];let pos:0<ds⁻¹:=by
  let⟨d,qcQ,ca,rfl,_⟩:=cx.bk.tree;rw[rH];omega
 show bG hC λC hC=>¬⟨_,O,_,O,_,O,B,p,Sp,S,0,t,ds,ls,sp,sz,O,I4.toInI,cx.toCx5,pos,λL H5 hL s5 lL=>?_⟩
 let⟨tp,Sy,JB⟩:=qer (t:=t) (sz:=sz) cx.bk sg;rw[Nat.sub_zero,Sy]at lL;clear Sy;let I5:=I4.same s5;let⟨as,bo,pb⟩:=lL;let lb:=qU pb;rw[qA]at lb;let Xz:(cG ds)⁻¹<=ds⁻¹:=by
  show rK (yG _ _) ?_;rw[xZ];show qG _
 dsimp only[aY];show bG hC λC hC=>λD hD=>?_
 let s6:=ay hD (.dK []);let dD:af H5 D (.dK []) D=!.dK []:=ar;let I6:=I5.same s6;let gn:=s6 _ _ bo;let JC:Paired (km (af H5 D (.dK []))) as ((cG ds).map λj=>dE ds sp sz j (tp j)):=pb.mono λ_ _ z=>s6 _ _ z
 let D5:=hD;generalize af H5 D (.dK [])=H6 at s6 dD I6 gn JC⊢;dsimp only[aY];show bG hC λC hC=>-⟨L,O,⟨_,ag gn⟩,iK (xs:=↑as) (λi σ G=>Keep1 D H6 G/\(∃z9,σ=[!.ref a,!.ref B,!.ref p,!.ref U,!.ref Sp,!.ref S,!.int t,!.ref L,!.ref D,z9,none,none,none,none])/\∃aj,G D=!.dK aj/\aj⁻¹<=i/\∀(k j:Nat) (b:Addr),k<i->(cG ds)[k]?=!j->as[k]?=!b->bP aj (.inl (j:Int))=!.ref b) ⟨KeepN.refl,⟨_,O⟩,[],dD,qG _,λk j b z=>qT z (xS _)⟩ ?_ ?_ ?_⟩
 .ext i σ G hi ⟨k1,_⟩;show ag (k1 _ _ (cH bo D5) gn)
 .rintro i y σ G hy ⟨k1,⟨z9,rfl⟩,aj,l7,lk,kv⟩;let⟨b,eb,rfl⟩:=cJ hy;let⟨x,ex,hb⟩:=bW JC eb;rw[qH]at ex;let⟨j,ej,rfl⟩:=rP.mp ex;let hb':H6 b=!.tup [.int j,.int (aJ sp j).1,.int (tp j),.int (iD ds sp j),.int (aI sz j)]:=hb;let bD:b≠D:=λz=>by rw[z,dD]at hb';cases hb'
  dsimp only[aY];show¬⟨_,O,b,_,_,_,O,O,aC (k1 _ _ bD hb'),O,D,_,O,DPut.k (k:=.inl (j:Int)) l7 ?_,?_⟩
  .rw[sizeLine_eq];have:=(qE.mp eb).1;omega
  show⟨λc o n e=>by rw[aM n];show k1 c o n e,⟨_,O⟩,_,ar,rK (qk _ _ _) (),λk j' b' hk oN nB=>?_⟩;rw[Fd]
  by_cases e:k=i
  .subst e;rw[ej]at oN;rw[eb]at nB;cases oN;cases nB;show qX O
  .rw[qY λz=>e ?_]
   .show kv k j' b' () oN nB
   .let z:=Sum.inl.inj z;let z:j'=j:=()
    rw[z]at oN;show(List.getElem?_inj (qE.mp oN).1 (Sv ds)).mp (oN.trans ej.symm)
 ext σ G ⟨k1,⟨z9,rfl⟩,aj,l7,lk,kv⟩;rw[qA]at lk kv;let sG:Same H5 G:=λb o e=>k1 _ _ (cH e D5) (s6 _ _ e)
 let IG:InG G B p U Sp S D ds ls us sp sz tp:=⟨I5.same sG,aj,l7,λj hj hn=>by
  let⟨k,hk,ek⟩:=xA.mp (Su.mpr ⟨hj,hn⟩);let ej:(cG ds)[k]?=!j:=by rw[qB hk,ek]
  let⟨b,eb,hb⟩:=dP pb (show((cG ds).map λj=>dE ds sp sz j (tp j))[k]?=!dE ds sp sz j (tp j) by rw[qH,ej];rfl);show⟨b,kv k j b () ej eb,sG _ _ hb⟩⟩
 let lZ:=sG _ _ bo;let pG:Paired (km G) as ((cG ds).map λj=>dE ds sp sz j (tp j)):=pb.mono λ_ _ z=>sG _ _ z
 clear sG kv lk l7 aj k1 JC gn I6 dD s6 D5 hD pb bo I5 s5 I4;let⟨ab,hB,nd⟩:=IG.bk;let dR:ab⁻¹=ds⁻¹:=nd⁻¹;let el:(((↑ab)⁻¹:Int)).toNat=ds⁻¹:=by rw[qA,dR];rfl
 let le:=cx.le;show bG hC λC hC=>-⟨B,_,O,.inl (ag hB),_,O,by rw[qA];omega,by rw[qA];omega,jO (λi ys ae H'=>H'=G/\ys=((List.range i).filter λj=>(Bool.not (bQ ds j))).map (λ(j:Nat)=>V.int (j:Int))/\∃z,ae=[z,!.ref B]) (by rw[el];show aW ()) ⟨O,O,none,O⟩ ?_ ?_⟩
 .ext i ys ae H' hi ⟨rfl,rfl,z,rfl⟩;rw[el]at hi;rw[show(0:Int)+(i:Int)=(i:Int)from uY _];let ed:ds[i]?=!ds[i]:=qB hi;let⟨c,ec,nc⟩:=nd.get ed;let⟨m',s',hc,_⟩:=nc.ex;show¬⟨B,_,_,_,O,O,ag hB,aX ec,c,_,_,_,O,O,aC hc,O,O,_,O,?_⟩;rw[show decide (V.str ds[i].k.s=V.str (s!"note"))=decide (ds[i].k=.note)from bH ds[i].k .note,yV,rS,qD]
  by_cases hk:ds[i].k=.note
  .rw[qR hk];show bj ⟨O,?_,_,O⟩;simp[bQ,ed,hk]
  .rw[qV hk];show bK ⟨_,O,O,?_,_,O⟩;simp[Aw ed hk]
 ext ys ae G' ⟨eG,rfl,_⟩ N hN;obtain rfl:G=G':=eG.symm;rw[el,show(List.range ds⁻¹).filter (λj=>(Bool.not (bQ ds j)))=cG ds from rfl];let⟨rest,er⟩:=qeJ cx.bk;let eM:(cG ds).map (λ(j:Nat)=>V.int (j:Int))=⇑((cG ds).map λ(j:Nat)=>(j:Int)):=by rw[xO];rfl
 rw[eM];let sN:=ay hN (.lst ⇑((cG ds).map λ(j:Nat)=>(j:Int)));let fE:KL (af G N (.lst ⇑((cG ds).map λ(j:Nat)=>(j:Int)))) N (cG ds):=ar;let I7:=IG.same sN;let nE:=sN _ _ lZ;let Dp:Paired (km (af G N (.lst ⇑((cG ds).map λ(j:Nat)=>(j:Int))))) as ((cG ds).map λj=>dE ds sp sz j (tp j)):=pG.mono λ_ _ z=>sN _ _ z
 generalize af G N (.lst ⇑((cG ds).map λ(j:Nat)=>(j:Int)))=G1 at sN fE I7 nE Dp⊢;clear eM pG lZ IG hN sN hB nd;dsimp only[aY];show bG hC λC hC=>-⟨L,O,⟨_,ag nE⟩,bB (xs:=↑as) (λi ys ae H'=>H'=G1/\ys=⇑(((cG ds).take i).map λ(j:Nat)=>(j:Int))/\∃z,ae=[z]) (by rw[qA];show aW ()) ⟨O,O,none,O⟩ ?_ ?_ ?_⟩
 .ext i ys ae H' hi ⟨rfl,rfl,_⟩;show ag nE
 .ext i y ys ae H' hy ⟨rfl,rfl,z,rfl⟩;let⟨b,eb,rfl⟩:=cJ hy;let⟨x,ex,hb⟩:=bW Dp eb;rw[qH]at ex;let⟨j,ej,rfl⟩:=rP.mp ex;show-⟨b,_,_,_,O,O,aC hb,O,O,?_,_,O⟩;rw[qO,ej,qD,qD];rfl
 ext ys ae G' ⟨eG,rfl,_⟩ M hM;obtain rfl:G1=G':=eG.symm;rw[qI (by rw[qA];omega)];let sM:=ay hM (.lst ⇑((cG ds).map λ(j:Nat)=>(j:Int)));let lJ:KL (af G1 M (.lst ⇑((cG ds).map λ(j:Nat)=>(j:Int)))) M (cG ds):=ar;generalize af G1 M (.lst ⇑((cG ds).map λ(j:Nat)=>(j:Int)))=G2 at sM lJ⊢;let I8:=I7.same sM;let qi:KL G2 N (cG ds):=sM _ _ fE;let⟨b0,SA,SB⟩:=dP Dp (show((cG ds).map λj=>dE ds sp sz j (tp j))[0]?=!dE ds sp sz 0 (tp 0) by rw[er];rfl);show-⟨_,_,.lst lJ (E8 _),.lst qi (E8 _),MS _,MS _,λ_=>-⟨bj ⟨_,O,L,_,_,_,O,O,ag (sM _ _ nE),aX (i:=0) SA,b0,_,_,_,O,O,aC (sM _ _ SB),O,_,O,O,_,O,?_⟩⟩,λz=>qT O z⟩;rw[JB.top,qR O];show bj ?_;clear SB SA Dp nE I7 fE lJ sM;show bG hC λC hC=>¬⟨N,_,O,ag qi,λY hY=>?_⟩
 rw[show(1:Int)=((1:Nat):Int)from rfl,Gd.cut_from,er,xP,List.drop_one,List.tail_cons];let sY:=ay hY (.lst ⇑(rest.map λ(j:Nat)=>(j:Int)));let ky:KL (af G2 Y (.lst ⇑(rest.map λ(j:Nat)=>(j:Int)))) Y rest:=ar;generalize af G2 Y (.lst ⇑(rest.map λ(j:Nat)=>(j:Int)))=G3 at sY ky⊢;let I9:=I8.same sY;let nr:∀m∈rest,m<ds⁻¹/\bQ ds m=false/\m≠0:=λm hm=>by
  let h1:=Su.mp (show m∈cG ds by rw[er];show qS _ hm);let h2:=Sv ds;rw[er]at h2;show⟨h1.1,h1.2,λz=>(y9.mp h2).1 (by rw[<-z];show hm)⟩
 show⟨Y,O,⟨_,ag ky⟩,iK (xs:=⇑(rest.map λ(j:Nat)=>(j:Int))) (λi σ G=>Same G3 G/\∃z9 pI pJ jA,σ=[!.ref a,!.ref B,!.ref p,!.ref U,!.ref Sp,!.ref S,!.int t,!.ref L,!.ref D,z9,!.ref N,pI,pJ,jA]) ⟨Same.refl _,_,_,_,_,O⟩ ?_ ?_ ?_⟩
 .ext i σ G hi ⟨s9,_⟩;show ag (s9 _ _ ky)
 rotate_left
 .ext σ G ⟨s9,z9,pI,pJ,jA,rfl⟩;show mD hC (q G)
 ext i y σ G hy ⟨s9,z9,pI,pJ,jA,rfl⟩;let⟨m,em,rfl⟩:=fN hy;let⟨hm,nm,m0⟩:=nr m (qN em);let⟨n,hk⟩:=qeK cx.bk hm m0;let IA:=I9.same s9;let geo:=qet cx.toCx5 sg az h0 l0 JB hk nm;let⟨d,ed,he⟩:=fK hk;dsimp only[aY];show mC λC hC=>¬⟨_,O,_,O,B,p,U,Sp,S,D,n,m,ds,ls,us,sp,sz,tp,O,IA,cx,hk,nm,geo,λG4 j8=>-⟨bj ?_⟩⟩
 let IB:=IA.same j8;let⟨PZ,yf,wm⟩:=IB.bk;let⟨c,ec,nc⟩:=wm.get ed;let⟨_,_,hc,_⟩:=nc.ex;rw[he]at hc;show bG hC λC hC=>¬⟨_,O,B,_,_,_,O,O,ag yf,aX ec,c,_,_,_,O,O,aC hc,O,B,n,ds,O,IB.bk,le,λX G5 hX zf JD=>?_⟩
 let IC:=IB.same zf;let CP:=(s9.trans j8).trans zf;dsimp only[aY];let hl:(kB ds n ds⁻¹)⁻¹<=ds⁻¹:=by
  show rK (yG _ _) ?_;rw[xZ];show qG _
 let lQ:∀o∈kB ds n ds⁻¹,o∈aw ds n/\bQ ds o=false:=λo ho=>qeM ho
 generalize kB ds n ds⁻¹=hd at JD hl lQ;show bG hC λC hC=>-⟨X,O,⟨_,ag JD⟩,bB (xs:=hd.map λ(j:Nat)=>V.int (j:Int)) (λi ys ae H'=>H'=G5/\ys=((hd.take i).filter λo=>decide (m<o)).map (λ(j:Nat)=>V.int (j:Int))/\∃z,ae=[z,!.int m]) (by rw[qA];show aW ()) ⟨O,O,none,O⟩ ?_ ?_ ?_⟩
 .ext i ys ae H' hi ⟨rfl,rfl,_⟩;show ag JD
 .ext i y ys ae H' hy ⟨rfl,rfl,z,rfl⟩;rw[qH]at hy;let⟨o,eo,rfl⟩:=rP.mp hy;show¬⟨_,_,O,O,_,O,?_⟩;rw[qO,eo,Option.toList_some,rS,qD,uV]
  by_cases lt:m<o
  .rw[qX (qR lt)];show eS (show(m:Int)<(o:Int) by omega) ⟨_,O,O,O,_,O⟩
  .show dM (show¬(m:Int)<(o:Int) by omega) ⟨O,?_,_,O⟩;simp[lt]
 ext ys ae G' ⟨eG,rfl,_⟩ Z hZ;obtain rfl:G5=G':=eG.symm;rw[qI (by rw[qA];show qG _)];let lQ:∀o∈hd.filter λo=>decide (m<o),o∈aw ds n/\bQ ds o=false/\m<o:=λo ho=>by
  let⟨h1,h2⟩:=rY.mp ho;show⟨(lQ o h1).1,(lQ o h1).2,rF h2⟩
 generalize hd.filter (λo=>decide (m<o))=hf at lQ⊢;let sZ:=ay hZ (.lst (hf.map λ(j:Nat)=>V.int (j:Int)));let fR:af G5 Z (.lst (hf.map λ(j:Nat)=>V.int (j:Int))) Z=!.lst (hf.map λ(j:Nat)=>V.int (j:Int)):=ar;generalize af G5 Z (.lst (hf.map λ(j:Nat)=>V.int (j:Int)))=G6 at sZ fR⊢;let kg:=CP.trans sZ;show⟨Z,O,⟨_,ag fR⟩,iK (xs:=hf.map λ(j:Nat)=>V.int (j:Int)) (λi σ J=>Same G6 J/\∃jA,σ=[!.ref a,!.ref B,!.ref p,!.ref U,!.ref Sp,!.ref S,!.int t,!.ref L,!.ref D,z9,!.ref N,!.int m,!.ref X,jA]) ⟨Same.refl _,_,O⟩ ?_ ?_ ?_⟩
 .ext i σ J hi ⟨gj,_⟩;show ag (gj _ _ fR)
 .ext i y σ J hy ⟨gj,jA,rfl⟩;rw[qH]at hy;let⟨o,eo,rfl⟩:=rP.mp hy;let⟨o1,o2,o3⟩:=lQ o (qN eo);dsimp only[aY];show¬⟨_,O,_,O,_,O,B,p,U,Sp,S,D,m,o,ds,ls,us,sp,sz,tp,O,(IC.same sZ).same gj,cx,hm,nm,cO o1,o2,qeu cx.toCx5 sg h0 l0 JB hk o1 nm o2 o3,λJ' gE=>-⟨bj ⟨gj.trans gE,_,O⟩⟩⟩
 ext σ J ⟨gj,jA,rfl⟩;let ID:=(IC.same sZ).same gj;let gE:=kg.trans gj;let⟨ab5,hB5,nd5⟩:=ID.bk;let⟨c5,ec5,nc5⟩:=nd5.get ed;let⟨_,_,CQ,_⟩:=nc5.ex;show mD hC ⟨_,O,_,O,B,_,_,_,O,O,ag hB5,aX ec5,c5,_,_,_,O,O,aC CQ,O,O,_,O,?_⟩
 by_cases tx:d.k=.text
 .show hV (bH d.k .text) tx ⟨_,O,_,O,_,O,_,O,_,O,_,O,B,p,U,Sp,S,m,d,ds,ls,us,sp,sz,O,ID.toInZ,cx,az,h0,ed,tx,λJ' Do=>-⟨bj ⟨gE.trans Do,_,_,_,_,O⟩⟩⟩
 .show h8 (bH d.k .text) tx ⟨gE,_,_,_,_,O⟩
end K33
namespace L2
open PyProof.Rows
def JE(Pt:Addr)(H:Hp):=H Pt=!.tbl #[]/\∀b,b≠Pt->H b=none\/∃o xs,H b=!.frz o (.lst xs)
def qeV{P:Program}{w:World}{K:W.Frag}{mg mb:TJ}{CX:dt}{k:Nat}{fa a c Pt:Addr}{fd:FuncData}{x:Str}{sp:Sp}{a7:Shared}{vs:TU}{ns:TN}(KX:K.In a7.heap)(tu:a7.heap.Ns mainGlobals mg)(hb:a7.heap.Ns builtinsNs mb)(Af:∀x:Str,x ≠ "__name__" -> mb x=bootBuiltins x)(qeW:a7.heap.NoLimit)(hg:a7.gens=#[])(ha:a7.heap.get? a=!{cls:=.type "list",data:=.seq vs.toArray})(hi:IntsAre vs ns)(hl:ns⁻¹<=sizeLine)(hr:Room k callerA)(hC:W.codeHdIn K c Pt=true)(hT:a7.heap.get? Pt=!W.tabObj #[])(AA:K.lookup Pt=none)(JF:a7.heap.BuiltinsAt mg Pt)(F:∀base:Heap,K.In base->base.Ns mainGlobals mg->base.BuiltinsAt mg Pt->aN P w K mg base CX k fa fd [x] sp)(pC:∀(s:Shared) (u:Value),BindsTo s fd ⟨[u],[]⟩ [(x,u)])(fU:∀H:Hp,JE Pt H->SqL K H a ⇑ns->sp [.ref a] H (λv _=>v=.bl true) λ_ _ _=>False)(JG:∀H e s',CX [] H a7 (λ_ _ _=>False) e s'->False) :
  codeAny (model P w) callerA (.call (.ref fa) ⟨[.ref a],[]⟩) (λr s'=>r=.ok (.ret (.bool true))/\OldK a7.heap s'.heap/\s'.os=a7.os/\AllBare s'.gens) a7:=by
 let rv:=Le hi;let qeX:=hi⁻¹;let aP:a≠Pt:=λz=>by rw[z,hT]at ha;cases ha
 have xk:∀H:Hp,JE Pt H->SqL K H a ⇑ns->HOk P w H a7.heap->(∀b,H b≠none->b=a\/b=Pt)->(H a≠none->K.lookup a=none) ->
   codeAny (model P w) callerA (.call (.ref fa) ⟨[.ref a],[]⟩) (λr s'=>r=.ok (.ret (.bool true))/\OldK a7.heap s'.heap/\s'.os=a7.os/\AllBare s'.gens) a7:=by
  intro H hO hS hok hA hK;let JH:∀{b:Addr} {o:Obj},a7.heap.get? b=!o->H b=none->(jC a7.heap H).get? b=!o:=λe n=>UC e n
  have ud:∀{b:Addr} {o:Obj} {es:Array DictEntry} {ep:Nat},a7.heap.get? b=!o->o.data=.dict es ep->H b=none:=λ{b o es ep} e d=>by
   cases q:H b with
   | none=>rfl
   | some u =>
     rcases hA b (by rw[q];simp)with e' | e'
     · subst e'
       rw[ha]at e;cases e
       let d':Data.seq vs.toArray _=Data.dict es ep:=d
       cases d'
     · rw[e',hT]at e
       cases e
       cases d
  let Dq:∀{b:Addr} {m:TJ},a7.heap.Ns b m->(jC a7.heap H).Ns b m:=λ{b m} ⟨o,es,ep,e,d,r⟩=>⟨o,es,ep,JH e (ud e d),d,r⟩
  have SC:K.In (jC a7.heap H):=λb o e=>JH (KX b o e) (by
   cases q:H b with
   | none=>rfl
   | some u =>
     rcases hA b (by rw[q];simp)with e' | e'
     · subst e'
       rw[hK (by rw[q];simp)]at e;cases e
     · rw[e',AA]at e;cases e)
  have hM:Mod K mg (jC a7.heap H):=⟨SC,Dq tu,⟨mb,Dq hb,Af⟩,let⟨mc,h1,h2⟩:=qeW;⟨mc,Dq h1,h2⟩⟩;let hBb:(jC a7.heap H).BuiltinsAt mg Pt:=by
   let⟨bm,o,b1,b2,b3,b4,b5,b6,r⟩:=JF;show⟨bm,o,b1,b2,b3,b4,JH b5 ?_,b6,r⟩;cases q:H bm with
   | none=>rfl
   | some u =>
     rcases hA bm (by rw[q];simp)with e' | e'
     · rw[e',ha]at b5
       cases b5
       let z:(Value.type "list")=.type "module":=b6
       show qT z {}
     · show qT e' b4
  let e0:Env0 P w K mg (jC a7.heap H) callerA [] a7 H:=⟨O,hM,λb o e=>UD e,Nat.le_of_eq (UA _ _),trivial,λb hb=>qT (show b∈([]:TQ)from hb) ∅,hok,.of_eq hg⟩;show uQ ((F _ SC (Dq tu) hBb).run callerA [] a7 H ⟨[.ref a],[]⟩ [.ref a] [.ref a] _ _ hr e0 (pC a7 (.ref a)) (.cons O .nil) (fU H hO hS)) λr s' h=>?_
  cases r with
  | error e=>show(JG H e s' h).elim
  | ok fl =>
    cases fl with
    | next=>show False.elim h
    | brk=>show False.elim h
    | cont=>show False.elim h
    | ret u =>
      let⟨v,H',os,bare,un,SE,r',q⟩:=h
      let q':v=.bl true:=q
      subst q'
      obtain rfl:u=Value.bool true:=r'
      let⟨more,eT⟩:=un.tbls Pt _ hO.1
      let gT:s'.heap.get? Pt=!{cls:=.none,data:=.fields (#[]++more)}:=SE Pt _ eT
      have kept:∀b o,b≠Pt->a7.heap.get? b=!o->s'.heap.get? b=!o:=λb o n e=>by
        cases q:H b with
        | none=>show un.keep b o e q (by intro z;show qT (show b∈([]:TQ)from z) ∅) ∅
        | some u =>
          rcases hO.2 b n with z | ⟨ob,xs,z⟩
          · rw[q]at z;cases z
          · let z2:=un.frzs b ob _ z
            let⟨e1,_⟩:=hok b _ z
            let⟨e2,_⟩:=SE b _ z2
            rw[e]at e1;cases e1
            show e2
      let⟨oc,cv,_,_,_,_,_,_,_,g1,g2,g3,g4,_⟩:=W.codeHd_of_K KX hC
      show⟨O,⟨λb o e=>?_,λb o e=>?_⟩,os,bare⟩
      · by_cases z:b=Pt
        · rw[z,hT]at e
          cases e
          rw[z]
          show .inr (.inl ⟨⟨c,oc,cv,g1,g2,g3,g4⟩,O,#[],more,O,gT⟩)
        · show .inl (kept b o z e)
      · by_cases z:b=Pt
        · rw[z];show⟨_,gT⟩
        · show⟨o,kept b o z e⟩
 let SF:∀H:Hp,H Pt=!.tbl #[]->ObjOk P w H a7.heap Pt (.tbl #[]):=λH _=>hT
 cases hk:K.lookup a with
 | some o =>
   let e:=KX a o hk
   rw[ha]at e
   cases e
   show xk (λb=>if b=Pt then !.tbl #[]else none) ⟨qX O,λb n=>.inl (qY n)⟩ (.inr ⟨_,vs.toArray,_,hk,O,O,O,by rw[rC,qeX];show hl,‹rv›⟩) (λb u z=>?_) (λb z=>?_) λz=>qT (qY aP) z
   · by_cases y:b=Pt
     · let z':=(qX y).symm.trans z
       cases z'
       rw[y]
       show SF _ (qX O)
     · let z':=(qY y).symm.trans z
       cases z'
   · by_cases y:b=Pt
     · show .inr y
     · show qT (qY y) z
 | none =>
   show xk (λb=>if b=Pt then !.tbl #[]else if b=a then !.frz {cls:=.type "list",data:=.seq vs.toArray} (.lst ⇑ns)else none) ⟨qX O,λb n=>?_⟩ (.inl (.inr ⟨{cls:=.type "list",data:=.seq vs.toArray},by show(if a=Pt then _ else if a=a then _ else none)=_;rw[qY aP,qX O]⟩)) (λb u z=>?_) (λb z=>?_) λ_=>hk
   · by_cases hb:b=a
     · show .inr ⟨_,_,by show(if b=Pt then _ else if b=a then _ else none)=_;rw[qY n,qX hb]⟩
     · show .inl (by show(if b=Pt then _ else if b=a then _ else none)=none;rw[qY n,qY hb])
   · by_cases y:b=Pt
     · let z':=(qX y).symm.trans z
       cases z'
       rw[y]
       show SF _ (qX O)
     · by_cases hb:b=a
       · let z':(if b=Pt then !HO.tbl #[]else if b=a then !.frz {cls:=.type "list",data:=.seq vs.toArray} (.lst ⇑ns)else none)=!u:=z
         rw[qY y,qX hb]at z'
         cases z'
         subst hb
         show⟨ha,by rw[qA];show hl,vs,_,rv,ha⟩
       · let z':(if b=Pt then !HO.tbl #[]else if b=a then !.frz {cls:=.type "list",data:=.seq vs.toArray} (.lst ⇑ns)else none)=!u:=z
         rw[qY y,qY hb]at z'
         cases z'
   · by_cases y:b=Pt
     · show .inr y
     · by_cases hb:b=a
       · show .inl hb
       · show qT (by show(if b=Pt then _ else if b=a then _ else none)=none;rw[qY y,qY hb]) z
def walk_ofT{l:W.OpenLaw}{n k:Nat}{q:Program}{pZ:TV}{XP:(Str->Option Value)->Heap->Prop}{YP:World->Heap->Prop}{d:DefRec}{K:Params->W.Frag}{CX:World->dt}{sp:World->Sp}{x:Str}{c Pt:Addr}(hn:l.most=!n)(sR:n<=sizeLine)(uv:d.params.defaults=[])(hr:Room k callerA)(hY:∀(w:World) (h:Heap),YP w h->(K w.params).In h/\h.get? Pt=!W.tabObj #[])(hC:∀w:World,W.codeHdIn (K w.params) c Pt=true)(AA:∀w:World,(K w.params).lookup Pt=none)(F:∀(w:World) (mg:TJ) (fa:Addr) (h:Heap),(K w.params).In h->h.Ns mainGlobals mg->mg d.name=!.ref fa ->
   ∃fd:FuncData,(∀(s:Shared) (u:Value),BindsTo s fd ⟨[u],[]⟩ [(x,u)]) /\
    ∀base:Heap,(K w.params).In base->base.Ns mainGlobals mg->base.BuiltinsAt mg Pt->aN l.prog w (K w.params) mg base (CX w) k fa fd [x] (sp w))(fU:∀(w:World) (H:Hp) (a:Addr) (ns:TN),ns⁻¹<=n->JE Pt H->SqL (K w.params) H a ⇑ns->sp w [.ref a] H (λv _=>v=.bl true) λ_ _ _=>False)(JG:∀(w:World) (H:Hp) (s:Shared) (e:Value) (s':Shared),CX w [] H s (λ_ _ _=>False) e s'->False) :
  W.WalkO q pZ XP YP l.row.toRowW d [] (λf vs=>call f vs):=by
 show Att.attach_call hn uv λw s₀ a7 mg mb fa o pm cd bq a vs ns G Y ho hd fS uy D9 Ea bT hg=>?_
 let⟨KX,hT⟩:=hY w _ Y;let⟨fd,hb,hF⟩:=F w mg fa _ KX G.T.g uy;let JF:a7.heap.BuiltinsAt mg Pt:=by
  let⟨bm,ob,m⟩:=W.bmod_of_top G.T;show⟨bm,ob,m.name,m.ne,λz=>?_,λz=>?_,m.obj,m.cls,m.dict,m.data⟩
  .let⟨o,es,ep,e,d,_⟩:=G.T.g;have:=m.obj;rw[z,e]at this;cases this;let y:=m.data;rw[d]at y;cases y
  .have:=m.obj;rw[z,hT]at this;cases this;let y:=m.data;cases y
 show qeV KX G.T.g G.T.b G.T.builtins G.T.nolimit hg D9 Ea (rK bT sR) hr (hC w) hT (AA w) JF hF hb (λH hO hS=>fU w H a ns bT hO hS) λH e s'=>JG w H a7 e s'
end L2
namespace K33
open L2 Bk Gd
open Bd
open Gen
def qeY{K:W.Frag}{fd:FuncData}{ps:TV}{T:Addr}{o:Obj}{items:Array Value}{n:Nat}(hd:fd.defaults=.ref T)(ho:K.lookup T=!o)(hs:o.data=.seq items n)(h:∀us:TU,us⁻¹=ps⁻¹->∃k,bindArgs fd ⟨us,[]⟩=seqItems? fd.defaults>>=k/\k (!items)=pure (ps.zip us)):Binds K fd ps []:=λs us X hl=>by
 rw[rZ]at hl⊢;let⟨k,h1,h2⟩:=h us hl;show W.binds_K X hd ho hs h1 h2
def qeZ{K:W.Frag}{fd:FuncData}{ps:TV}{T:Addr}{o:Obj}{items:Array Value}{n:Nat}{ds:TU}(hd:fd.defaults=.ref T)(ho:K.lookup T=!o)(hs:o.data=.seq items n)(h:∀us:TU,(us++ds)⁻¹=ps⁻¹->∃k,bindArgs fd ⟨us,[]⟩=seqItems? fd.defaults>>=k/\k (!items)=pure (ps.zip (us++ds))):Binds K fd ps ds:=λs us X hl=>by
 let⟨k,h1,h2⟩:=h us hl;show W.binds_K X hd ho hs h1 h2
def JI{K:W.Frag}{a:Addr}{od:Option Addr}{ah:Array Value}{n:Nat}{sl:Array (Option Value)}{H:Hp}{vs:List V}(l:K.lookup a=!⟨.type "tuple",od,.seq ah n,sl⟩)(z:ah.size<=sizeLine)(v:Vals vs ah.toList):SqT K H a vs :=
 .inr ⟨_,ah,n,l,O,O,z,v⟩
open PySem.W
structure At(K:Frag)(n:Str)(st:Stmt)(f:Addr)(fd:FuncData):Prop where
 a:nsIn K mainGlobals n=!!.ref f
 d:FunD K n n st f fd
 f:Fun K n n st f fd
def at_mk{K:Frag}{n:Str}{st:Stmt}{f:Addr}{oc:Value}{od an:Option Addr}{sl:Array (Option Value)}{kV dc pm cd ct:Value}(a:nsIn K mainGlobals n=!!.ref f)(l:K.lookup f=!⟨oc,od,.func (fnOf n n (dw st) (cy st) (bw st) .none kV dc pm an cd ct),sl⟩)(e:codeIn K cd n=true)(k:keepIn K (.ref f)=true):At K n st f (fnOf n n (dw st) (cy st) (bw st) .none kV dc pm an cd ct):=⟨a,ES l e k,Lg l e k⟩
def Bo(n:Str)(st:Stmt)(ps:TV):=∀(kV bq pm:Value) (an:Option Addr) (aE ct:Value) (us:TU),us⁻¹=ps⁻¹->bindArgs (fnOf n n (dw st) (cy st) (bw st) .none kV bq pm an aE ct) ⟨us,[]⟩=pure (ps.zip us)
def cg{n:Nat}{us:TU}(h:us⁻¹=n+1):∃u r,us=u::r/\r⁻¹=n:=by
 cases us with
 | nil=>cases h
 | cons u r=>show⟨u,r,O,Nat.succ.inj h⟩
def SG{n:Str}{st:Stmt}{p0:Str}(h:∀(kV bq pm:Value) (an:Option Addr) (aE ct u0:Value),bindArgs (fnOf n n (dw st) (cy st) (bw st) .none kV bq pm an aE ct) ⟨[u0],[]⟩=pure [(p0,u0)]):Bo n st [p0]:=λkV bq pm an aE ct us hl=>by
 let⟨u0,r0,rfl,h0⟩:=cg hl;obtain rfl:=rR h0;show h _ _ _ _ _ _ _
def SH{n:Str}{st:Stmt}{p0 p1:Str}(h:∀(kV bq pm:Value) (an:Option Addr) (aE ct u0 u1:Value),bindArgs (fnOf n n (dw st) (cy st) (bw st) .none kV bq pm an aE ct) ⟨[u0,u1],[]⟩=pure [(p0,u0),(p1,u1)]):Bo n st [p0,p1]:=λkV bq pm an aE ct us hl=>by
 let⟨u0,r0,rfl,h0⟩:=cg hl;let⟨u1,r1,rfl,h1⟩:=cg h0;obtain rfl:=rR h1;show h _ _ _ _ _ _ _ _
def SI{n:Str}{st:Stmt}{p0 p1 p2:Str}(h:∀(kV bq pm:Value) (an:Option Addr) (aE ct u0 u1 u2:Value),bindArgs (fnOf n n (dw st) (cy st) (bw st) .none kV bq pm an aE ct) ⟨[u0,u1,u2],[]⟩=pure [(p0,u0),(p1,u1),(p2,u2)]):Bo n st [p0,p1,p2]:=λkV bq pm an aE ct us hl=>by
 let⟨u0,r0,rfl,h0⟩:=cg hl;let⟨u1,r1,rfl,h1⟩:=cg h0;let⟨u2,r2,rfl,h2⟩:=cg h1;obtain rfl:=rR h2;show h _ _ _ _ _ _ _ _ _
def SJ{n:Str}{st:Stmt}{p0 p1 p2 p3:Str}(h:∀(kV bq pm:Value) (an:Option Addr) (aE ct u0 u1 u2 u3:Value),bindArgs (fnOf n n (dw st) (cy st) (bw st) .none kV bq pm an aE ct) ⟨[u0,u1,u2,u3],[]⟩=pure [(p0,u0),(p1,u1),(p2,u2),(p3,u3)]):Bo n st [p0,p1,p2,p3]:=λkV bq pm an aE ct us hl=>by
 let⟨u0,r0,rfl,h0⟩:=cg hl;let⟨u1,r1,rfl,h1⟩:=cg h0;let⟨u2,r2,rfl,h2⟩:=cg h1;let⟨u3,r3,rfl,h3⟩:=cg h2;obtain rfl:=rR h3;show h _ _ _ _ _ _ _ _ _ _
def SK{n:Str}{st:Stmt}{p0 p1 p2 p3 p4:Str}(h:∀(kV bq pm:Value) (an:Option Addr) (aE ct u0 u1 u2 u3 u4:Value),bindArgs (fnOf n n (dw st) (cy st) (bw st) .none kV bq pm an aE ct) ⟨[u0,u1,u2,u3,u4],[]⟩=pure [(p0,u0),(p1,u1),(p2,u2),(p3,u3),(p4,u4)]):Bo n st [p0,p1,p2,p3,p4]:=λkV bq pm an aE ct us hl=>by
 let⟨u0,r0,rfl,h0⟩:=cg hl;let⟨u1,r1,rfl,h1⟩:=cg h0;let⟨u2,r2,rfl,h2⟩:=cg h1;let⟨u3,r3,rfl,h3⟩:=cg h2;let⟨u4,r4,rfl,h4⟩:=cg h3;obtain rfl:=rR h4;show h _ _ _ _ _ _ _ _ _ _ _
def SL{n:Str}{st:Stmt}{p0 p1 p2 p3 p4 p5:Str}(h:∀(kV bq pm:Value) (an:Option Addr) (aE ct u0 u1 u2 u3 u4 u5:Value),bindArgs (fnOf n n (dw st) (cy st) (bw st) .none kV bq pm an aE ct) ⟨[u0,u1,u2,u3,u4,u5],[]⟩=pure [(p0,u0),(p1,u1),(p2,u2),(p3,u3),(p4,u4),(p5,u5)]):Bo n st [p0,p1,p2,p3,p4,p5]:=λkV bq pm an aE ct us hl=>by
 let⟨u0,r0,rfl,h0⟩:=cg hl;let⟨u1,r1,rfl,h1⟩:=cg h0;let⟨u2,r2,rfl,h2⟩:=cg h1;let⟨u3,r3,rfl,h3⟩:=cg h2;let⟨u4,r4,rfl,h4⟩:=cg h3;let⟨u5,r5,rfl,h5⟩:=cg h4;obtain rfl:=rR h5;show h _ _ _ _ _ _ _ _ _ _ _ _
def qe0{P:Program}{w:World}{K:Frag}{mg:TJ}{base h:Heap}(X:K.In h)(G:h.Ns mainGlobals mg){n:Str}{st:Stmt}{f:Addr}{fd:FuncData}{CX:dt}{k:Nat}{ps:TV}{sp:Sp}(A:At K n st f fd)(o:aN P w K mg base CX k f fd ps sp)(b:Bo n st ps:=by first | show SG (by intros;rfl) | show SH (by intros;rfl) | show SI (by intros;rfl) | show SJ (by intros;rfl) | show SK (by intros;rfl) | show SL (by intros;rfl)):Fx P w K mg base CX k n ps sp:=⟨_,_,o,A.f.binds b,A.f.kp,mg_of X G A.a⟩
def qe1{P:Program}{w:World}{K:Frag}{mg:TJ}{base h:Heap}(X:K.In h)(G:h.Ns mainGlobals mg){n:Str}{st:Stmt}{f:Addr}{fd:FuncData}{CX:dt}{k:Nat}{ps:TV}{sp:Sp}(A:At K n st f fd)(no:∀vs H Q E,¬sp vs H Q E)(b:Bo n st ps:=by first | show SG (by intros;rfl) | show SH (by intros;rfl) | show SI (by intros;rfl) | show SJ (by intros;rfl) | show SK (by intros;rfl) | show SL (by intros;rfl)):Fx P w K mg base CX k n ps sp:=.none (A.f.binds b) A.f.kp (mg_of X G A.a) no
def all_mk{l:OpenLaw}(X:K.In h)(G:h.Ns mainGlobals mg)(hfa:mg "law" = !.ref fa)(A1:At K "level_of" Rm f1 d1)(A2:At K "elders_of" Rn f2 d2)(A3:At K "holds" NS f3 d3)(A4:At K "aside_ahead" Qz f4 d4)(A5:At K "look_at" NT f5 d5)(A6:At K "word_width" NG f6 d6)(A7:At K "face_at" NH f7 d7)(a8:nsIn K mainGlobals "all_units" = !!.ref f8)(l8:K.lookup f8=!⟨oc8,od8,.func (fnOf "all_units" "all_units" (dw mX) (cy mX) (bw mX) (.ref T8) kV8 dc8 pm8 an8 SM ct8),sl8⟩)(t8:K.lookup T8=!⟨ocT8,odT8,.seq #[Value.bool false] nT8,slT8⟩)(e8:codeIn K SM "all_units" = true)(k8:keepIn K (.ref f8)=true)(A9:At K "node_units" NU f9 d9)(A10:At K "piece_width" NJ f10 Fp)(A11:At K "printed" NI f11 d11)(A12:At K "rows_high" N3 f12 d12)(A13:At K "row_length" O0 f13 d13)(A14:At K "all_bounds" O9 f14 d14)(A15:At K "node_bounds" O8 f15 d15)(A16:At K "with_insets" OY f16 d16)(A17:At K "units_low" OZ f17 d17)(A18:At K "floor_of" O1 f18 d18)(A19:At K "roof_of" O2 f19 d19)(A20:At K "wish_of" O3 f20 d20)(A21:At K "grid_width" O4 f21 d21)(A22:At K "rounded_up" GY f22 d22)(A23:At K "bounds_in_pile" O5 f23 d23)(A24:At K "row_blemish" QT f24 d24)(A25:At K "row_width" QS f25 d25)(a26:nsIn K mainGlobals "broken" = !!.ref SN)(l26:K.lookup SN=!⟨oc26,od26,.func (fnOf "broken" "broken" (dw nG) (cy nG) (bw nG) (.ref SO) qe2 qe3 qe4 qe5 SQ qe6),sl26⟩)(t26:K.lookup SO=!⟨ocT26,odT26,.seq #[Value.none] nT26,slT26⟩)(e26:codeIn K SQ "broken" = true)(k26:keepIn K (.ref SN)=true)(A27:At K "sums_of_no_row" QU f27 d27)(A28:At K "ways_of_rows" QV f28 d28)(A29:At K "ways_by_end" QW f29 d29)(A30:At K "beginnings_of" QX f30 d30)(A31:At K "least_sum" Q4 f31 d31)(A32:At K "chosen_rows" Q8 f32 d32)(A33:At K "fewest_rows" Q6 f33 d33)(A34:At K "first_met" Q5 f34 d34)(A35:At K "cells_of" Po f35 d35)(A36:At K "grid_places" Pg f36 d36)(A37:At K "first_place" Pf f37 d37)(A38:At K "spots_of" Pe f38 d38)(A39:At K "grid_highs" Qs f39 d39)(A40:At K "end_of" Qr f40 d40)(A41:At K "shares" PM f41 d41)(A42:At K "common_multiple" PK f42 d42)(A43:At K "last_level" PL f43 d43)(A44:At K "had_below" PJ f44 d44)(A45:At K "all_spans" PR f45 d45)(A46:At K "held_spans" PQ f46 d46)(A47:At K "room_of" Pp f47 d47)(A48:At K "floors_of" Pq f48 d48)(A49:At K "roofs_of" Pr f49 d49)(A50:At K "weights_of" Ps f50 d50)(A51:At K "one_behind_the_other" Pu f51 d51)(A52:At K "cell_spans" Px f52 d52)(A53:At K "even_columns" Pw f53 d53)(A54:At K "aside_span" Py f54 d54)(a55:nsIn K mainGlobals "all_sizes" = !!.ref SR)(l55:K.lookup SR=!⟨oc55,od55,.func (fnOf "all_sizes" "all_sizes" (dw fz) (cy fz) (bw fz) .none kV55 dc55 pm55 an55 (.ref cW) ct55),sl55⟩)(e55:codeIn K (.ref cW) "all_sizes" = true)(k55:keepIn K (.ref SR)=true)(A56:At K "node_size" Rj f56 d56)(A57:At K "narrow_of" Ri f57 d57)(A58:At K "high_of_held" QP f58 d58)(A59:At K "held_tops" QO f59 d59)(A60:At K "tops_in_grid" QE f60 d60)(A61:At K "tops_in_pile" QF f61 d61)(A62:At K "insides" R4 f62 d62)(A63:At K "own_wide" RX f63 d63)(A64:At K "_law_stream" Ms f64 d64)(A65:At K "_law_take" Mt f65 d65)(A66:At K "_law_word" Mu f66 d66)(A67:At K "_law_pieces" Mv f67 d67)(A68:At K "_law_add" Mw f68 d68)(A69:At K "_law_text" Mx f69 d69)(A70:At K "_law_item" My f70 d70)(A71:At K "_law_book" Mz f71 d71)(A72:At K "_law_wide" MA f72 d72)(A73:At K "_law_looks" Ck f73 d73)(A74:At K "_law_faces" Om f74 d74)(A75:At K "_law_shown" OT f75 d75)(A76:At K "_law_held" R' f76 d76)(A77:At K "_law_beside" QA f77 d77)(A78:At K "_law_made" Qj f78 d78)(A79:At K "_law_room" Se f79 d79)(A80:At K "_law_within" Sf f80 d80)(A81:At K "_law_juts" Sg f81 d81)(A82:At K "_law_meet" Si f82 d82)(A83:At K "_law_apart" Sj f83 d83)(A84:At K "_law_rows_beside" Sl f84 d84)(A85:At K "law" Sw f85 d85)(x_UN:nsIn K mainGlobals "UNSHOWN" = !!.str (s!"?") tk_UN)(x_FG:nsIn K mainGlobals "FIGURES" = !!.str (s!"0123456789") tk_FG)(x_KP:nsIn K mainGlobals "KINDS_OF_PIECES" = !!.ref SS)(l_KP:K.lookup SS=!⟨.type "tuple",od_KP,.seq #[.str (s!"text") tk_K0,.str (s!"head") tk_K1,.str (s!"note") tk_K2] n_KP,sl_KP⟩)(x_NN:nsIn K mainGlobals "NONE_NARROWER" = !!.ref JJ)(l_NN:K.lookup JJ=!⟨.type "tuple",od_NN,.seq #[.int 0 tk_N0,.int 0 tk_N1] n_NN,sl_NN⟩)(x_PROPERTIES:nsIn K mainGlobals "PROPERTIES" = !!.ref SU)(l_PROPERTIES:K.lookup SU=!⟨.type "tuple",none,.seq #[.str (s!"face") tk_P0,.str (s!"align") tk_P1,.str (s!"above") tk_P2,.str (s!"inset") tk_P3,.str (s!"weight") tk_P4,.str (s!"least") tk_P5,.str (s!"most") tk_P6,.str (s!"columns") tk_P7,.str (s!"span") tk_P8,.str (s!"deep") tk_P9,.str (s!"side") tk_P10,.str (s!"wide") tk_P11,.str (s!"fresh") tk_P12] n_PROPERTIES_,sl_PROPERTIES⟩)(hPt:Pt≠mainGlobals)(hC:codeHdIn K cW Pt=true)(n_isinstance:nsIn K mainGlobals "isinstance" = !none)(n_len:nsIn K mainGlobals "len" = !none)(n_range:nsIn K mainGlobals "range" = !none)(n_sorted:nsIn K mainGlobals "sorted" = !none)(n_int:nsIn K mainGlobals "int" = !none)(n_bool:nsIn K mainGlobals "bool" = !none)(n_list:nsIn K mainGlobals "list" = !none)(n_tuple:nsIn K mainGlobals "tuple" = !none)(n_str:nsIn K mainGlobals "str" = !none)(n_set:nsIn K mainGlobals "set" = !none)(n_enumerate:nsIn K mainGlobals "enumerate" = !none)(n_all:nsIn K mainGlobals "all" = !none)(n_ValueError:nsIn K mainGlobals "ValueError" = !none)(n_any:nsIn K mainGlobals "any" = !none)(n_min:nsIn K mainGlobals "min" = !none)(n_max:nsIn K mainGlobals "max" = !none)(n_sum:nsIn K mainGlobals "sum" = !none)(n_zip:nsIn K mainGlobals "zip" = !none)(n_dict:nsIn K mainGlobals "dict" = !none)(i_ELDER:nsIn K mainGlobals "ELDER" = !!.int 0 t_ELDER)(i_KIND:nsIn K mainGlobals "KIND" = !!.int 1 t_KIND)(i_STUFF:nsIn K mainGlobals "STUFF" = !!.int 4 t_STUFF)(i_SORT:nsIn K mainGlobals "SORT" = !!.int 0 t_SORT)(i_THING:nsIn K mainGlobals "THING" = !!.int 1 t_THING)(i_TONE:nsIn K mainGlobals "TONE" = !!.int 2 t_TONE)(i_HIGH:nsIn K mainGlobals "HIGH" = !!.int 0 t_HIGH)(i_BLANK:nsIn K mainGlobals "BLANK" = !!.int 1 t_BLANK)(i_WIDE_faces:nsIn K mainGlobals "WIDE_faces" = !!.int 2 t_WIDE_faces)(i_ODD:nsIn K mainGlobals "ODD" = !!.int 3 t_ODD)(i_UNIT_WIDE:nsIn K mainGlobals "UNIT_WIDE" = !!.int 0 t_UNIT_WIDE)(i_UNIT_BLANK:nsIn K mainGlobals "UNIT_BLANK" = !!.int 1 t_UNIT_BLANK)(i_UNIT_HIGH:nsIn K mainGlobals "UNIT_HIGH" = !!.int 2 t_UNIT_HIGH)(i_UNIT_NOTES:nsIn K mainGlobals "UNIT_NOTES" = !!.int 4 t_UNIT_NOTES)(i_FIGURES_HELD:nsIn K mainGlobals "FIGURES_HELD" = !!.int 4 t_FIGURES_HELD)(i_LOW:nsIn K mainGlobals "LOW" = !!.int 0 t_LOW)(i_GREAT:nsIn K mainGlobals "GREAT" = !!.int 1 t_GREAT)(i_COUNT:nsIn K mainGlobals "COUNT" = !!.int 0 t_COUNT)(i_BY:nsIn K mainGlobals "BY" = !!.int 1 t_BY)(i_ROWS:nsIn K mainGlobals "ROWS" = !!.int 0 t_ROWS)(i_SUMS:nsIn K mainGlobals "SUMS" = !!.int 1 t_SUMS)(i_TOO_LONG:nsIn K mainGlobals "TOO_LONG" = !!.int 1000000 t_TOO_LONG)(i_ROW:nsIn K mainGlobals "ROW" = !!.int 0 t_ROW)(i_COLUMN:nsIn K mainGlobals "COLUMN" = !!.int 1 t_COLUMN)(i_SPAN:nsIn K mainGlobals "SPAN" = !!.int 2 t_SPAN)(i_DEEP:nsIn K mainGlobals "DEEP" = !!.int 3 t_DEEP)(i_LEFT:nsIn K mainGlobals "LEFT" = !!.int 0 t_LEFT)(i_WIDE_spans:nsIn K mainGlobals "WIDE_spans" = !!.int 1 t_WIDE_spans)(i_SIZE_HIGH:nsIn K mainGlobals "SIZE_HIGH" = !!.int 0 t_SIZE_HIGH): ∃fd:FuncData,(∀(s:Shared) (v:Value),BindsTo s fd ⟨[v],[]⟩ [("_law_script",v)])/\∀base:Heap,K.In base->base.Ns mainGlobals mg->base.BuiltinsAt mg Pt->aN l.prog w K mg base am 13 fa fd ["_law_script"] (Az Pt K):=by
 let e0:=hfa.symm.trans (mg_of X G A85.a);cases e0;let qe7:=yI X G n_isinstance;let qe8:=yI X G n_len;let qe9:=yI X G n_range;let qfa:=yI X G n_sorted;let qfb:=yI X G n_int;let qfc:=yI X G n_bool;let qfd:=yI X G n_list;let qfe:=yI X G n_tuple;let qff:=yI X G n_str;let qfg:=yI X G n_set;let qfh:=yI X G n_enumerate;let qfi:=yI X G n_all;let qfj:=yI X G n_ValueError;let qfk:=yI X G n_any;let qfl:=yI X G n_min;let qfm:=yI X G n_max;let qfn:=yI X G n_sum;let qfo:=yI X G n_zip;let qfp:=yI X G n_dict;let JK:=mg_of X G i_ELDER;let pL:=mg_of X G i_KIND;let Dr:=mg_of X G i_STUFF;let qfq:=mg_of X G i_SORT;let qfr:=mg_of X G i_THING;let qfs:=mg_of X G i_TONE;let qft:=mg_of X G i_HIGH;let qfu:=mg_of X G i_BLANK;let qfv:=mg_of X G i_WIDE_faces;let qfw:=mg_of X G i_ODD;let SV:=mg_of X G i_UNIT_WIDE;let SW:=mg_of X G i_UNIT_BLANK;let qfx:=mg_of X G i_UNIT_HIGH;let qfy:=mg_of X G i_UNIT_NOTES;let qfz:=mg_of X G i_FIGURES_HELD;let SX:=mg_of X G i_LOW;let qfA:=mg_of X G i_GREAT;let JL:=mg_of X G i_COUNT;let qfB:=mg_of X G i_BY;let qfC:=mg_of X G i_ROWS;let qfD:=mg_of X G i_SUMS;let qfE:=mg_of X G i_TOO_LONG;let SY:=mg_of X G i_ROW;let SZ:=mg_of X G i_COLUMN;let Ua:=mg_of X G i_SPAN;let qfF:=mg_of X G i_DEEP;let Ub:=mg_of X G i_LEFT;let JM:=mg_of X G i_WIDE_spans;let AB:=mg_of X G i_SIZE_HIGH;let T:bY mg:=⟨⟨qe7,qe8,qe9,qfa,qfb,qfc,qfd,qfe,qff,qfg,qfh,qfi,qfj⟩,qfk,qfl,qfm,qfn,qfo⟩;let TD:Fc.BnD mg:=⟨T,qfp⟩;let TS:Shr.BnS mg:=⟨T.isinstance,T.len,T.range,T.int,T.bool,T.list,T.min,T.max,T.sum,T.zip,T.enumerate,T.sorted,T.all⟩;let TG:qp mg:=⟨T.isinstance,T.len,T.range,T.int,T.bool,T.list,T.tuple,T.any,T.min,T.max,T.sum,T.zip⟩;let TR:Br.BnR mg:=⟨TG,⟨_,SV⟩,⟨_,SW⟩⟩;let UF:BN mg:=⟨⟨_,qft⟩,⟨_,qfu⟩,⟨_,qfv⟩,⟨_,qfw⟩⟩;let UU:BO mg:=⟨UF,⟨_,qfq⟩,⟨_,qfr⟩,⟨_,qfs⟩,⟨_,mg_of X G x_UN⟩,⟨_,qfz⟩,⟨_,mg_of X G x_FG⟩⟩;let UB:Bd.NumsB mg:=⟨⟨_,pL⟩,⟨_,Dr⟩,⟨_,SV⟩,⟨_,SW⟩,⟨_,SX⟩,⟨_,qfA⟩⟩;let US:sw mg:=⟨⟨_,pL⟩,⟨_,SX⟩,⟨_,Ub⟩,⟨_,JM⟩,⟨_,SZ⟩,⟨_,Ua⟩⟩;let UG:BD mg:=⟨⟨_,SY⟩,⟨_,SZ⟩,⟨_,Ua⟩,⟨_,qfF⟩⟩;let AC:∀H:Hp,SqT K H SS (Sp0.pieceKinds.map V.str):=λH=>JI (vs:=Sp0.pieceKinds.map V.str) l_KP (by show 3<=sizeLine;decide) (.cons ⟨_,O⟩ (.cons ⟨_,O⟩ (.cons ⟨_,O⟩ (.nil))))
 let AD:=mg_of X G x_KP;let NN0:∀H:Hp,SqT K H JJ [.int 0,.int 0]:=λH=>JI l_NN (by show 2<=sizeLine;decide) (.cons ⟨_,O⟩ (.cons ⟨_,O⟩ (.nil)))
 let Uc:=mg_of X G x_NN;let PT:Np K SU:=⟨λH=>JI (vs:=xc.map V.str) l_PROPERTIES (by show 13<=sizeLine;decide) (.cons ⟨_,O⟩ (.cons ⟨_,O⟩ (.cons ⟨_,O⟩ (.cons ⟨_,O⟩ (.cons ⟨_,O⟩ (.cons ⟨_,O⟩ (.cons ⟨_,O⟩ (.cons ⟨_,O⟩ (.cons ⟨_,O⟩ (.cons ⟨_,O⟩ (.cons ⟨_,O⟩ (.cons ⟨_,O⟩ (.cons ⟨_,O⟩ (.nil)))))))))))))),⟨_,l_PROPERTIES,O,O⟩⟩;let qfG:=mg_of X G x_PROPERTIES;let⟨_,_,_,_,_,_,_,_,_,e,_⟩:=A85.f.ex;let F8:=ES (st:=mX) l8 e8 k8;let bD8:Binds K _ ["book", "looks", "faces", "shown", "held"] [Value.bool false]:=qeZ (fd:=fnOf "all_units" "all_units" (dw mX) (cy mX) (bw mX) (.ref T8) kV8 dc8 pm8 an8 SM ct8) O t8 O λus hl=>by(have hl:us⁻¹=4:=‹hl›;let⟨u0,r0,rfl,h0⟩:=cg hl;let⟨u1,r1,rfl,h1⟩:=cg h0;let⟨u2,r2,rfl,h2⟩:=cg h1;let⟨u3,r3,rfl,h3⟩:=cg h2;obtain rfl:=rR h3;show-⟨O⟩)
 let m8:=mg_of X G a8;let F26:=ES (st:=nG) l26 e26 k26;let b26:Binds K _ ["units", "width", "narrow"] []:=qeY (fd:=fnOf "broken" "broken" (dw nG) (cy nG) (bw nG) (.ref SO) qe2 qe3 qe4 qe5 SQ qe6) O t26 O λus hl=>by(let⟨u0,r0,rfl,h0⟩:=cg hl;let⟨u1,r1,rfl,h1⟩:=cg h0;let⟨u2,r2,rfl,h2⟩:=cg h1;obtain rfl:=rR h2;show-⟨O⟩)
 let m26:=mg_of X G a26;let F55:=Lg (st:=fz) l55 e55 k55;let b55:=F55.binds (ps:=["book", "looks", "units", "spans"]) λ_ _ _ _ _ _ us hl=>by(let⟨u0,r0,rfl,h0⟩:=cg hl;let⟨u1,r1,rfl,h1⟩:=cg h0;let⟨u2,r2,rfl,h2⟩:=cg h1;let⟨u3,r3,rfl,h3⟩:=cg h2;obtain rfl:=rR h3;rfl)
 let m55:=mg_of X G a55;show⟨d85,λs v=>by rw[e];show .of_eq O,λbase KB GB hB=>?_⟩;let fx:=@qe0 l.prog w K mg base h X G;let Ud:=fx A64 (Xt A64.f T.toBn);let jB:=fx A65 (Xu A65.f);let x66:=fx A66 (Xv A66.f T.toBn jB);let x67:=fx A67 (Xw A67.f T.toBn jB x66);let JN:=fx A68 (XB A68.f T.toBn jB);let x69:=fx A69 (XG A69.f T.toBn jB x67 JN);let XI:∀g,Fx l.prog w K mg base am (6+g) "_law_item" ["_law_nodes", "_law_elder", "_law_level", "_law_room_here", "_law_stream_here"] (Gw.spItem g):=λg=>by
  induction g with
  | zero=>show qe1 X G A70 Gw.item_none
  | succ g e=>show fx A70 (XR A70.f T.toBn jB JN x69 e)
 let x71:=fx A71 (X5 A71.f T.toBn (XI 4));let x72:=fx A72 (X6 A72.f T.toBn jB JN (XI 4));let x3:=fx A3 (Zy A3.f T.toBn ⟨_,JK⟩);let x2:=fx A2 (qdL A2.f ⟨_,JK⟩);let x1:=fx A1 (qdM A1.f T.toBn x2);let x4:=fx A4 (qcV A4.f ⟨_,JK⟩ ⟨_,pL⟩ x3);let x5:=fx A5 (ZA A5.f qfG PT);let x6:=fx A6 (Ze A6.f TD UF);let x7:=fx A7 (Zg A7.f TD UF);let x11:=fx A11 (Zh A11.f TD UU);let x10:=fx A10 (Zj A10.f TD UU x6 x11);let x9:=fx A9 (ZF A9.f TD UU ⟨_,pL⟩ ⟨_,Dr⟩ ⟨_,qfy⟩ AD AC x3 x7 x10);let qfH:Gq l.prog w K mg base am 4 "all_units" ["book", "looks", "faces", "shown", "held"] [Value.bool false] (fal 4 Fc.spAllU):=⟨_,_,qaq F8 T x5 x9,bD8,k8,m8⟩;let Ue:=fx A12 (ZW A12.f T ⟨_,qfx⟩);let x16:=fx A16 (qbi A16.f x5);let x17:=fx A17 (qbj A17.f T UB);let Uf:=fx A13 (qbk A13.f T UB);let Ds:=fx A18 (qbm A18.f T UB x5);let Ug:=fx A19 (qbn A19.f T x5 Ds);let x20:=fx A20 (qbo A20.f T UB Ds Ug);let x22:=fx A22 (qbp A22.f);let qfI:=fx A22 (qc6 A22.f);let x21:=fx A21 (qbq A21.f T x5 x22);let x23:=fx A23 (qbr A23.f UB x5);let x15:=fx A15 (qbx A15.f T UB AD AC x5 x16 x17 Uf x3 Ds x20 x21 x23);let x14:=fx A14 (qbB A14.f T x15);let x25:=fx A25 (qc7 A25.f TR ⟨_,JL⟩ ⟨_,qfB⟩);let x24:=fx A24 (qc9 A24.f TR ⟨_,qfE⟩ x25 Uf);let x30:=fx A30 (qdd A30.f TR x24);let x29:=fx A29 (qdf A29.f TR x30);let x28:=fx A28 (qdh A28.f TR ⟨_,JL⟩ x29);let x27:=fx A27 (qdc A27.f TR);let x31:=fx A31 (qdi A31.f TR);let x34:=fx A34 (qdj A34.f TR);let x33:=fx A33 (qdk A33.f TR);let x32:=fx A32 (qdl A32.f TR x33 x34);let qfJ:Fx l.prog w K mg base am 6 "broken" ["units", "width", "narrow"] (Bw.spBroken2 K JJ):=⟨_,_,qdo F26 TR Uc x28 x27 x31 x32,b26,k26,m26⟩;let Uh:=fx A35 (qbM A35.f x5);let Ui:=fx A38 (qbE A38.f TG UG);let x37:=fx A37 (qbF A37.f TG Ui);let Uj:=fx A36 (qbG A36.f TG Ui x37);let x40:=fx A40 (qcS A40.f UG);let x39:=fx A39 (qcT A39.f TG UG x40);let Uk:=fx A44 (qbX A44.f TS);let x42:=fx A42 (qbY A42.f);let x43:=fx A43 (qbZ A43.f TS Uk);let x41:=fx A41 (qb0 A41.f TS x42 x43 Uk);let Ul:=fx A47 (qbN A47.f T US x5);let x48:=fx A48 (qbO A48.f Ds);let x49:=fx A49 (qbP A49.f Ug);let x50:=fx A50 (qbQ A50.f x5);let x51:=fx A51 (qbR A51.f T);let x53:=fx A53 (qbS A53.f T);let x52:=fx A52 (qbT A52.f T US x53 Uj);let x54:=fx A54 (qbW A54.f T US x5);let x46:=fx A46 (qb3 A46.f T US AD AC x3 x5 Ul x48 x49 x50 x41 x51 Uh x52 x54);let x45:=fx A45 (qcb A45.f T x3 x46);let x60:=fx A60 (qcY A60.f T ⟨_,AB⟩ ⟨_,SY⟩ Uh Uj x39);let x61:=fx A61 (qc0 A61.f T ⟨_,AB⟩ ⟨_,pL⟩ x5 x4);let Um:=fx A59 (qc2 A59.f ⟨_,pL⟩ AD AC x3 x5 x60 x61);let x58:=fx A58 (qc5 A58.f T ⟨_,AB⟩ Um);let x57:=fx A57 (qdE A57.f ⟨_,AB⟩ ⟨_,JM⟩ Uc NN0 x4 qfI Ue);let x56:=fx A56 (qdF A56.f T ⟨_,pL⟩ ⟨_,Dr⟩ ⟨_,JM⟩ ⟨_,qfC⟩ ⟨_,qfD⟩ ⟨_,JL⟩ AD AC x58 x57 Ul qfJ Ue);let⟨fl,dl,Fl,CZ,Jg,Jh⟩:=id x1;let qfK:Fx l.prog w K mg base am 8 "all_sizes" ["book", "looks", "units", "spans"] (Dj Pt):=⟨_,_,qei l55 e55 T T.sorted hC hPt hB Fl CZ Jg Jh x56,b55,k55,m55⟩;let x63:=fx A63 (qem A63.f US ⟨_,Dr⟩);let x62:=fx A62 (qev A62.f T ⟨_,AB⟩ ⟨_,Ub⟩ x63 Um);let x73:=fx A73 (qa4 A73.f T jB);let x74:=fx A74 (qat A74.f T jB);let x75:=fx A75 (qbb A75.f T jB);let x76:=fx A76 (qey A76.f T);let Uo:=fx A77 (qcW A77.f T);let x79:=fx A79 (qez A79.f T);let x80:=fx A80 (qeA A80.f x79);let x81:=fx A81 (qeC A81.f);let x82:=fx A82 (qeD A82.f);let x83:=fx A83 (qeE A83.f Uo x81 x82);let x84:=fx A84 (qeG A84.f T Uo);let x78:=fx A78 (qcG A78.f T Ud jB x71 x72 x73 x74 x75 qfH x14 x45);show qeN A85.f T Ud jB x78 qfK x62 x80 x76 x83 x84
def walk{l:OpenLaw}{q:Program}{pZ:TV}{XP:(Str->Option Value)->Heap->Prop}{YP:World->Heap->Prop}{d:DefRec}{K:Params->Frag}{c Pt:Addr}(hn:l.most=!63)(uv:d.params.defaults=[])(hY:∀(w:World) (h:Heap),YP w h->(K w.params).In h/\h.get? Pt=!tabObj #[])(hC:∀w:World,codeHdIn (K w.params) c Pt=true)(AA:∀w:World,(K w.params).lookup Pt=none)(F:∀(w:World) (mg:TJ) (fa:Addr) (h:Heap),(K w.params).In h->h.Ns mainGlobals mg->mg d.name=!.ref fa ->
   ∃fd:FuncData,(∀(s:Shared) (u:Value),BindsTo s fd ⟨[u],[]⟩ [("_law_script",u)])/\∀base:Heap,(K w.params).In base->base.Ns mainGlobals mg->base.BuiltinsAt mg Pt->aN l.prog w (K w.params) mg base am 13 fa fd ["_law_script"] (Az Pt (K w.params))) :
  WalkO q pZ XP YP l.row.toRowW d [] (λf vs=>call f vs) :=
 L2.walk_ofT (n:=63) (k:=13) (x := "_law_script") (c:=c) (Pt:=Pt) (CX:=λ_=>am) (sp:=λw=>Az Pt (K w.params)) hn {} uv ⟨O,{},{}⟩ hY hC AA F (λ_ _ a ns hl hO hS=>⟨a,ns,O,hS,hl,⟨#[],hO.1,trivial,.inl O⟩,λ_=>rfl⟩) λ_ _ _ _ _ z=>z
end K33
end
namespace PySem.W.Fast
theorem te17636692409763421294:True:=trivial
def tw17636692409763421294:Unit:=()
def tw1288009759481703423:PySem.Program:=PySem.Challenge.pw_leafpress_k33_whole_insides
theorem te1288009759481703423:PySem.Challenge.pw_leafpress_k33_whole_insides=tw1288009759481703423:=rfl
local macro_rules|`(command|#check $s:str)=>do
 let mut p:="";let mut r:Array Lean.Syntax:=#[]
 for w in s.getString.splitOn " " do
  if w.isNat then r:=r.push (← `(command|noncomputable def $(Lean.mkIdent (.mkSimple s!"tw{(Lean.Name.mkStr `PySem.Challenge.cw_leafpress_k33_whole_insides_holds (p++w)).hash}")):ident:=())) else p:=w
 return Lean.mkNullNode r
#check "heap_ 46 618 o_ 43 45 46 49 51 52 53 54 56 57 58 59 60 61 62 63 64 66 67 68 69 70 72 73 74 75 76 77 78 79 80 82 83 84 85 86 87 89 90 91 92 93 94 96 97 98 99 101 103 104 105 106 107 108 109 111 112 113 114 115 116 118 119 120 121 123 124 125 126 127 128 129 131 132 133 134 136 137 138 139 140 141 143 144 145 146 148 149 150 151 152 153 155 157 158 159 160 162 163 164 165 167 168 169 170 172 173 174 175 177 178 179 180 181 182 184 185 186 187 189 190 191 192 193 194 196 197 198 199 200 201 203 204 205 206 207 208 210 211 212 213 215 216 217 218 219 220 222 223 224 225 226 227 229 230 232 233 234 235 236 237 239 240 241 242 243 244 245 247 248 249 250 252 253 254 255 257 258 259 260 262 263 264 265 267 268 269 270 271 272 274 275 276 277 279 280 281 282 283 284 286 287 288 289 291 292 293 294 296 298 299 300 301 303 304 305 306 307 308 310 311 312 313 315 316 317 318 320 321 322 323 325 326 327 328 329 330 332 333 334 335 336 337 339 340 341 342 343 344 346 347 348 349 350 351 353 354 355 356 357 358 360 361 362 363 365 367 368 369 370 372 373 374 375 376 377 379 380 381 382 384 385 386 387 389 390 391 392 394 395 396 397 399 400 401 402 403 404 406 407 408 409 411 412 413 414 415 416 418 419 420 421 423 424 425 426 427 428 430 431 432 433 434 435 437 438 439 440 442 444 445 446 447 449 450 451 452 454 455 456 457 459 460 461 462 463 464 466 467 468 469 470 471 473 474 475 476 477 478 480 481 482 483 484 485 487 488 489 490 491 492 494 495 496 497 498 499 501 502 503 504 506 507 508 509 511 512 513 514 516 518 519 520 521 522 523 525 526 527 528 529 530 532 533 534 535 536 537 539 540 541 542 543 544 546 547 548 549 551 552 553 554 556 557 558 559 561 562 563 564 566 567 568 569 570 571 573 574 575 576 577 578 580 581 582 583 584 585 587 588 589 590 591 592 594 596 597 598 599 600 601 603 604 605 606 607 608 610 611 612 613 615 616 617 sts_ 49 64 99 153 227 294 363 440 514 592 tree_ 47 63 98 152 226 293 362 439 513 591 617 view_ 39"
end PySem.W.Fast
open PySem PySem.W PyProof.Rows
local macro_rules | `(tactic| trivial)=>`(tactic| (refine' K33.at_mk ?a ?l ?e ?k;(case a=>k_is);(case l=>k_is);(case e=>k_is);(case k=>k_is)))
set_option maxRecDepth 100000 in
set_option maxHeartbeats 0 in
theorem PySem.Challenge.cw_leafpress_k33_whole_insides_holds : PySem.Challenge.rw_leafpress_k33_whole_insides.Holds := by
 w_on;o_law;k_head;(case hw=>w_witness2)
 k_fill
 refine K33.walk (l:=PySem.Challenge.rw_leafpress_k33_whole_insides) (c:=370) (Pt:=368) rfl rfl (λw h Y=>⟨PySem.W.km_in_of Y,PySem.W.km_tabs_of Y _ (by simp)⟩) (λw=>by first | k_is | kernel_rfl) (λw=>by first | kernel_rfl | k_is) ?F
 case F =>
  intro w mg fa h KX G uy;refine' K33.all_mk KX G uy ?A1 ?A2 ?A3 ?A4 ?A5 ?A6 ?A7 ?a8 ?l8 ?t8 ?e8 ?k8 ?A9 ?A10 ?A11 ?A12 ?A13 ?A14 ?A15 ?A16 ?A17 ?A18 ?A19 ?A20 ?A21 ?A22 ?A23 ?A24 ?A25 ?a26 ?l26 ?t26 ?e26 ?k26 ?A27 ?A28 ?A29 ?A30 ?A31 ?A32 ?A33 ?A34 ?A35 ?A36 ?A37 ?A38 ?A39 ?A40 ?A41 ?A42 ?A43 ?A44 ?A45 ?A46 ?A47 ?A48 ?A49 ?A50 ?A51 ?A52 ?A53 ?A54 ?a55 ?l55 ?e55 ?k55 ?A56 ?A57 ?A58 ?A59 ?A60 ?A61 ?A62 ?A63 ?A64 ?A65 ?A66 ?A67 ?A68 ?A69 ?A70 ?A71 ?A72 ?A73 ?A74 ?A75 ?A76 ?A77 ?A78 ?A79 ?A80 ?A81 ?A82 ?A83 ?A84 ?A85 ?x_UN ?x_FG ?x_KP ?l_KP ?x_NN ?l_NN ?x_PROPERTIES ?l_PROPERTIES ?hPt ?hC ?n_isinstance ?n_len ?n_range ?n_sorted ?n_int ?n_bool ?n_list ?n_tuple ?n_str ?n_set ?n_enumerate ?n_all ?n_ValueError ?n_any ?n_min ?n_max ?n_sum ?n_zip ?n_dict ?i_ELDER ?i_KIND ?i_STUFF ?i_SORT ?i_THING ?i_TONE ?i_HIGH ?i_BLANK ?i_WIDE_faces ?i_ODD ?i_UNIT_WIDE ?i_UNIT_BLANK ?i_UNIT_HIGH ?i_UNIT_NOTES ?i_FIGURES_HELD ?i_LOW ?i_GREAT ?i_COUNT ?i_BY ?i_ROWS ?i_SUMS ?i_TOO_LONG ?i_ROW ?i_COLUMN ?i_SPAN ?i_DEEP ?i_LEFT ?i_WIDE_spans ?i_SIZE_HIGH
  (case A1 | A2 | A3 | A4 | A5 | A6 | A7=>trivial)
  (case a8 | l8 | t8 | e8 | k8=>k_is)
  (case A9 | A10 | A11 | A12 | A13 | A14 | A15 | A16 | A17 | A18 | A19 | A20 | A21 | A22 | A23 | A24 | A25=>trivial)
  (case a26 | l26 | t26 | e26 | k26=>k_is)
  (case A27 | A28 | A29 | A30 | A31 | A32 | A33 | A34 | A35 | A36 | A37 | A38 | A39 | A40 | A41 | A42 | A43 | A44 | A45 | A46 | A47 | A48 | A49 | A50 | A51 | A52 | A53 | A54=>trivial)
  (case a55 | l55 | e55 | k55=>k_is)
  (case A56 | A57 | A58 | A59 | A60 | A61 | A62 | A63 | A64 | A65 | A66 | A67 | A68 | A69 | A70 | A71 | A72 | A73 | A74 | A75 | A76 | A77 | A78 | A79 | A80 | A81 | A82 | A83 | A84 | A85=>trivial)
  (case x_UN | x_FG | x_KP | l_KP | x_NN | l_NN | x_PROPERTIES | l_PROPERTIES=>k_is)
  (case hPt=>decide)
  (case hC=>first | k_is | kernel_rfl)
  (case n_isinstance | n_len | n_range | n_sorted | n_int | n_bool | n_list | n_tuple | n_str | n_set | n_enumerate | n_all | n_ValueError | n_any | n_min | n_max | n_sum | n_zip | n_dict | i_ELDER | i_KIND | i_STUFF | i_SORT | i_THING | i_TONE | i_HIGH | i_BLANK | i_WIDE_faces | i_ODD | i_UNIT_WIDE | i_UNIT_BLANK | i_UNIT_HIGH | i_UNIT_NOTES | i_FIGURES_HELD | i_LOW | i_GREAT | i_COUNT | i_BY | i_ROWS | i_SUMS | i_TOO_LONG | i_ROW | i_COLUMN | i_SPAN | i_DEEP | i_LEFT | i_WIDE_spans | i_SIZE_HIGH=>k_is)
