import PyProof.Rows.All
import Wide.All
import OpenK.AllK
import Wide.FinOn
import Lean
import PyProof.EqAt
import PyProof.EqKinds
import PyProof.TupleCall
import KE.KEqDat
import PyProof.CompMap
import PyProof.WalksEnum
import PyProof.EnumMake
import PyProof.Draws
import PyProof.Rows.SetFrom
import PyProof.SetKind
import PyProof.WalksS
import PyProof.CollectWalk
import PyProof.FactsAll.set_1
import PyProof.DictIter
import PyProof.TupleIter
import PyProof.FactsAll.set_2
import PyProof.Rows.SortStr
import PyProof.StrBlockH
import PyProof.Rows.StrClose
import PyProof.FitsInt
import PyProof.Rows.FStr
import PyProof.StrOps2
import PyProof.StrCalls2
import PyProof.Rows.StrJoin2
import PyProof.StrLaws
import PyProof.StrLoop
import PyProof.StrWalks
import PyProof.StrLawsIn
import PyProof.ListRange
import PyProof.ZipIter
import PyProof.SeqI3
import PyProof.WalkInts
import PyProof.Rows.CallKwBuiltin
import PyProof.FactsAll.tuple_2
import PyProof.FactsAll.tuple_3
import PyProof.TupleKey
import PyProof.FactsAll.tuple_0
import PyProof.Rows.Range3
import PyProof.SumAny
import PyProof.DictRoads
import PyProof.DictList
import KE.KDictOf
import PyProof.AttrMissHeap
import PyProof.MeetsDict
import PyProof.FactsAll.dict_3
import KE.KUnpack
import KE.KRevIter
import PyProof.Rows.SortRuns
import PyProof.Rows.SortWalk
import KE.KSortTup
import KE.IntBitsLaws
import PyProof.StrLawsChain
import PyProof.Conv_int
import PyProof.FactsAll.str
import PyProof.StrLawsNeg
import PyProof.NeKinds
import KE.KMinKey
import KE.KLam
import KE.KNestM
import KE.KSortKey
import PyProof.TupleOfSeq
import PySem.Challenge.RW_leafpress_k32_insides
set_option Elab.async false
set_option linter.all false
set_option maxRecDepth 100000
set_option maxHeartbeats 4000000
set_option compiler.extract_closed false
set_option genSizeOf false
noncomputable section
local macro_rules | `(tactic| ac_rfl) => `(tactic| decide +kernel)
open PySem PySem.Spec
local macro_rules | `(tactic| omega) => `(tactic| first | with_reducible assumption | lia)
local macro_rules | `(tactic| trivial) => `(tactic| first | exact Or.inl (by rfl) | exact Or.inr (by rfl))
local macro_rules|`(tactic|let $p:term:=$e)=>do
 let w:Lean.Syntax->Lean.Syntax:=λx=>Lean.mkNode ``Lean.Parser.Tactic.rcasesPatLo #[Lean.mkNode ``Lean.Parser.Tactic.rcasesPatMed #[Lean.mkNullNode #[x]],Lean.mkNullNode]
 let q:=Id.run (p.raw.replaceM λs=>pure (if s.isIdent then some (w (Lean.mkNode ``Lean.Parser.Tactic.rcasesPat.one #[s])) else if s.isOfKind ``Lean.Parser.Term.hole then some (w (Lean.mkNode ``Lean.Parser.Tactic.rcasesPat.ignore #[s[0]])) else none))
 let q:=q.rewriteBottomUp λs=>if s.isOfKind ``Lean.Parser.Term.anonymousCtor then w (s.setKind ``Lean.Parser.Tactic.rcasesPat.tuple) else s
 let r:Lean.TSyntax ``Lean.Parser.Tactic.rcasesPatLo:=⟨q⟩
 `(tactic|rcases $e:term with $r)
local macro_rules|`(‹$h›)=>`(by simpa using $h)
local macro_rules|`(s!$x)=>`(PySem.Str.ofString $(Lean.quote (x.raw[0].isInterpolatedStrLit?.getD "")))
local macro_rules|`(()) => `(by omega)
local macro_rules|`(tactic|show $e) => `(tactic|refine $e)
local macro_rules|`(tactic|ext $p*) => `(tactic|rintro $p*)
local macro_rules|`(∅) => `(by simp)
local macro_rules(kind:=Lean.Parser.Term.structInst)|`(Lean.Parser.Term.structInst|{}) => `(by decide)
local macro_rules|`(~~~$s) => `(($s).heap.objs.size)
local macro_rules|`(!$a) => `(some $a)
abbrev qA:=@List.length_map
abbrev qB:=@List.getElem?_eq_getElem
abbrev qC:=@PySem.wpAny_bind
abbrev qD:=@List.map_append
abbrev qE:=@PySem.Heap.get?_push_of_some
abbrev qF:=@Nat.le_refl
abbrev qG:=@List.length_append
abbrev qH:=@List.take_of_length_le
abbrev qI:=@List.getElem?_eq_some_iff
abbrev qJ:=@decide_eq_true
abbrev qK:=@List.getElem?_map
abbrev qL:=@PySem.Heap.lt_size
abbrev qM:=@PySem.wpAny_pure
abbrev qN:=@PySem.Paired.length
abbrev qO:=@List.mem_cons
abbrev qP:=@decide_eq_false
abbrev qQ:=@List.length_take
abbrev qR:=@List.mem_of_getElem?
abbrev qS:=@List.take_succ
abbrev qT:=@PySem.Heap.get?_push_size
abbrev qU:=@List.mem_cons_of_mem
abbrev qV:=@Nat.min_le_left
abbrev qW:=@List.mem_map
abbrev qX:=@List.getD_eq_getElem?_getD
abbrev qY:=@List.size_toArray
abbrev qZ:=@Bool.false_ne_true
abbrev rA:=@Nat.ne_of_lt
abbrev rB:=@List.mem_cons_self
abbrev rC:=@List.length_cons
abbrev rD:=@Option.some.inj
abbrev rE:=@Nat.lt_of_lt_of_le
abbrev rF:=@Nat.le_trans
abbrev rG:=@List.mem_append
abbrev rH:=@of_decide_eq_true
abbrev rJ:=@List.getElem?_append_right
abbrev rK:=@List.eq_nil_of_length_eq_zero
abbrev rL:=@List.getElem_mem
abbrev rM:=@PySem.Heap.size_push
abbrev rN:=@List.getElem?_cons_succ
abbrev rO:=@List.mem_append_right
abbrev rP:=@Nat.lt_irrefl
abbrev rQ:=@List.append_nil
abbrev rR:=@List.length_filter_le
abbrev rS:=@Nat.zero_le
abbrev rT:=@List.filter_append
abbrev rV:=@List.getElem?_range
abbrev rW:=@List.getElem?_append_left
abbrev rX:=@Nat.lt_succ_self
abbrev rY:=@List.length_replicate
abbrev rZ:=@List.append_assoc
abbrev xA:=@Nat.le_of_lt
abbrev xB:=@PySem.wpAny_mono
abbrev xC:=@congrArg
abbrev xD:=@PySem.Around.under_plainId
abbrev xE:=@List.foldl_cons
abbrev xF:=@List.mem_range
abbrev xG:=@List.getElem?_eq_none
abbrev xH:=@List.map_map
abbrev xI:=@Array.length_toList
abbrev xJ:=@PySem.wpAny_pyIter_list
abbrev xK:=@PyProof.Rows.callWith_type1
abbrev xL:=@List.mem_filter
abbrev xM:=@PySem.codeAny_builtin
abbrev xN:=@PySem.F.plainAttrs_list
abbrev xO:=@List.map_cons
abbrev xP:=@Nat.lt_succ_of_lt
abbrev xQ:=@PySem.wpAny_holding
abbrev xS:=@PySem.Heap.get?_update_other
abbrev xT:=@PySem.Heap.get?_update_self
abbrev xU:=@PySem.W.mg_none_of
abbrev xV:=@Nat.ne_of_gt
abbrev xW:=@PySem.wpAny_setState_of
abbrev xX:=@PySem.wpAny_truthy_bool
abbrev xY:=@PySem.wpAny_seqItems
abbrev xZ:=@PySem.W.kia_one
abbrev x8:=@List.take_length
abbrev yA:=@PySem.plainId_quiet
abbrev yB:=@Nat.lt_of_le_of_lt
abbrev yC:=@List.mem_of_mem_take
abbrev yD:=@Nat.le_succ
abbrev yE:=@PySem.wpAny_askSetting
abbrev yF:=@Int.toNat_natCast
abbrev yG:=@Nat.le_succ_of_le
abbrev yH:=@PySem.wpAny_newObj_type
abbrev yI:=@Bool.eq_iff_iff
abbrev yJ:=@List.length_singleton
abbrev yK:=@Bool.and_eq_true
abbrev yL:=@List.mem_filterMap
abbrev yM:=@Nat.le_of_not_lt
abbrev yN:=@PySem.wpAny_setField
abbrev yO:=@Nat.not_lt_zero
abbrev yP:=@List.filterMap_cons
abbrev yQ:=@List.mem_map_of_mem
abbrev yR:=@PyProof.Rows.F.plain_set_update_loop
abbrev yS:=@List.lookup_cons
abbrev yT:=@PySem.wpAny_call_entry
abbrev yU:=@PySem.wpAny_Call_Name_kw
abbrev yV:=@List.nodup_cons
abbrev yW:=@Nat.min_eq_left
abbrev yX:=@PySem.wpAny_passesOwn
abbrev yY:=@PySem.codeAny_mono
abbrev yZ:=@PySem.mem_of_lookup
abbrev y9:=@List.all_eq_true
abbrev uA:=@Nat.succ_ne_zero
abbrev uB:=@Int.emod_lt_of_pos
abbrev uC:=@Int.zero_add
abbrev uD:=@List.range_succ
abbrev uE:=@PySem.wpAny_updateSeq
abbrev uF:=@Array.getElem?_toList
abbrev uG:=@List.mem_append_left
abbrev uH:=@List.any_eq_true
abbrev uI:=@List.length_drop
abbrev uJ:=@Array.getElem?_eq_getElem
abbrev uK:=@List.any_cons
abbrev uL:=@Nat.lt_succ_iff_lt_or_eq
abbrev uM:=@Int.emod_nonneg
abbrev uN:=@List.length_set
abbrev uO:=@PySem.PassesOwn.never
abbrev uP:=@List.length_eq_zero_iff
abbrev uQ:=@Array.getElem?_eq_none
abbrev uR:=@List.ext_getElem?
abbrev uS:=@List.nodup_append
abbrev uT:=@List.cons_append
abbrev uU:=@Nat.succ_le_succ
abbrev uV:=@List.map_take
abbrev uW:=@List.mem_of_mem_drop
abbrev uX:=@Option.map_some
abbrev uY:=@PySem.wpAny_execs_nil
abbrev uZ:=@List.Perm.refl
abbrev u6:=@List.nodup_nil
abbrev u7:=@PySem.call_meets
abbrev u8:=@List.cons.inj
abbrev u9:=@List.eq_of_mem_replicate
abbrev vA:=@PySem.F.slot_list_append
abbrev vB:=@PySem.F.slot_list_extend
abbrev vC:=@PySem.F.type_list_append
abbrev vD:=@PySem.F.type_list_extend
abbrev vE:=@PySem.wpAny_standAt
abbrev vF:=@List.filter_cons
abbrev vG:=@PySem.wpAny_isInstance
abbrev vH:=@Nat.lt_trans
abbrev vI:=@List.nil_append
abbrev vJ:=@List.of_mem_zip
abbrev vK:=@PySem.wpAny_ite_split
abbrev vL:=@List.take_append_drop
abbrev vM:=@PySem.isSubtype_type
abbrev vN:=@List.map_drop
abbrev vO:=@List.map_nil
abbrev vP:=@List.not_lt
theorem O.{u}{α:Sort u}{a:α}:a=a:=rfl
section
open PySem PySem.Spec
abbrev TB:=List (List Int)
abbrev TC:=List (Int×Int)
abbrev TF:=List (Addr×Obj)
abbrev TH:=Value->Shared->Prop
abbrev TJ:=Str->Option Value
abbrev TK:=List (Str×Str)
abbrev TL:=List (List Nat)
abbrev TM:=List Nat
abbrev TN:=List Int
abbrev TQ:=List Addr
abbrev TU:=List Value
abbrev TV:=List Str
abbrev TW:=List Expr
end
namespace L2
open PyProof.Rows
abbrev aQ:=Sum Int Str
def lq:aQ->Value->Bool
 | .inl k,v=>Value.isInt k v
 | .inr x,v=>Value.isStrOf x v
def R'(w:World):aQ->Int
 | .inl k=>hashInt k
 | .inr x=>hashStr w x
theorem iP:∀{k:aQ} {v:Value},lq k v=true->(∃i t,k=Sum.inl i/\v=Value.int i t)\/(∃x t,k=Sum.inr x/\v=Value.str x t)
 | .inl i, v, h => by
   let⟨t,e⟩:=Value.isInt_shape (k:=i) (v:=v) h
   show .inl ⟨i,t,O,e⟩
 | .inr x, v, h => by
   let⟨t,e⟩:=Value.isStrOf_shape (x:=x) (v:=v) h
   show .inr ⟨x,t,O,e⟩
def Se(i:Int)(t:Tok):lq (.inl i) (.int i t)=true:=by simp[lq,Value.isInt]
def Sf(x:Str)(t:Tok):lq (.inr x) (.str x t)=true:=by simp[lq,Value.isStrOf]
def Sg(a b:Int):decide ((Sum.inl a:aQ)=Sum.inl b)=(a == b):=by
 by_cases e:a=b
 .subst e;simp
 .have h:¬(Sum.inl a:aQ)=Sum.inl b:=λq=>e (Sum.inl.inj q)
  rw[qP h];show(beq_eq_false_iff_ne.mpr e).symm
def Si(a b:Str):decide ((Sum.inr a:aQ)=Sum.inr b)=decide (a=b):=by
 by_cases e:a=b
 .subst e;simp
 .have h:¬(Sum.inr a:aQ)=Sum.inr b:=λq=>e (Sum.inr.inj q)
  rw[qP h,qP e]
def Sj(a:Int)(b:Str):decide ((Sum.inl a:aQ)=Sum.inr b)=false:=qP (λq=>nomatch q)
def Sk(a:Str)(b:Int):decide ((Sum.inr a:aQ)=Sum.inl b)=false:=qP (λq=>nomatch q)
def eB(prog:Program)(w:World):KeyKind prog w aQ where
 is:=lq
 hash:=R' w
 inj:=λv a b ha hb=>by
  rcases iP ha with⟨i,t,rfl,rfl⟩ | ⟨x,t,rfl,rfl⟩
  .rcases iP hb with⟨j,u,rfl,e⟩ | ⟨y,u,rfl,e⟩
   .injection e with e1 _;rw[e1]
   .show nomatch e
  .rcases iP hb with⟨j,u,rfl,e⟩ | ⟨y,u,rfl,e⟩
   .show nomatch e
   .injection e with e1 _;rw[e1]
 byValue:=λk v h=>by
  rcases iP h with⟨i,t,rfl,rfl⟩ | ⟨x,t,rfl,rfl⟩<;>rfl
 pyHash:=λhv h=>by
  rcases iP hv with⟨i,t,rfl,rfl⟩ | ⟨x,t,rfl,rfl⟩
  .show wpAny_pyHash_int h
  .show wpAny_pyHash_str h
 eqBool:=λhu hv h=>by
  rcases iP hu with⟨i,t,rfl,rfl⟩ | ⟨x,t,rfl,rfl⟩
  .rcases iP hv with⟨j,u,rfl,rfl⟩ | ⟨y,u,rfl,rfl⟩
   .rw[Sg]at h;show wpAny_eqBool_int h
   .rw[Sj]at h;show SeqAt.EqAt.int_str i t y u _ _ _ _ h
  .rcases iP hv with⟨j,u,rfl,rfl⟩ | ⟨y,u,rfl,rfl⟩
   .rw[Sk]at h;show SeqAt.EqAt.str_int x t j u _ _ _ _ h
   .rw[Si]at h;show wpAny_eqBool_str h
 «strs»:=λk x t v h=>by
  rcases iP h with⟨i,u,rfl,e⟩ | ⟨y,u,rfl,e⟩
  .show nomatch e
  .injection e with e1 _
   subst e1;cases v<;>rfl
def Sl(prog:Program)(w:World)(i:Int)(t:Tok):(eB prog w).is (.inl i) (.int i t)=true:=Se i t
def IM(prog:Program)(w:World)(x:Str)(t:Tok):(eB prog w).is (.inr x) (.str x t)=true:=Sf x t
inductive V where
 | non | bl (b:Bool) | int (i:Int) | str (x:Str) | byt (b:Array UInt8) | flt (b:UInt64) | ref (a:Addr) | ty (n:String)
 deriving DecidableEq
def RelV:V->Value->Prop
 | .non,u=>u=Value.none
 | .bl b,u=>u=Value.bool b
 | .int i,u=>∃t,u=Value.int i t
 | .str x,u=>∃t,u=Value.str x t
 | .byt b,u=>∃t,u=Value.bytes b t
 | .flt b,u=>∃t,u=Value.float b t
 | .ref a,u=>u=Value.ref a
 | .ty n,u=>u=Value.type n
abbrev Vals:List V->List Value->Prop:=Paired RelV
def Vals.length(r:Vals xs us):xs.length=us.length:=qN r
theorem Vals.get:∀{xs:List V} {us:TU} {i:Nat} {x:V},Vals xs us->xs[i]?=!x->∃u,us[i]?=!u/\RelV x u
 | _,_,_,_,.nil,e=>by simp at e
 | _,_,0,_,.cons r _,e=>by simp at e;subst e;show⟨_,O,r⟩
 | _, _, i + 1, x, .cons _ t, e => by
   let⟨u,h1,h2⟩:=Vals.get (i:=i) (x:=x) t ‹e›
   show⟨u,‹h1›,h2⟩
def Vals.set(r:RelV x u):∀{xs:List V} {us:TU} (i:Nat),Vals xs us->Vals (xs.set i x) (us.set i u)
 | _,_,_,.nil=>.nil
 | _,_,0,.cons _ t=>.cons r t
 | _,_,i+1,.cons q t=>.cons q (Vals.set r i t)
def Vals.append:∀{xs ys:List V} {us ws:TU},Vals xs us->Vals ys ws->Vals (xs++ys) (us++ws)
 | _,_,_,_,.nil,s=>s
 | _,_,_,_,.cons r t,s=>.cons r (Vals.append t s)
def Vals.take:∀{xs:List V} {us:TU} (n:Nat),Vals xs us->Vals (xs.take n) (us.take n)
 | _,_,0,_=>.nil
 | _,_,_+1,.nil=>.nil
 | _,_,n+1,.cons r t=>.cons r (Vals.take n t)
def Vals.drop:∀{xs:List V} {us:TU} (n:Nat),Vals xs us->Vals (xs.drop n) (us.drop n)
 | _,_,0,r=>r
 | _,_,_+1,.nil=>.nil
 | _,_,n+1,.cons _ t=>Vals.drop n t
def RelO:Option V->Option Value->Prop
 | some v,!u=>RelV v u
 | none,none=>True
 | _,_=>False
def KV{κ:Type}:List (κ×V)->List (κ×Value)->Prop:=Paired λ(p:κ×V) (q:κ×Value)=>p.1=q.1/\RelV p.2 q.2
def kV:aQ->V
 | .inl i=>.int i
 | .inr x=>.str x
inductive HO where
 | lst (xs:List V)
 | tup (xs:List V)
 | dK (ah:List (aQ×V)) | dT (ah:List (List aQ×V))
 | set (S:Int->Bool) (n:Nat)
 | ins (C dx:Addr) (fs:List (Str×V))
 | own (x:Addr)
 | xd (fs:List (Str×V))
 | met (f x:Addr)
 | rng (lo hi:Int)
 | frz (o:Obj) (u:HO)
 | tbl (ps:Array Value)
 | ext (φ:Heap->Prop)
abbrev Hp:=Addr->Option HO
def af(H:Hp)(a:Addr)(o:HO):Hp:=λb=>if b=a then !o else H b
def aj:af H a o a=!o:=by unfold af;rw[if_pos O]
def aE(h:b≠a):af H a o b=H b:=by unfold af;rw[if_neg h]
def IN{H:Hp}{a b:Addr}{o u:HO}(h:H a=!o)(h':H b=!u)(d:o≠u):a≠b:=by
 intro e;subst e;rw[h]at h';show d (rD h')
def cH{H:Hp}{a b:Addr}{o:HO}(h:H a=!o)(h':H b=none):a≠b:=by
 intro e;subst e;rw[h]at h';cases h'
section
variable(P:Program)(w:World)
def ObjOk(H:Hp)(h:Heap)(a:Addr):HO->Prop
 | .lst xs=>xs.length<=sizeLine/\∃(ag:TU) (n:Nat),Vals xs ag/\h.get? a=!{cls:=.type "list",data:=.seq ag.toArray n}
 | .tup xs=>xs.length<=sizeLine/\∃ag:TU,Vals xs ag/\IsTup h a ag.toArray
 | .dK ah=>ah.length<=sizeLine/\(a == sysModules)=false/\∃vs,KV ah vs/\h.DictOf (eB P w) a vs
 | .dT ah=>ah.length<=sizeLine/\(a == sysModules)=false/\∃xs:List (List aQ×Addr×Value),
   Paired (λ(p:List aQ×V) (q:List aQ×Addr×Value)=>p.1=q.1/\H q.2.1=!.tup (p.1.map kV)/\RelV p.2 q.2.2) ah xs /\
   ∃o es ep,h.get? a=!o/\o.ExactDict/\o.data=.dict es ep/\es.toList=xs.map (entryOfKey (tupleKind (eB P w)))/\(xs.map (·.1)).Nodup
 | .set S n=>h.SetOf (intKind P w) a S n
 | .ins C dx fs=>H dx=!.own a/\fs.length<=1000/\dx≠a/\h.get? a=!W.instObj C dx /\
   ∃mA,h.Ns1 dx mA/\(∀f,RelO (fs.lookup f) (mA f))/\Within mA (fs.map (·.1))
 | .own _=>∃o,h.get? a=!o
 | .xd fs=>∃mA,h.Ns1 a mA/\∀f,RelO (fs.lookup f) (mA f)
 | .rng lo hi=>∃t u v,h.get? a=!{cls:=.type "range",data:=.fields #[.int lo t,.int hi u,.int 1 v]}
 | .frz o u=>h.get? a=!o/\ObjOk H h a u
 | .tbl ps=>h.get? a=!{cls:=.none,data:=.fields ps}
 | .met f x=>h.get? a=!W.methodObj (.ref f) (.ref x)
 | .ext φ=>φ h/\(∃o,h.get? a=!o)/\∀h1 h2:Heap,φ h1->(∀o,h1.get? a=!o->h2.get? a=!o)->φ h2
def HOk(H:Hp)(h:Heap):=∀a o,H a=!o->ObjOk P w H h a o
end
section
variable{P:Program}{w:World}{H H':Hp}{h h':Heap}{a:Addr}{o:HO}
def ObjOk.lt(x:ObjOk P w H h a o):a<h.objs.size:=by
 cases o with
 | lst xs=>let⟨_,_,_,_,e⟩:=x;show qL e
 | tup xs=>let⟨_,_,_,p⟩:=x;show p.lt
 | dK ah=>let⟨_,_,_,_,o,_,_,e,_⟩:=x;show qL e
 | dT ah=>let⟨_,_,_,_,o,_,_,e,_⟩:=x;show qL e
 | set S n=>let⟨o,_,_,_,e,_⟩:=x;show qL e
 | ins C dx fs=>let⟨_,_,_,e,_⟩:=x;show qL e
 | own y=>let⟨_,e⟩:=x;show qL e
 | xd fs=>let⟨_,⟨_,_,_,e,_⟩,_⟩:=x;show qL e
 | rng lo hi=>let⟨_,_,_,e⟩:=x;show qL e
 | frz ob u=>let⟨e,_⟩:=x;show qL e
 | tbl ps=>show qL (show h.get? a=!_ from x)
 | met f y=>show qL (show h.get? a=!_ from x)
 | ext φ=>let⟨_,⟨_,e⟩,_⟩:=x;show qL e
def Paired.mapP{α β:Type}{F G:α->β->Prop}:∀{IP:List α} {IQ:List β},Paired F IP IQ->(∀a b,F a b->G a b)->Paired G IP IQ
 | _,_,.nil,_=>.nil
 | _,_,.cons r t,f=>.cons (f _ _ r) (Paired.mapP t f)
theorem ObjOk.stay(x:ObjOk P w H h a o)(k:∀b u,(b=a\/H b=!.own a)->h.get? b=!u->h'.get? b=!u)(ho:∀b,H b=!.own a->H' b=!.own a)(ht:∀b xs,H b=!.tup xs->H' b=!.tup xs):ObjOk P w H' h' a o:=by
 induction o with
 | lst xs=>let⟨z,ag,n,r,e⟩:=x;show⟨z,ag,n,r,k _ _ (.inl O) e⟩
 | tup xs=>let⟨z,ag,r,ob,e,c⟩:=x;show⟨z,ag,r,ob,k _ _ (.inl O) e,c⟩
 | dK ah=>let⟨z,y,vs,r,ob,es,ep,e,c⟩:=x;show⟨z,y,vs,r,ob,es,ep,k _ _ (.inl O) e,c⟩
 | dT ah =>
   let⟨z,y,xs,r,ob,es,ep,e,c⟩:=x
   show⟨z,y,xs,Paired.mapP r λp q z=>⟨z.1,ht _ _ z.2.1,z.2.2⟩,ob,es,ep,k _ _ (.inl O) e,c⟩
 | set S n=>let⟨ob,es,ep,t,e,c⟩:=x;show⟨ob,es,ep,t,k _ _ (.inl O) e,c⟩
 | ins C dx fs =>
   let⟨d,z,ne,e,mA,⟨od,es,ep,e2,c⟩,r⟩:=x
   show⟨ho _ d,z,ne,k _ _ (.inl O) e,mA,⟨od,es,ep,k _ _ (.inr d) e2,c⟩,r⟩
 | own y=>let⟨ob,e⟩:=x;show⟨ob,k _ _ (.inl O) e⟩
 | xd fs=>let⟨mA,⟨od,es,ep,e,c⟩,r⟩:=x;show⟨mA,⟨od,es,ep,k _ _ (.inl O) e,c⟩,r⟩
 | rng lo hi=>let⟨t,u,v,e⟩:=x;show⟨t,u,v,k _ _ (.inl O) e⟩
 | frz ob u ih=>let⟨e,q⟩:=x;show⟨k _ _ (.inl O) e,ih q⟩
 | tbl ps =>
   have e:h.get? a=!{cls:=.none,data:=.fields ps}:=x
   show h'.get? a=!{cls:=.none,data:=.fields ps}
   show k a _ (.inl O) e
 | met f y =>
   have e:h.get? a=!W.methodObj (.ref f) (.ref y):=x
   show h'.get? a=!W.methodObj (.ref f) (.ref y)
   show k a _ (.inl O) e
 | ext φ=>let⟨p,⟨o,e⟩,st⟩:=x;show⟨st _ _ p λo q=>k _ _ (.inl O) q,⟨o,k _ _ (.inl O) e⟩,st⟩
def HOk.lt(x:HOk P w H h)(e:H a=!o):a<h.objs.size:=(x a o e).lt
def HOk.fresh(x:HOk P w H h)(e:h.objs.size<=a):H a=none:=by
 cases q:H a with
 | none=>rfl
 | some u=>show absurd (rE (x.lt q) e) (rP _)
def HOk.kept(x:HOk P w H h)(k:∀b u,h.get? b=!u->h'.get? b=!u):HOk P w H h':=λa o e =>
 (x a o e).stay (λb u _ q=>k b u q) (λ_ q=>q) λ_ _ q=>q
def HOk.laid(x:HOk P w H h)(k:∀b u,h.get? b=!u->h'.get? b=!u)(hp:h.objs.size<=a)(new:ObjOk P w (af H a o) h' a o):HOk P w (af H a o) h':=λb u e=>by
 have hn:=x.fresh hp
 by_cases hb:b=a
 .subst hb;rw[aj]at e;cases e;show new
 .rw[aE hb]at e;show(x b u e).stay (λc v _ q=>k c v q) (λc q=>by rw[aE (cH q hn)];show q) λc xs q=>by rw[aE (cH q hn)];show q
end
def Rd(H:Hp)(a:Addr)(u:HO):=H a=!u\/∃o,H a=!.frz o u
def Rd.ok(r:Rd H a u)(x:HOk P w H h):ObjOk P w H h a u:=by
 rcases r with r | ⟨o,r⟩
 .show x a u r
 .let⟨_,q⟩:=x a _ r;show q
def re:Option HO->Prop
 | some (.lst _)=>True
 | some (.dK _)=>True
 | some (.dT _)=>True
 | some (.set _ _)=>True
 | some (.ins _ _ _)=>True
 | some (.ext _)=>True
 | _=>False
section
variable{P:Program}{w:World}{H:Hp}{h h':Heap}{x e:Addr}{o':HO}
theorem HOk.write(ok:HOk P w H h)(mu:re (H x))(he:e=x\/H e=!.own x)(k:∀b u,b≠e->h.get? b=!u->h'.get? b=!u)(oP:∃u,h'.get? e=!u)(new:ObjOk P w (af H x o') h' x o'):HOk P w (af H x o') h':=λb u q=>by
 have IR:∀c y,H c=!.own y->c≠x:=λc y r z=>by subst z;rw[r]at mu;show mu
 have Sm:∀c xs,H c=!.tup xs->c≠x:=λc xs r z=>by subst z;rw[r]at mu;show mu
 by_cases hb:b=x
 .subst hb;rw[aj]at q;cases q;show new
 .rw[aE hb]at q
  by_cases mR:b=e
  .have q':H b=!.own x:=by
    rcases he with z | z
    .show absurd (mR.trans z) hb
    .rw[mR];show z
   rw[q]at q';cases q';let⟨v,hv⟩:=oP;show⟨v,by rw[mR];show hv⟩
  .show(ok b u q).stay (λc v hc r=>k c v ?_ r) (λc r=>by rw[aE (IR c b r)];show r) λc xs r=>by rw[aE (Sm c xs r)];show r
   rcases hc with rfl | hc
   .show mR
   .ext rfl;rcases he with z | z
    .show IR c b hc z
    .rw[hc]at z;cases z;show hb O
end
structure Un(fs ex:TQ)(H H':Hp)(h h':Heap):Prop where
 keep:∀b o,h.get? b=!o->H b=none->b∉fs->b∉ex->h'.get? b=!o
 slot:∀b o,h.get? b=!o->H b=none->b∈fs->b∉ex->∃sl,h'.get? b=!{o with slots:=sl}
 free:∀b o,h.get? b=!o->H b=none->b∉ex->H' b=none
 there:∀b o,h.get? b=!o->b∉ex->∃o',h'.get? b=!o'
 tups:∀b xs,H b=!.tup xs->H' b=!.tup xs
 frzs:∀b o u,H b=!.frz o u->H' b=!.frz o u
 tbls:∀b ps,H b=!.tbl ps->∃more,H' b=!.tbl (ps++more)
section
variable{fs Sn ex IS:TQ}{H H1 H2:Hp}{h h1 h2 h':Heap}{a x e:Addr}{o:HO}
def Un.any(u:Un fs ex H H1 h h1)(q:h.get? b=!ob)(n:H b=none)(hx:b∉ex):∃sl,h1.get? b=!{ob with slots:=sl}:=by
 by_cases hb:b∈fs
 .show u.slot b ob q n hb hx
 .show⟨ob.slots,u.keep b ob q n hb hx⟩
def Un.trans(a:Un fs ex H H1 h h1)(b:Un fs ex H1 H2 h1 h2):Un fs ex H H2 h h2 where
 keep:=λc ob q n hc hx=>b.keep c ob (a.keep c ob q n hc hx) (a.free c ob q n hx) hc hx
 slot:=λc ob q n hc hx=>by
  let⟨sl,e1⟩:=a.slot c ob q n hc hx;let⟨C0,e2⟩:=b.slot c _ e1 (a.free c ob q n hx) hc hx;show⟨C0,e2⟩
 free:=λc ob q n hx=>by
  let⟨o',e1⟩:=a.there c ob q hx;show b.free c o' e1 (a.free c ob q n hx) hx
 there:=λc ob q hx=>by
  let⟨o',e1⟩:=a.there c ob q hx;show b.there c o' e1 hx
 tups:=λc xs q=>b.tups c xs (a.tups c xs q)
 frzs:=λc ob xs q=>b.frzs c ob xs (a.frzs c ob xs q)
 tbls:=λc ps q=>by
  let⟨m1,e1⟩:=a.tbls c ps q;let⟨m2,e2⟩:=b.tbls c _ e1;show⟨m1++m2,by rw[e2,Array.append_assoc]⟩
def Un.kept(k:∀b u,h.get? b=!u->h'.get? b=!u):Un fs ex H H h h' :=
 ⟨λb ob q _ _ _=>k b ob q,λb ob q _ _ _=>⟨ob.slots,k b ob q⟩,λ_ _ _ n _=>n,λb ob q _=>⟨ob,k b ob q⟩,λ_ _ q=>q,λ_ _ _ q=>q,λ_ ps q=>⟨#[],by rw[q];simp⟩⟩
def Un.refl:Un fs ex H H h h:=Un.kept λ_ _ q=>q
def Un.laid(k:∀b u,h.get? b=!u->h'.get? b=!u)(hp:h.objs.size<=a)(hn:H a=none):Un fs ex H (af H a o) h h' where
 keep:=λb u q _ _ _=>k b u q
 slot:=λb u q _ _ _=>⟨u.slots,k b u q⟩
 free:=λb u q n _=>by rw[aE (rA (rE (qL q) hp))];show n
 there:=λb u q _=>⟨u,k b u q⟩
 tups:=λb xs q=>by rw[aE (cH q hn)];show q
 frzs:=λb u xs q=>by rw[aE (cH q hn)];show q
 tbls:=λb ps q=>⟨#[],by rw[aE (cH q hn),q];simp⟩
def Un.write(mu:re (H x))(he:e=x\/H e=!.own x)(k:∀b u,b≠e->h.get? b=!u->h'.get? b=!u)(oP:∃u,h'.get? e=!u):Un fs ex H (af H x o) h h':=by
 have hx:∀b,H b=none->b≠x:=λb n z=>by subst z;rw[n]at mu;show mu
 have hb:∀b,H b=none->b≠e:=λb n z=>by
  subst z;rcases he with r | r
  .show hx b n r
  .rw[n]at r;cases r
 have hm:∀b u,H b=!u->¬re (!u)->b≠x:=λb u q nm z=>by subst z;rw[q]at mu;show nm mu
 show⟨λb u q n _ _=>k b u (hb b n) q,λb u q n _ _=>⟨u.slots,k b u (hb b n) q⟩,λb u q n _=>by rw[aE (hx b n)];show n,λb u q _=>?_,
  λb xs q=>by rw[aE (hm b _ q λz=>z)];show q,λb u xs q=>by rw[aE (hm b _ q λz=>z)];show q,λb ps q=>⟨#[],by rw[aE (hm b _ q λz=>z),q];simp⟩⟩
 by_cases mR:b=e
 .subst mR;show oP
 .show⟨u,k b u mR q⟩
end
def Aa(h:Heap)(H:Hp):TQ:=(List.range h.objs.size).filter λa=>(H a).isSome
def jj(h:Heap)(H:Hp):Heap:=W.hideAll h (Aa h H)
def Sq(h:Heap)(H:Hp):(jj h H).objs.size=h.objs.size:=W.hideAll_size _ _
def Sr(e:h.get? b=!o)(n:H b=none):(jj h H).get? b=!o :=
 W.hideAll_get _ e λhm=>by
  have q:(H b).isSome=true:=(xL.mp hm).2;rw[n]at q;simp at q
theorem Ss(e:(jj h H).get? b=!o):h.get? b=!o/\H b=none:=by
 have e':h.get? b=!o:=W.of_hideAll (Aa h H) e;show⟨e',?_⟩;cases q:H b with
 | none=>rfl
 | some x =>
   have hm:b∈Aa h H:=xL.mpr ⟨xF.mpr (qL e'),by simp[q]⟩
   have z:(jj h H).get? b=none:=W.hideAll_none (Aa h H) hm
   rw[z]at e;cases e
structure Mod(K:W.Frag)(mg:TJ)(base:Heap):Prop where
 kin:K.In base
 glob:base.Ns mainGlobals mg
 blt:∃mb,base.Ns builtinsNs mb/\∀x:Str,x ≠ "__name__" -> mb x=bootBuiltins x
 nolimit:base.NoLimit
structure Cx where
 prog:Program
 w:World
 K:W.Frag
 mg:Str->Option Value
 base:Heap
 A:Around
 N:TV
 s₀:Shared
 H₀:Hp
 env:Env
 outer:List Env
 stack:List Env
 ex:TQ
 fn:Str->Bool
 calm:Bool
 pn:TF
 xe:Value->Shared->Prop
def cS(l:List Env):TQ:=l.filterMap (·.frame)
abbrev Cx.fs(X:Cx):TQ:=cS X.outer
def oQ(sc:Scope)(x:Str):Prop:=sc.names.lookup x=!.local\/sc.names.lookup x=!.cell\/sc.names.lookup x=!.free
def Loc(sc:Scope)(x:Str):Prop:=sc.names.lookup x=!.local\/sc.names.lookup x=!.cell
def Look(env:Env)(h:Heap)(m:TJ)(x:Str)(u:Value):Prop :=
 (env.kindOf x=!.local/\m x=!u)\/((env.kindOf x=!.cell\/env.kindOf x=!.free)/\∃c,env.cells.lookup x=!c/\h.IsCell c (!u))
structure Cx.Ok(X:Cx):Prop where
 mod:Mod X.K X.mg X.base
 kind:X.env.scope.kind=.function
 glob:X.env.globals=mainGlobals
 blt:X.env.builtins=builtinsNs
 above: ~~~X.s₀<=X.env.locals
 inj:∀x y c,X.env.cells.lookup x=!c->X.env.cells.lookup y=!c->x=y
 has:∀x,(X.env.kindOf x=!.cell\/X.env.kindOf x=!.free)->∃c,X.env.cells.lookup x=!c
 cab:∀x c,X.fn x=true->X.env.cells.lookup x=!c-> ~~~X.s₀<=c
 hd:X.calm=true->X.A.handled=none
 frames:X.A.frames=!X.stack
 stk:X.stack=X.outer\/(X.stack=X.env::X.outer/\X.env.frame=!X.env.locals)
 exf:∀b∈X.ex,b≠X.env.locals/\∀x c,X.env.cells.lookup x=!c->c≠b
 bs:∀b o,X.base.get? b=!o->X.s₀.heap.get? b=!o/\X.H₀ b=none
 bsz:X.base.objs.size<= ~~~X.s₀
 noex:∀b o,X.base.get? b=!o->b∉X.ex
 exfs:∀b∈X.ex,b∉X.fs
 funs:X.s₀.heap.FunFrames X.base X.outer
 frf:∀b∈X.fs,X.H₀ b=none
structure Inv(X:Cx)(aa:TF)(σ:List (Option V))(H:Hp)(s:Shared):Prop where
 ok:X.Ok
 os:s.os=X.s₀.os
 bare:AllBare s.gens
 base:Un X.fs X.ex X.H₀ H X.s₀.heap s.heap
 loc:∃m,s.heap.Ns X.env.locals m/\∀(i:Nat) (x:Str) (v:V),X.N[i]?=!x->σ[i]?=!!v->oQ X.env.scope x->∃u,RelV v u/\Look X.env s.heap m x u
 cell:∀x c,X.env.cells.lookup x=!c->∃v,s.heap.IsCell c v
 free:H X.env.locals=none
 freeC:∀x c,X.env.cells.lookup x=!c->H c=none
 pin:∀p∈X.pn++aa,s.heap.get? p.1=!p.2/\H p.1=none/\p.1≠X.env.locals/\p.1∉X.fs/\∀v,p.2.data≠.cell v
 hok:HOk X.prog X.w H s.heap
 len:σ.length=X.N.length
section
variable{X:Cx}{aa:TF}{σ:List (Option V)}{H H':Hp}{s:Shared}{h':Heap}
def Cx.Ok.nofr(ok:X.Ok)(e:X.base.get? b=!o):b∉X.fs:=λhb=>by
 have:=(ok.funs.mem hb).1;rw[e]at this;cases this
def Inv.bs(I:Inv X aa σ H s):∀b o,X.base.get? b=!o->s.heap.get? b=!o/\H b=none:=λb o e =>
 ⟨I.base.keep b o (I.ok.bs b o e).1 (I.ok.bs b o e).2 (I.ok.nofr e) (I.ok.noex b o e),I.base.free b o (I.ok.bs b o e).1 (I.ok.bs b o e).2 (I.ok.noex b o e)⟩
def Inv.bk(I:Inv X aa σ H s):∀b o,X.base.get? b=!o->s.heap.get? b=!o:=λb o e=>(I.bs b o e).1
def Inv.mod(I:Inv X aa σ H s):Mod X.K X.mg X.base:=I.ok.mod
def Inv.kIn(I:Inv X aa σ H s):X.K.In s.heap:=I.ok.mod.kin.keeps I.bk
def Inv.lt(I:Inv X aa σ H s):X.env.locals< ~~~s:=let⟨_,hn,_⟩:=I.loc;hn.lt
def Inv.sz(I:Inv X aa σ H s): ~~~X.s₀<= ~~~s:=rF I.ok.above (xA I.lt)
def Inv.nofs(I:Inv X aa σ H s)(h: ~~~s<=a):a∉X.fs:=λhb=>by
 let⟨_,o,ho,_⟩:=I.ok.funs.mem hb;show absurd (rE (qL ho) (rF I.sz h)) (rP _)
def Inv.cne(I:Inv X aa σ H s):∀x c,X.env.cells.lookup x=!c->c≠X.env.locals:=λx c e z=>by
 let⟨v,o,ho,hd⟩:=I.cell x c e;let⟨m,⟨o',es,ep,jT,C1,_⟩,_⟩:=I.loc;rw[z,jT]at ho;cases ho;rw[C1]at hd;cases hd
theorem Inv.funs(I:Inv X aa σ H s):s.heap.FunFrames X.base X.outer:=by
 have all:∀(l:List Env),(∀b∈cS l,b∈X.fs)->X.s₀.heap.FunFrames X.base l->s.heap.FunFrames X.base l:=by
  intro l
  induction l with
  | nil=>intro _ _;trivial
  | cons env r ih =>
    intro hs hl
    let⟨hk,⟨L,o,hf,hn,ho,hd⟩,hr⟩:=hl
    have hL:L∈X.fs:=hs L (by unfold cS;rw[yP,hf];show rB)
    let⟨sl,e⟩:=I.base.slot L o ho (I.ok.frf L hL) hL λz=>I.ok.exfs L z hL
    show⟨hk,⟨L,_,hf,hn,e,hd⟩,ih (λb hb=>hs b (by unfold cS;rw[yP,hf];show qU _ hb)) hr⟩
 show all X.outer (λ_ hb=>hb) I.ok.funs
def Inv.stack(I:Inv X aa σ H s):s.heap.FunFrames X.base X.stack:=by
 rcases I.ok.stk with e | ⟨e,hf⟩
 .rw[e];show I.funs
 .rw[e];let⟨m,hn,_⟩:=I.loc;show .cons (by rw[I.ok.kind];decide) hf hn ?_ I.funs;show Heap.get?_none_of_le (rF I.ok.bsz I.ok.above)
def Inv.stkSub(I:Inv X aa σ H s):∀b∈cS X.stack,b∈X.env.locals::X.fs:=λb hb=>by
 rcases I.ok.stk with e | ⟨e,hf⟩
 .rw[e]at hb;show qU _ hb
 .rw[e]at hb;unfold cS at hb;rw[yP,hf]at hb;show hb
def Inv.stkFree(I:Inv X aa σ H s):∀b∈cS X.stack,H b=none:=λb hb=>by
 rcases qO.mp (I.stkSub b hb)with e | hb
 .rw[e];show I.free
 .let⟨_,o,ho,_⟩:=I.ok.funs.mem hb;show I.base.free b o ho (I.ok.frf b hb) λz=>I.ok.exfs b z hb
def Inv.step{g':Array GenState}{t':Nat}{d':Drawn}{ch:TQ}(I:Inv X aa σ H s)(eC:∀b∈ch,(b∈X.ex\/~~~X.s₀<=b)/\b≠X.env.locals/\(∀x c,X.env.cells.lookup x=!c->c≠b)/\∀p∈X.pn++aa,p.1≠b)(keep:∀b o,b≠X.env.locals->b∉X.fs->b∉ch->s.heap.get? b=!o->H b=none->h'.get? b=!o)(slot:∀b o,b≠X.env.locals->b∈X.fs->b∉ch->s.heap.get? b=!o->H b=none->∃sl,h'.get? b=!{o with slots:=sl})(free:∀b o,b∉ch->s.heap.get? b=!o->H b=none->H' b=none)(there:∀b o,b∉ch->s.heap.get? b=!o->∃o',h'.get? b=!o')(tups:∀b xs,H b=!.tup xs->H' b=!.tup xs)(frzs:∀b o u,H b=!.frz o u->H' b=!.frz o u)(tbls:∀b ps,H b=!.tbl ps->∃more,H' b=!.tbl (ps++more))(ns:∀m,s.heap.Ns X.env.locals m->h'.Ns X.env.locals m)(hok:HOk X.prog X.w H' h')(hg:AllBare g') :
  Inv X aa σ H' {s with heap:=h',gens:=g',drawn:=d',toks:=t'}:=by
 have IT:∀b o,X.s₀.heap.get? b=!o->b≠X.env.locals:=λb o e=>rA (rE (qL e) I.ok.above)
 have oR:∀b o,X.s₀.heap.get? b=!o->b∉X.ex->b∉ch:=λb o e hx hb=>by
  rcases(eC b hb).1 with z | z
  .show hx z
  .show absurd (rE (qL e) z) (rP _)
 have IU:∀x c,X.env.cells.lookup x=!c->∀v,s.heap.IsCell c v->h'.IsCell c v:=λx c e v ⟨o,ho,hd⟩=>by
  have rf:c∉ch:=λz=>(eC c z).2.2.1 x c e O
  by_cases hc:c∈X.fs
  .let⟨sl,q⟩:=slot c o (I.cne x c e) hc rf ho (I.freeC x c e);show⟨_,q,hd⟩
  .show⟨o,keep c o (I.cne x c e) hc rf ho (I.freeC x c e),hd⟩
 show⟨I.ok,I.os,hg,⟨λb o e n hb hx=>?_,λb o e n hb hx=>?_,λb o e n hx=>?_,λb o e hx=>?_,λb xs e=>tups b xs (I.base.tups b xs e),λb o xs e=>frzs b o xs (I.base.frzs b o xs e),λb ps e=>?_⟩,?_,λx c e=>?_,?_,λx c e=>?_,λp hp=>?_,hok,I.len⟩
 .show keep b o (IT b o e) hb (oR b o e hx) (I.base.keep b o e n hb hx) (I.base.free b o e n hx)
 .let⟨sl,e1⟩:=I.base.slot b o e n hb hx;let⟨C0,e2⟩:=slot b _ (IT b o e) hb (oR b o e hx) e1 (I.base.free b o e n hx);show⟨C0,e2⟩
 .let⟨o',e1⟩:=I.base.there b o e hx;show free b o' (oR b o e hx) e1 (I.base.free b o e n hx)
 .let⟨o',e1⟩:=I.base.there b o e hx;show there b o' (oR b o e hx) e1
 .let⟨m1,e1⟩:=I.base.tbls b ps e;let⟨m2,e2⟩:=tbls b _ e1;show⟨m1++m2,by rw[e2,Array.append_assoc]⟩
 .let⟨m,hn,hl⟩:=I.loc;show⟨m,ns m hn,λi x v e1 e2 e3=>?_⟩;let⟨u,r,l⟩:=hl i x v e1 e2 e3;show⟨u,r,?_⟩;rcases l with l | ⟨k,c,e,z⟩
  .show .inl l
  .show .inr ⟨k,c,e,IU x c e _ z⟩
 .let⟨v,z⟩:=I.cell x c e;show⟨v,IU x c e v z⟩
 .let⟨m,⟨o,_,_,ho,_⟩,_⟩:=I.loc;show free _ o (λz=>(eC _ z).2.1 O) ho I.free
 .let⟨v,o,ho,hd⟩:=I.cell x c e;show free c o (λz=>(eC c z).2.2.1 x c e O) ho (I.freeC x c e)
 .let⟨e,n,ne,nf,d⟩:=I.pin p hp;have rf:p.1∉ch:=λz=>(eC p.1 z).2.2.2 p hp O
  show⟨keep p.1 p.2 ne nf rf e n,free p.1 p.2 rf e n,ne,nf,d⟩
def Inv.un{t':Nat}(I:Inv X aa σ H s)(u:Un X.fs [] H H' s.heap h')(hok:HOk X.prog X.w H' h'):Inv X aa σ H' {s with heap:=h',toks:=t'}:=by
 let⟨m,⟨o,es,ep,ho,r⟩,_⟩:=id I.loc;let⟨sl,hL⟩:=u.any ho I.free ∅;show I.step (g':=s.gens) (d':=s.drawn) (ch:=[]) (λ_ z=>nomatch z) (λb o _ hb _ e n=>u.keep b o e n hb ∅) (λb o _ hb _ e n=>u.slot b o e n hb ∅) (λb o _ e n=>u.free b o e n ∅) (λb o _ e=>u.there b o e ∅) u.tups u.frzs u.tbls (λm' hm=>by
  let⟨o',mS,lA,jT,r'⟩:=hm;rw[ho]at jT;cases jT;show⟨_,mS,lA,hL,r'⟩) hok I.bare
def Inv.call{g':Array GenState}{t':Nat}{d':Drawn}{ch:TQ}(I:Inv X aa σ H s)(u:Un (cS X.stack) ch H H' s.heap h')(hok:HOk X.prog X.w H' h')(hg:AllBare g')(eC:∀b∈ch,(b∈X.ex\/~~~X.s₀<=b)/\b≠X.env.locals/\(∀x c,X.env.cells.lookup x=!c->c≠b)/\∀p∈X.pn++aa,p.1≠b) :
  Inv X aa σ H' {s with heap:=h',gens:=g',drawn:=d',toks:=t'}:=by
 let⟨m,⟨o,es,ep,ho,r⟩,_⟩:=id I.loc;let⟨sl,hL⟩:=u.any ho I.free λz=>(eC _ z).2.1 O
 show I.step (ch:=ch) eC (λb o hL hb hc e n=>u.keep b o e n (λz=>(qO.mp (I.stkSub b z)).elim hL hb) hc) (λb o _ _ hc e n=>u.any e n hc) (λb o hc e n=>u.free b o e n hc) (λb o hc e=>u.there b o e hc) u.tups u.frzs u.tbls (λm' hm=>by
  let⟨o',mS,lA,jT,r'⟩:=hm;rw[ho]at jT;cases jT;show⟨_,mS,lA,hL,r'⟩) hok hg
def Inv.turned{t':Nat}{it:Addr}(I:Inv X aa σ H s)(k:∀b o,b≠it->s.heap.get? b=!o->h'.get? b=!o)(hn:H it=none)(hL:it≠X.env.locals)(h1:it∈X.ex\/~~~X.s₀<=it)(h2:∀x c,X.env.cells.lookup x=!c->c≠it)(h3:∀p∈X.pn++aa,p.1≠it):Inv X aa σ H {s with heap:=h',toks:=t'}:=by
 have IV:∀b u,H b=!u->b≠it:=λb u e z=>by rw[z,hn]at e;cases e
 show I.step (g':=s.gens) (d':=s.drawn) (ch:=[it]) (λb hb=>?_) (λb o _ _ hc e _=>k b o (λz=>hc (by simp[z])) e) (λb o _ _ hc e _=>⟨o.slots,k b o (λz=>hc (by simp[z])) e⟩) (λ_ _ _ _ n=>n)
  (λb o hc e=>⟨o,k b o (λz=>hc (by simp[z])) e⟩) (λ_ _ e=>e) (λ_ _ _ e=>e) (λb ps e=>⟨#[],by rw[e];simp⟩) (λm hm=>?_) (λb u e=>?_) I.bare
 .have e:b=it:=‹hb›
  subst e;show⟨h1,hL,h2,h3⟩
 .let⟨o,es,ep,ho,r⟩:=hm;show⟨o,es,ep,k _ o (Ne.symm hL) ho,r⟩
 .show(I.hok b u e).stay (λc v hc q=>k c v ?_ q) (λ_ q=>q) λ_ _ q=>q
  rcases hc with z | z
  .rw[z];show IV b u e
  .show IV c _ z
def Inv.tok(I:Inv X aa σ H s)(t:Nat):Inv X aa σ H {s with toks:=t}:=I.un (h':=s.heap) (t':=t) Un.refl I.hok
def Inv.kept{t':Nat}(I:Inv X aa σ H s)(k:∀b u,s.heap.get? b=!u->h'.get? b=!u):Inv X aa σ H {s with heap:=h',toks:=t'}:=I.un (Un.kept k) (I.hok.kept k)
def Inv.laid{t':Nat}(I:Inv X aa σ H s)(k:∀b u,s.heap.get? b=!u->h'.get? b=!u)(hp: ~~~s<=a)(new:ObjOk X.prog X.w (af H a o) h' a o) :
  Inv X aa σ (af H a o) {s with heap:=h',toks:=t'}:=I.un (Un.laid k hp (I.hok.fresh hp)) (I.hok.laid k hp new)
def Inv.write{t':Nat}(I:Inv X aa σ H s)(mu:re (H x))(he:e=x\/H e=!.own x)(k:∀b u,b≠e->s.heap.get? b=!u->h'.get? b=!u)(oP:∃u,h'.get? e=!u)(new:ObjOk X.prog X.w (af H x o) h' x o):Inv X aa σ (af H x o) {s with heap:=h',toks:=t'}:=I.un (Un.write mu he k oP) (I.hok.write mu he k oP new)
def Inv.pins_of{IW:TF}(I:Inv X aa σ H s)(h:∀p∈IW,s.heap.get? p.1=!p.2/\H p.1=none/\p.1≠X.env.locals/\p.1∉X.fs/\∀v,p.2.data≠.cell v):Inv X IW σ H s :=
 ⟨I.ok,I.os,I.bare,I.base,I.loc,I.cell,I.free,I.freeC,λp hp=>(rG.mp hp).elim (λz=>I.pin p (uG _ z)) (h p),I.hok,I.len⟩
def IX{N:TV}(hN:N.Nodup){i j:Nat}{x:Str}(a:N[i]?=!x)(b:N[j]?=!x):i=j:=by
 let⟨h1,e1⟩:=qI.mp a;let⟨h2,e2⟩:=qI.mp b;show(List.getElem_inj hN).mp (e1.trans e2.symm)
theorem IY{M:Model}{A:Around}{E:TH}{i:Nat}{x:Str}{v:V}{u:Value}{Q:Unit->Shared->Prop}(I:Inv X aa σ H s)(hN:X.N.Nodup)(hi:X.N[i]?=!x)(hx:Loc X.env.scope x)(r:RelV v u)(h:∀s',Inv X aa (σ.set i (!v)) H s'->(∃a,Heap.SameBut a s.heap s'.heap/\(a=X.env.locals\/X.env.cells.lookup x=!a))->Q Unit.unit s')(hf:X.fn x=true\/X.env.scope.names.lookup x=!.local:=by first | show .inl rfl | show .inr rfl | assumption):wpAny M A (storeName X.env x u) Q E s:=by
 let⟨m,hn,hl⟩:=id I.loc;have Su:(X.env.scope.kind == .class || (X.env.scope.kind == .module && X.env.locals != X.env.globals))=false:=by rw[I.ok.kind];rfl
 have IZ:i<σ.length:=by rw[I.len];show(qI.mp hi).1
 have cne:=I.cne;have Ja:∀{a:Addr} {h':Heap},(∃o,s.heap.get? a=!o/\H a=none)->Heap.SameBut a s.heap h'->HOk X.prog X.w H h':=λ{a h'} ha hs b ob e=>by
  let⟨_,_,Jb⟩:=ha;show(I.hok b ob e).stay (λc w' hc q=>(hs.2 c ?_).trans q) (λ_ q=>q) λ_ _ q=>q
  ext rfl;rcases hc with rfl | hc
  .rw[Jb]at e;cases e
  .rw[Jb]at hc;cases hc
 rcases hx with hk | hk
 .refine wpAny_storeName_local hk hn (λh' C2 hs=>?_) Su;let⟨oL,_,_,Sv,_⟩:=id hn;show h _ ⟨I.ok,I.os,I.bare,⟨λb o e n hb hx=>?_,λb o e n hb hx=>?_,I.base.free,λb o e hx=>?_,I.base.tups,I.base.frzs,I.base.tbls⟩,⟨_,C2,λj y v' e1 e2 e3=>?_⟩,λy c e=>?_,I.free,I.freeC,λp hp=>?_,Ja ⟨oL,Sv,I.free⟩ hs,‹I.len›⟩ ⟨_,hs,.inl O⟩
  .show(hs.2 b (rA (rE (qL e) I.ok.above))).trans (I.base.keep b o e n hb hx)
  .let⟨sl,e1⟩:=I.base.slot b o e n hb hx;show⟨sl,(hs.2 b (rA (rE (qL e) I.ok.above))).trans e1⟩
  .let⟨o',e1⟩:=I.base.there b o e hx;show⟨o',(hs.2 b (rA (rE (qL e) I.ok.above))).trans e1⟩
  .by_cases hj:j=i
   .subst hj;rw[hi]at e1;cases e1;rw[List.getElem?_set_self IZ]at e2;cases e2;show⟨u,r,.inl ⟨hk,∅⟩⟩
   .rw[List.getElem?_set_ne (Ne.symm hj)]at e2;let⟨u',r',q⟩:=hl j y v' e1 e2 e3;show⟨u',r',?_⟩;rcases q with⟨k,e⟩ | ⟨k,c,e,z⟩
    .show .inl ⟨k,?_⟩;have:y≠x:=λe=>hj (IX hN e1 (e ▸ hi))
     simp[this,e]
    .show .inr ⟨k,c,e,z.sameBut hs (cne y c e)⟩
  .let⟨w',z⟩:=I.cell y c e;show⟨w',z.sameBut hs (cne y c e)⟩
  .let⟨e,n,ne,nf,d⟩:=I.pin p hp;show⟨(hs.2 p.1 ne).trans e,n,ne,nf,d⟩
 .have rg:X.fn x=true:=by
   rcases hf with z | z
   .show z
   .rw[z]at hk;cases hk
  let⟨c,hc⟩:=I.ok.has x (.inl hk);let⟨w',z⟩:=I.cell x c hc;show wpAny_storeName_cell I.ok.kind hk hc z (λh' eD hs=>?_);let⟨oc,Jc,Sw⟩:=id z;show h {s with heap:=h'} ⟨I.ok,I.os,I.bare,⟨λb o e n hb hx=>?_,λb o e n hb hx=>?_,I.base.free,λb o e hx=>?_,I.base.tups,I.base.frzs,I.base.tbls⟩,⟨m,hn.sameBut hs (Ne.symm (cne x c hc)),λj y v' e1 e2 e3=>?_⟩,λy c' e=>?_,I.free,I.freeC,λp hp=>?_,Ja ⟨oc,Jc,I.freeC x c hc⟩ hs,‹I.len›⟩ ⟨c,hs,.inr hc⟩
  .show(hs.2 b (rA (rE (qL e) (I.ok.cab x c rg hc)))).trans (I.base.keep b o e n hb hx)
  .let⟨sl,e1⟩:=I.base.slot b o e n hb hx;show⟨sl,(hs.2 b (rA (rE (qL e) (I.ok.cab x c rg hc)))).trans e1⟩
  .let⟨o',e1⟩:=I.base.there b o e hx;show⟨o',(hs.2 b (rA (rE (qL e) (I.ok.cab x c rg hc)))).trans e1⟩
  .by_cases hj:j=i
   .subst hj;rw[hi]at e1;cases e1;rw[List.getElem?_set_self IZ]at e2;cases e2;show⟨u,r,.inr ⟨.inl hk,c,hc,eD⟩⟩
   .rw[List.getElem?_set_ne (Ne.symm hj)]at e2;let⟨u',r',q⟩:=hl j y v' e1 e2 e3;show⟨u',r',?_⟩;rcases q with q | ⟨k,c',e,z'⟩
    .show .inl q
    .show .inr ⟨k,c',e,z'.sameBut hs ?_⟩;ext rfl;show hj (IX hN e1 (I.ok.inj _ _ _ e hc ▸ hi))
  .by_cases jk:c'=c
   .subst jk;show⟨_,eD⟩
   .let⟨w2,z2⟩:=I.cell y c' e;show⟨w2,z2.sameBut hs jk⟩
  .let⟨e,n,ne,nf,d⟩:=I.pin p hp;show⟨(hs.2 p.1 ?_).trans e,n,ne,nf,d⟩;intro q;rw[q,Jc]at e;have q':oc=p.2:=rD e;show d w' (by rw[<-q'];show Sw)
def C3{E:TH}{i:Nat}{Q:Unit->Shared->Prop}(I:Inv X aa σ H s)(hN:X.N.Nodup)(hi:X.N[i]?=!x)(hx:Loc X.env.scope x)(r:RelV v u)(h:∀s',Inv X aa (σ.set i (!v)) H s'->Q Unit.unit s')(hf:X.fn x=true\/X.env.scope.names.lookup x=!.local:=by first | show .inl rfl | show .inr rfl | assumption):wpAny M A (storeName X.env x u) Q E s :=
 IY I hN hi hx r (λs' I' _=>h s' I') hf
def Inv.call'(I:Inv X aa σ H s)(ho:s'.os=s.os)(u:Un (cS X.stack) ch H H' s.heap s'.heap)(hok:HOk X.prog X.w H' s'.heap)(hg:AllBare s'.gens)(eC:∀b∈ch,(b∈X.ex\/~~~X.s₀<=b)/\b≠X.env.locals/\(∀x c,X.env.cells.lookup x=!c->c≠b)/\∀p∈X.pn++aa,p.1≠b):Inv X aa σ H' s':=by
 let⟨h',g',d',t',o'⟩:=s';have e:o'=s.os:=ho;subst e;show I.call (g':=g') (t':=t') (d':=d') u hok hg eC
end
abbrev XK:=Value->Option Addr->Hp->Prop
abbrev St:=List (Option V)
abbrev VK:=V->Hp->Prop
abbrev TE:=St->Hp->VK->Prop
abbrev TT:=St->Hp->(Bool->Hp->Prop)->Prop
abbrev TA:=St->Hp->(List V->Hp->Prop)->Prop
structure gO where
 nx:St->Hp->Prop
 rt:VK
 bk:St->Hp->Prop:=λ_ _=>False
 ct:St->Hp->Prop:=λ_ _=>False
abbrev TS:=gO->St->Hp->Prop
def EP(X:Cx)(aa:TF)(σ:St)(Q:VK)(u:Value)(s':Shared):=∃v H',Inv X aa σ H' s'/\RelV v u/\Q v H'
def TP(X:Cx)(aa:TF)(σ:St)(Q:Bool->Hp->Prop)(b:Bool)(s':Shared):=∃H',Inv X aa σ H' s'/\Q b H'
def AP(X:Cx)(aa:TF)(σ:St)(Q:List V->Hp->Prop)(us:TU)(s':Shared):=∃vs H',Inv X aa σ H' s'/\Vals vs us/\Q vs H'
def SP(X:Cx)(aa:TF)(D:gO)(f:Flow)(s':Shared):Prop :=
 match f with
 | .next=>∃ae H',Inv X aa ae H' s'/\D.nx ae H'
 | .brk=>∃ae H',Inv X aa ae H' s'/\D.bk ae H'
 | .cont=>∃ae H',Inv X aa ae H' s'/\D.ct ae H'
 | .ret u=>∃v ae H',Inv X aa ae H' s'/\RelV v u/\D.rt v H'
def PE(X:Cx)(e:Expr)(t:TE):Prop :=
 ∀(aa:TF) (s:Shared) (σ:St) (H:Hp) (Q:VK),Inv X aa σ H s->t σ H Q->wpAny (model X.prog X.w) X.A (eval e X.env) (EP X aa σ Q) X.xe s
def PT(X:Cx)(e:Expr)(t:TT):Prop :=
 ∀(aa:TF) (s:Shared) (σ:St) (H:Hp) (Q:Bool->Hp->Prop),Inv X aa σ H s->t σ H Q->wpAny (model X.prog X.w) X.A (isTrue e X.env (eval e X.env)) (TP X aa σ Q) X.xe s
def PW(X:Cx)(e:Expr)(t:TT):Prop :=
 ∀(Ab:Sem Value) (aa:TF) (s:Shared) (σ:St) (H:Hp) (Q:Bool->Hp->Prop),Inv X aa σ H s->t σ H Q->wpAny (model X.prog X.w) X.A (isTrue e X.env Ab) (TP X aa σ Q) X.xe s
def PW.pt(h:PW X e t):PT X e t:=h _
def PA(X:Cx)(es:TW)(t:TA):Prop :=
 ∀(pos:Pos) (aa:TF) (s:Shared) (σ:St) (H:Hp) (Q:List V->Hp->Prop),Inv X aa σ H s->t σ H Q->wpAny (model X.prog X.w) X.A (spliced (backTo pos (starEach es X.env))) (AP X aa σ Q) X.xe s
def PS(X:Cx)(st:Stmt)(t:TS):Prop :=
 ∀(aa:TF) (s:Shared) (σ:St) (H:Hp) (D:gO),Inv X aa σ H s->t D σ H->wpAny (model X.prog X.w) X.A (exec st X.env) (SP X aa D) X.xe s
def PSs(X:Cx)(st:List Stmt)(t:TS):Prop :=
 ∀(aa:TF) (s:Shared) (σ:St) (H:Hp) (D:gO),Inv X aa σ H s->t D σ H->wpAny (model X.prog X.w) X.A (execs st X.env) (SP X aa D) X.xe s
def aN{α:Type}{t:Sem α}{Q Q':α->Shared->Prop}{E:TH}(h:wpAny M A t Q E s)(hQ:∀a s,Q a s->Q' a s):wpAny M A t Q' E s:=xB h hQ λ_ _ x=>x
section
variable{X:Cx}
inductive jm(i:Nat):St->Hp->VK->Prop
|m v:σ[i]?=!!v->Q v H->jm i σ H Q
def tC(v:V):TE:=λ_ H Q=>Q v H
def Sx{i:Nat}(hN:X.N[i]?=!x)(hv:oQ X.env.scope x)(hd:(x == ("__debug__" : Str))=false:=by decide)(fI:(x == ("__classdict__" : Str))=false:=by decide):PE X (.Name x pos) (jm i):=by
 intro aa s σ H Q I h;let⟨v,e,h⟩:=h;let⟨m,hn,hl⟩:=I.loc;let⟨u,r,l⟩:=hl i x v hN e hv;have fin:EP X aa σ Q u s:=⟨v,H,I,r,h⟩;rcases l with⟨hk,hm⟩ | ⟨hk,c,hc,jn⟩
 .show wpAny_Name (wpAny_loadName_local I.ok.kind hk hn hm fin) hd
 .rcases hk with hk | hk
  .show wpAny_Name (wpAny_loadName_cell I.ok.kind hk hc jn fin) hd
  .show wpAny_Name (wpAny_loadName_free I.ok.kind hk hc jn fin fI) hd
def aw{i j pos}:PE X (.Constant (.int i) j pos) (tC (.int i)):=λ_ _ _ H _ I h=>wpAny_Constant_int ⟨.int i,H,I.tok _,⟨_,O⟩,h⟩
def oT{b j pos}:PE X (.Constant (.bool b) j pos) (tC (.bl b)):=λ_ _ _ H _ I h=>Constant_bool ⟨.bl b,H,I,O,h⟩
def oU{j pos}:PE X (.Constant .none j pos) (tC .non):=λ_ _ _ H _ I h=>Constant_none ⟨.non,H,I,O,h⟩
def aO{x j pos}:PE X (.Constant (.str x) j pos) (tC (.str x)):=λ_ _ _ H _ I h=>Calls.Constant_str ⟨.str x,H,I.tok _,⟨_,O⟩,h⟩
def Gl(X:Cx)(x:Str):=X.env.kindOf x=!.globalImplicit
def Jd{E:TH}{aa:TF}{Q:TH}(I:Inv X aa σ H s)(hg:Gl X x)(hm:X.mg x=!u)(h:Q u s)(hd:(x == ("__debug__" : Str))=false:=by decide):wpAny (model X.prog X.w) X.A (eval (.Name x pos) X.env) Q E s :=
 Calls.Name_function_global I.ok.kind hg (Calls.loadGlobal_global (by rw[I.ok.glob];show I.mod.glob.keeps I.bk) hm h) hd
def iQ{E:TH}{aa:TF}{Q:TH}(I:Inv X aa σ H s)(hg:Gl X x)(hm:X.mg x=none)(hv:bootBuiltins x=!u)(h:Q u s)(hn:x ≠ "__name__":=by decide)(hd:(x == ("__debug__" : Str))=false:=by decide):wpAny (model X.prog X.w) X.A (eval (.Name x pos) X.env) Q E s:=by
 let⟨mb,h1,h2⟩:=I.mod.blt;show Calls.Name_function_global I.ok.kind hg (Calls.loadGlobal_builtin (by rw[I.ok.glob];show I.mod.glob.keeps I.bk) hm (by rw[I.ok.blt];show h1.keeps I.bk) ((h2 x hn).trans hv) h) hd
def C4(hg:Gl X x)(hm:X.mg x=!u)(r:RelV v u)(hd:(x == ("__debug__" : Str))=false:=by decide):PE X (.Name x pos) (tC v) :=
 λ_ _ _ H _ I h=>Jd I hg hm ⟨v,H,I,r,h⟩ hd
def Sy(hg:Gl X x)(hm:X.mg x=none)(hv:bootBuiltins x=!u)(r:RelV v u)(hn:x ≠ "__name__":=by decide)(hd:(x == ("__debug__" : Str))=false:=by decide):PE X (.Name x pos) (tC v) :=
 λ_ _ _ H _ I h=>iQ I hg hm hv ⟨v,H,I,r,h⟩ hn hd
variable{a b:Expr}{ta tb:TE}{pos:Pos}
def PC(X:Cx)(op:CmpOp)(a b:Expr)(t:TE):Prop :=
 ∀(aa:TF) (s:Shared) (σ:St) (H:Hp) (Q:VK),Inv X aa σ H s->t σ H Q ->
  wpAny (model X.prog X.w) X.A (eval a X.env) (λv a6=>wpAny (model X.prog X.w) X.A (eval b X.env) (λu ir=>wpAny (model X.prog X.w) X.A (compareOp op v u) (EP X aa σ Q) X.xe ir) X.xe a6) X.xe s
def Je(b:Expr)(h:op≠.In)(h2:op≠.NotIn):behindInMarks op b=false:=by
 have e1:(op == CmpOp.In)=false:=by cases op<;>first | rfl | show absurd rfl h
 have e2:(op == CmpOp.NotIn)=false:=by cases op<;>first | rfl | show absurd rfl h2
 cases b<;>simp[behindInMarks,e1,e2]
def SA(ta:TE):TE:=λσ H Q=>ta σ H λx H1=>Q (.bl (decide (x=.non))) H1
def SB(ta:TE):TE:=λσ H Q=>ta σ H λx H1=>Q (.bl ((Bool.not (decide (x=.non))))) H1
def RelV.none_iff(r:RelV x v):(v == Value.none)=decide (x=.non):=by
 cases x with
 | non=>cases r;rfl
 | bl _=>cases r;rfl
 | int _=>let⟨t,rfl⟩:=r;rfl
 | str _=>let⟨t,rfl⟩:=r;rfl
 | byt _=>let⟨t,rfl⟩:=r;rfl
 | flt _=>let⟨t,rfl⟩:=r;rfl
 | ref _=>cases r;rfl
 | ty _=>cases r;rfl
def Ac{j eE}(ha:PE X a ta):PC X .Is a (.Constant .none j eE) (SA ta):=by
 intro aa s σ H Q I h;show aN (ha aa s σ H _ I h) λv s1 ⟨x,H1,I1,r1,q1⟩=>?_
 show Constant_none (is_none_gen ⟨.bl _,H1,I1,by rw[r1.none_iff];rfl,q1⟩)
def Ad{j eE}(ha:PE X a ta):PC X .IsNot a (.Constant .none j eE) (SB ta):=by
 intro aa s σ H Q I h;show aN (ha aa s σ H _ I h) λv s1 ⟨x,H1,I1,r1,q1⟩=>?_
 show Constant_none (isnot_none_gen ⟨.bl _,H1,I1,by rw[r1.none_iff];rfl,q1⟩)
inductive Jf(Q:Bool->Hp->Prop):V->Hp->Prop
|m {x H1} c:x=.bl c->Q c H1->Jf Q x H1
def tB(t:TE):TT:=λσ H Q=>t σ H (Jf Q)
def SC(h:PC X op a b t)(h1:behindInMarks op b=false:=by first | show Je _ {} {} | rfl):PE X (.Compare a [op] [b] pos) t:=λaa s σ H Q I hw=>wpAny_Compare1 (h aa s σ H Q I hw) h1
def jU(h:PC X op a b t)(h1:behindInMarks op b=false:=by first | show Je _ {} {} | rfl):PT X (.Compare a [op] [b] pos) (tB t):=by
 intro aa s σ H Q I hw;show wpAny_isTrue_Compare1 (aN (h aa s σ H _ I hw) λv s1 h1=>aN h1 λu s2 h2=>aN h2 λc s3 ⟨x,H1,I1,r1,q1⟩=>?_) h1;let⟨d,rfl,q⟩:=q1;cases r1;show xX ⟨H1,I1,q⟩
def lB(h:PE X e t)(he:∀ Ab,isTrue e X.env Ab=(do let v <- Ab; standAt e.pos; holding [v] (truthy v)):=by intro _; rfl):PT X e (tB t):=by
 intro aa s σ H Q I hw
 show isTrue_plain (aN (h aa s σ H _ I hw) λv s1 ⟨x,H1,I1,r1,q1⟩=>?_) (he _)
 let⟨d,rfl,q⟩:=q1
 cases r1
 show xX ⟨H1,I1,q⟩
variable{tA Ae:TT}{rest:TW}
def Jg(t u:TT):TT:=λσ H Q=>t σ H λc H1=>if c=true then u σ H1 Q else Q false H1
def SE(t u:TT):TT:=λσ H Q=>t σ H λc H1=>if c=true then Q true H1 else u σ H1 Q
def SF(t:TT):TT:=λσ H Q=>t σ H λc H1=>Q ((Bool.not (c))) H1
def jV(ha:PT X a tA):PW X (.BoolOp .And [a] pos) tA:=by
 intro wh aa s σ H Q I h;show isTrue_and (aN (ha aa s σ H Q I h) λc s1 e=>?_);cases c with
 | true=>show isTrue_and_nil e
 | false=>show e
def oV(ha:PT X a tA):PW X (.BoolOp .Or [a] pos) tA:=by
 intro wh aa s σ H Q I h;show isTrue_or (aN (ha aa s σ H Q I h) λc s1 e=>?_);cases c with
 | false=>show isTrue_or_nil e
 | true=>show e
def iS(ha:PT X a tA)(hb:PW X (.BoolOp .And (b::rest) pos) Ae):PW X (.BoolOp .And (a::b::rest) pos) (Jg tA Ae):=by
 intro wh aa s σ H Q I h;show isTrue_and (aN (ha aa s σ H _ I h) λc s1 ⟨H1,I1,q1⟩=>?_);cases c with
 | true=>show hb wh aa s1 σ H1 Q I1 q1
 | false=>show⟨H1,I1,q1⟩
def mT(ha:PT X a tA)(hb:PW X (.BoolOp .Or (b::rest) pos) Ae):PW X (.BoolOp .Or (a::b::rest) pos) (SE tA Ae):=by
 intro wh aa s σ H Q I h;show isTrue_or (aN (ha aa s σ H _ I h) λc s1 ⟨H1,I1,q1⟩=>?_);cases c with
 | true=>show⟨H1,I1,q1⟩
 | false=>show hb wh aa s1 σ H1 Q I1 q1
def rh(ha:PT X a tA):PT X (.UnaryOp .Not a pos) (SF tA):=by
 intro aa s σ H Q I h;show isTrue_not (ha aa s σ H (λc H1=>Q ((Bool.not (c))) H1) I h)
inductive Jh(tb:TE)(σ:St)(Q:VK):V->Hp->Prop
|m {x H1} c:x=.bl c->(if c=true then tb σ H1 Q else Q (.bl false) H1)->Jh tb σ Q x H1
def SH(ta tb:TE):TE:=λσ H Q=>ta σ H (Jh tb σ Q)
inductive Ji(tb:TE)(σ:St)(Q:VK):V->Hp->Prop
|m {x H1} c:x=.bl c->(if c=true then Q (.bl true) H1 else tb σ H1 Q)->Ji tb σ Q x H1
def SI(ta tb:TE):TE:=λσ H Q=>ta σ H (Ji tb σ Q)
inductive Jj(Q:VK):V->Hp->Prop
|m {x H1} c:x=.bl c->Q (.bl ((Bool.not (c)))) H1->Jj Q x H1
def SJ(ta:TE):TE:=λσ H Q=>ta σ H (Jj Q)
def Jk{op}(h:PE X a t):PE X (.BoolOp op [a] pos) t:=λaa s σ H Q I hw=>BoolOp_one (h aa s σ H Q I hw)
def SK(ha:PE X a ta)(hb:PE X (.BoolOp .And (b::rest) pos) tb):PE X (.BoolOp .And (a::b::rest) pos) (SH ta tb):=by
 intro aa s σ H Q I h;show BoolOp_and (aN (ha aa s σ H _ I h) λv s1 ⟨x,H1,I1,r1,q1⟩=>?_);let⟨c,rfl,q1⟩:=q1;cases r1;show xX ?_;cases c with
 | true=>show hb aa s1 σ H1 Q I1 q1
 | false=>show⟨.bl false,H1,I1,O,q1⟩
def SL(ha:PE X a ta)(hb:PE X (.BoolOp .Or (b::rest) pos) tb):PE X (.BoolOp .Or (a::b::rest) pos) (SI ta tb):=by
 intro aa s σ H Q I h;show BoolOp_or (aN (ha aa s σ H _ I h) λv s1 ⟨x,H1,I1,r1,q1⟩=>?_);let⟨c,rfl,q1⟩:=q1;cases r1;show xX ?_;cases c with
 | false=>show hb aa s1 σ H1 Q I1 q1
 | true=>show⟨.bl true,H1,I1,O,q1⟩
def SM(ha:PE X a ta):PE X (.UnaryOp .Not a pos) (SJ ta):=by
 intro aa s σ H Q I h;show UnaryOp_ (aN (ha aa s σ H _ I h) λv s1 ⟨x,H1,I1,r1,q1⟩=>?_);let⟨c,rfl,q1⟩:=q1;cases r1;show not_of (xX ⟨.bl ((Bool.not (c))),H1,I1,O,q1⟩)
def SN(t:TT)(ta tb:TE):TE:=λσ H Q=>t σ H λc H1=>if c=true then ta σ H1 Q else tb σ H1 Q
def jo(hc:PT X c tA)(ha:PE X a ta)(hb:PE X b tb):PE X (.IfExp c a b pos) (SN tA ta tb):=by
 intro aa s σ H Q I h;show wpAny_IfExp (aN (hc aa s σ H _ I h) λd s1 ⟨H1,I1,q1⟩=>?_);cases d with
 | true=>show ha aa s1 σ H1 Q I1 q1
 | false=>show hb aa s1 σ H1 Q I1 q1
end
def SqL(K:W.Frag)(H:Hp)(a:Addr)(xs:List V):Prop :=
 Rd H a (.lst xs) \/
  ∃(o:Obj) (ag:Array Value) (n:Nat),K.lookup a=!o/\o.cls=.type "list" /\ o.dict=none/\o.data=.seq ag n/\ag.size<=sizeLine/\Vals xs ag.toList
def SqT(K:W.Frag)(H:Hp)(a:Addr)(xs:List V):Prop :=
 Rd H a (.tup xs) \/
  ∃(o:Obj) (ag:Array Value) (n:Nat),K.lookup a=!o/\o.cls=.type "tuple" /\ o.data=.seq ag n/\ag.size<=sizeLine/\Vals xs ag.toList
def SO:Value->Option V
 | .none=>!.non
 | .bool b=>!.bl b
 | .int i _=>!.int i
 | .str x _=>!.str x
 | .bytes b _=>!.byt b
 | .float b _=>!.flt b
 | .ref a=>!.ref a
 | .type n=>!.ty n
 | _=>none
def RelV.abs(r:RelV x u):SO u=!x:=by
 cases x with
 | non=>cases r;rfl
 | bl _=>cases r;rfl
 | int _=>let⟨t,rfl⟩:=r;rfl
 | str _=>let⟨t,rfl⟩:=r;rfl
 | byt _=>let⟨t,rfl⟩:=r;rfl
 | flt _=>let⟨t,rfl⟩:=r;rfl
 | ref _=>cases r;rfl
 | ty _=>cases r;rfl
def RelV.inj(r:RelV x u)(q:RelV y u):x=y:=rD (r.abs.symm.trans q.abs)
def Vals.inj:∀{xs ys:List V} {us:TU},Vals xs us->Vals ys us->xs=ys
 | _,_,_,.nil,.nil=>rfl
 | _,_,_,.cons r t,.cons r' t'=>by rw[r.inj r',Vals.inj t t']
section
variable{X:Cx}{aa:TF}{σ:St}{H:Hp}{s:Shared}{a:Addr}{xs ys:List V}
def SqL.of{K:W.Frag}(h:H a=!.lst xs):SqL K H a xs:=.inl (.inl h)
def SqT.of{K:W.Frag}(h:H a=!.tup xs):SqT K H a xs:=.inl (.inl h)
def Inv.list(I:Inv X aa σ H s)(h:SqL X.K H a xs):∃ag:TU,Vals xs ag/\PlainL s.heap a ag.toArray/\xs.length<=sizeLine:=by
 rcases h with h | ⟨o,ag,n,hk,hc,hd,hs,hz,r⟩
 .let⟨z,ag,n,r,e⟩:=h.ok I.hok;show⟨ag,r,⟨_,n,e,O,O,O⟩,z⟩
 .show⟨ag.toList,r,⟨o,n,I.kIn a o hk,hc,hd,‹hs›⟩,?_⟩;have e:=r.length;simp only[Array.length_toList]at e;omega
def Inv.tuple(I:Inv X aa σ H s)(h:SqT X.K H a xs):∃ag:TU,Vals xs ag/\IsTup s.heap a ag.toArray/\xs.length<=sizeLine:=by
 rcases h with h | ⟨o,ag,n,hk,hc,hs,hz,r⟩
 .let⟨z,ag,r,p⟩:=h.ok I.hok;show⟨ag,r,p,z⟩
 .show⟨ag.toList,r,⟨o,I.kIn a o hk,hc,n,‹hs›⟩,?_⟩;have e:=r.length;simp only[Array.length_toList]at e;omega
def Inv.list_inj(I:Inv X aa σ H s)(h:SqL X.K H a xs)(h':SqL X.K H a ys):xs=ys:=by
 let⟨ag,r,⟨o,n,e,_,_,d⟩,_⟩:=I.list h;let⟨its',r',⟨o',n',e',_,_,d'⟩,_⟩:=I.list h';rw[e]at e';cases e';rw[d]at d';injection d' with d1 _
 have:ag=its':=‹xC Array.toList d1›
 subst this;show r.inj r'
def Inv.tuple_inj(I:Inv X aa σ H s)(h:SqT X.K H a xs)(h':SqT X.K H a ys):xs=ys:=by
 let⟨ag,r,⟨o,e,_,n,d⟩,_⟩:=I.tuple h;let⟨its',r',⟨o',e',_,n',d'⟩,_⟩:=I.tuple h';rw[e]at e';cases e';rw[d]at d';injection d' with d1 _
 have:ag=its':=‹xC Array.toList d1›
 subst this;show r.inj r'
end
abbrev Cx.wish(X:Cx)(E:TH):Cx:={X with xe:=E}
abbrev Cx.nox(X:Cx):Cx:=X.wish λ_ _=>False
def Cx.Ok.wish{X:Cx}(ok:X.Ok)(E:TH):(X.wish E).Ok :=
 ⟨ok.mod,ok.kind,ok.glob,ok.blt,ok.above,ok.inj,ok.has,ok.cab,ok.hd,ok.frames,ok.stk,ok.exf,ok.bs,ok.bsz,ok.noex,ok.exfs,ok.funs,ok.frf⟩
def Cx.Ok.unwish{X:Cx}{E:TH}(ok:(X.wish E).Ok):X.Ok :=
 ⟨ok.mod,ok.kind,ok.glob,ok.blt,ok.above,ok.inj,ok.has,ok.cab,ok.hd,ok.frames,ok.stk,ok.exf,ok.bs,ok.bsz,ok.noex,ok.exfs,ok.funs,ok.frf⟩
section
variable{X:Cx}{aa:TF}{σ:St}{H:Hp}{s:Shared}{E:TH}
def Inv.wish(I:Inv X aa σ H s)(E:TH):Inv (X.wish E) aa σ H s:=⟨I.ok.wish E,I.os,I.bare,I.base,I.loc,I.cell,I.free,I.freeC,I.pin,I.hok,I.len⟩
def Inv.unwish(I:Inv (X.wish E) aa σ H s):Inv X aa σ H s:=⟨I.ok.unwish,I.os,I.bare,I.base,I.loc,I.cell,I.free,I.freeC,I.pin,I.hok,I.len⟩
def SP.unwish(h:SP (X.wish E) aa D f s'):SP X aa D f s':=by
 cases f with
 | next=>let⟨ae,H',I,q⟩:=h;show⟨ae,H',I.unwish,q⟩
 | brk=>let⟨ae,H',I,q⟩:=h;show⟨ae,H',I.unwish,q⟩
 | cont=>let⟨ae,H',I,q⟩:=h;show⟨ae,H',I.unwish,q⟩
 | ret u=>let⟨v,ae,H',I,r,q⟩:=h;show⟨v,ae,H',I.unwish,r,q⟩
def PSs.nox{st:List Stmt}{t:TS}(h:PSs X.nox st t):PSs X st t:=λaa s σ H D I hw =>
 xB (h aa s σ H D (I.wish _) hw) (λ_ _ q=>q.unwish) λ_ _ z=>False.elim z
end
section
variable{X:Cx}{st:Stmt}{rest:List Stmt}{t u:TS}{e:Expr}{te:TE}{pos:Pos}
def SQ:TS:=λD σ H=>D.nx σ H
def rj(t u:TS):TS:=λD σ H=>t {D with nx:=u D} σ H
def bj:PSs X [] SQ:=λ_ _ σ H _ I h=>uY ⟨σ,H,I,h⟩
theorem ar(h1:PS X st t)(h2:PSs X rest u):PSs X (st::rest) (rj t u):=by
 intro aa s σ H D I h;show wpAny_execs_cons (aN (h1 aa s σ H {D with nx:=u D} I h) λf s1 q=>?_);cases f with
 | next =>
   let⟨ae,H',I',q⟩:=q
   show h2 aa s1 ae H' D I' q
 | ret v=>show q
 | brk=>show q
 | cont=>show q
def ax(h1:PS X st t):PSs X [st] t:=by
 intro aa s σ H D I h;show wpAny_execs_cons (aN (h1 aa s σ H D I h) λf s1 q=>?_);cases f with
 | next=>show uY q
 | ret v=>show q
 | brk=>show q
 | cont=>show q
def SR:TS:=λD σ H=>D.bk σ H
def SS:PS X (.Break pos) SR:=λ_ _ σ H _ I h=>wpAny_Break ⟨σ,H,I,h⟩
def Inv.quiet{aa:TF}(I:Inv X aa σ H s):interactive X.env=false:=by simp[interactive,I.ok.kind]
def SU(te:TE):TS:=λD σ H=>te σ H λ_ H1=>D.nx σ H1
def bX(he:PE X e te)(hs:swapsWith e none pos.line X.env=pure false:=by rfl):PS X (.Expr e pos) (SU te):=by
 intro aa s σ H D I h;show wpAny_Expr_any (aN (he aa s σ H _ I h) λv s1 ⟨x,H1,I1,r1,q1⟩=>⟨σ,H1,I1,q1⟩) I.quiet hs
def Jl(te:TE):TS:=λD σ H=>te σ H D.rt
def aG(he:PE X e te):PS X (.Return (!e) pos) (Jl te):=by
 intro aa s σ H D I h;show wpAny_Return_some (aN (he aa s σ H _ I h) λv s1 ⟨x,H1,I1,r1,q1⟩=>⟨x,σ,H1,I1,r1,q1⟩)
def Jm(c:TT)(t u:TS):TS:=λD σ H=>c σ H λb H1=>if b=true then t D σ H1 else u D σ H1
def ba(hc:PT X c tc)(ha:PSs X a t)(hb:PSs X b u):PS X (.If c a b pos) (Jm tc t u):=by
 intro aa s σ H D I h;show wpAny_If (aN (hc aa s σ H _ I h) λd s1 ⟨H1,I1,q1⟩=>?_);cases d with
 | true=>show ha aa s1 σ H1 D I1 q1
 | false=>show hb aa s1 σ H1 D I1 q1
end
abbrev TG:=V->St->Hp->(St->Hp->Prop)->Prop
abbrev Af:=List V->St->Hp->(St->Hp->Prop)->Prop
def PG(X:Cx)(target:Expr)(t:TG):Prop :=
 ∀(aa:TF) (s:Shared) (σ:St) (H:Hp) (v:V) (u:Value) (Q:St->Hp->Prop),Inv X aa σ H s->RelV v u->t v σ H Q ->
  wpAny (model X.prog X.w) X.A (assign target X.env u) (λ_ s'=>∃ae H',Inv X aa ae H' s'/\Q ae H') X.xe s
def oW(X:Cx)(ts:TW)(t:Af):Prop :=
 ∀(aa:TF) (s:Shared) (σ:St) (H:Hp) (vs:List V) (us:TU) (Q:St->Hp->Prop),Inv X aa σ H s->Vals vs us->t vs σ H Q ->
  wpAny (model X.prog X.w) X.A (assignInOrder ((assignEach ts X.env).map (·.2)) us) (λ_ s'=>∃ae H',Inv X aa ae H' s'/\Q ae H') X.xe s
abbrev C5:=V->V->V->Hp->(Hp->Prop)->Prop
def C6(X:Cx)(t:C5):Prop :=
 ∀(aa:TF) (s:Shared) (σ:St) (H:Hp) (o i v:V) (ov iv u:Value) (Q:Hp->Prop),Inv X aa σ H s->RelV o ov->RelV i iv->RelV v u->t o i v H Q ->
  wpAny (model X.prog X.w) X.A (setItem ov iv u) (λ_ s'=>∃H',Inv X aa σ H' s'/\Q H') X.xe s
abbrev C7:=V->V->Hp->VK->Prop
def rp(X:Cx)(op:Operator)(t:C7):Prop :=
 ∀(aa:TF) (s:Shared) (σ:St) (H:Hp) (x y:V) (v u:Value) (Q:VK),Inv X aa σ H s->RelV x v->RelV y u->t x y H Q ->
  wpAny (model X.prog X.w) X.A (inplaceOp op v u) (EP X aa σ Q) X.xe s
section
variable{X:Cx}{pos:Pos}
def a7(i:Nat):TG:=λv σ H Q=>Q (σ.set i (!v)) H
def SV{i:Nat}(hN:X.N.Nodup)(hi:X.N[i]?=!x)(hx:Loc X.env.scope x)(hf:X.fn x=true\/X.env.scope.names.lookup x=!.local:=by first | show .inl rfl | show .inr rfl | assumption):PG X (.Name x pos) (a7 i):=by
 intro aa s σ H v u Q I r h;show wpAny_assign_Name (C3 I hN hi hx r (λs' I'=>⟨_,H,I',h⟩) hf)
inductive Jn:List V->St->Hp->(St->Hp->Prop)->Prop
 | m  : vs=[]->Q σ H->Jn vs σ H Q
inductive Jo(t:TG)(u:Af):List V->St->Hp->(St->Hp->Prop)->Prop
|m v r:vs=v::r->(t v σ H λae H'=>u r ae H' Q)->Jo t u vs σ H Q
def dO:oW X [] Jn:=by
 intro aa s σ H vs us Q I r h;let⟨e,h⟩:=h;subst e;cases r;show assignInOrder_nil ⟨σ,H,I,h⟩
theorem bv(h1:PG X e t)(h2:oW X es u)(hs:(assignEach (e::es) X.env).map (·.2)=assign e X.env::(assignEach es X.env).map (·.2):=by rfl):oW X (e::es) (Jo t u):=by
 intro aa s σ H vs us Q I r h;let⟨v,vr,e1,h⟩:=h;subst e1;cases r with
 | cons r rr =>
   rw[hs]
   show assignInOrder_cons (aN (h1 aa s σ H _ _ _ I r h) λ_ s1 ⟨oX,H1,I1,q1⟩=>?_)
   show h2 aa s1 oX H1 _ _ Q I1 rr q1
inductive C8(K:W.Frag)(n:Nat)(t:Af):V->St->Hp->(St->Hp->Prop)->Prop
|m a xs:v=.ref a->SqT K H a xs->xs.length=n->t xs σ H Q->C8 K n t v σ H Q
def jp{k:Nat}{n:Nat}(hc:X.calm=true)(h:oW X es t)(hn:(assignEach es X.env).length=n:=by rfl)(b7:(assignEach es X.env).findIdx? (·.1)=none:=by rfl):PG X (.Tuple es k pos) (C8 X.K n t):=by
 intro aa s σ H v u Q I r hw;let⟨a,xs,e1,hq,hl,hw⟩:=hw;subst e1;cases r;let⟨ag,rv,ht,hz⟩:=I.tuple hq;show assign_Tuple_tuple (I.ok.hd hc) ht (by simp[hn,<-hl,rv.length]) b7 λh' hx=>?_
 have I1:Inv X aa σ H {s with heap:=h'}:=I.kept (t':=s.toks) λb o e=>hx b o (rA (qL e)) e
 show h aa _ σ H xs _ Q I1 ‹rv› hw
def Jp(to ti:TE)(t:C5):TG:=λv σ H Q=>to σ H λo H1=>ti σ H1 λi H2=>t o i v H2 λH3=>Q σ H3
theorem rq(ho:PE X o to)(hi:PE X i ti)(hs:C6 X t)(ha:∀ v,assign (.Subscript o i pos) X.env v=(do
   let ov <- holding [v] (eval o X.env)
   let iv <- holding [v,ov] (eval i X.env)
   standAt pos
   holding [v,ov,iv] (setItem ov iv v)
   release [v,ov,iv] []):=by intro _; rfl):PG X (.Subscript o i pos) (Jp to ti t):=by
 intro aa s σ H v u Q I r h
 rw [ha]
 show qC (xQ (aN (ho aa s σ H _ I h) λov s1 ⟨x,H1,I1,r1,q1⟩=>?_))
 show qC (xQ (aN (hi aa s1 σ H1 _ I1 q1) λiv s2 ⟨y,H2,I2,r2,q2⟩=>?_))
 show qC (vE (qC (xQ (aN (hs aa s2 σ H2 x y v ov iv u _ I2 r1 r2 r q2) λ_ s3 ⟨H3,I3,q3⟩=>?_))))
 show wpAny_release ⟨σ,H3,I3,q3⟩
def lD(te:TE)(g:TG):TS:=λD σ H=>te σ H λx H1=>g x σ H1 D.nx
def oY(he:PE X e te)(hg:PG X tg g)(hs:swapsWithSole [tg] e pos.line X.env=pure false:=by rfl)(hw:swappedStores [tg] e X.env=pure none:=by rfl)(h1:(assignEach [tg] X.env).map (·.2)=[assign tg X.env]:=by rfl):PS X (.Assign [tg] e pos) (lD te g):=by
 intro aa s σ H D I h;show wpAny_Assign_stores (aN (he aa s σ H _ I h) λv s1 ⟨x,H1,I1,r1,q1⟩=>?_) hs hw;rw[h1];show aN (hg aa s1 σ H1 x v _ I1 r1 q1) λ_ s2 q=>q
def SW{i:Nat}(hN:X.N.Nodup)(hi:X.N[i]?=!x)(hx:Loc X.env.scope x)(he:PE X e te)(hs:swapsWith e (!.Name x eE) pos.line X.env=pure false:=by rfl)(hf:X.fn x=true\/X.env.scope.names.lookup x=!.local:=by first | show .inl rfl | show .inr rfl | assumption) :
  PS X (.Assign [.Name x eE] e pos) (lD te (a7 i)):=by
 intro aa s σ H D I h;show wpAny_Assign_Name (aN (he aa s σ H _ I h) λv s1 ⟨y,H1,I1,r1,q1⟩=>?_) hs;show C3 I1 hN hi hx r1 (λs2 I2=>⟨_,H1,I2,q1⟩) hf
inductive C9(i:Nat)(te:TE)(ti:C7):gO->St->Hp->Prop
|m x:σ[i]?=!!x->(te σ H λy H1=>ti x y H1 λz H2=>D.nx (σ.set i (!z)) H2)->C9 i te ti D σ H
theorem SX{i:Nat}(hN:X.N.Nodup)(hi:X.N[i]?=!x)(hx:Loc X.env.scope x)(he:PE X e te)(ho:rp X op ti)(hf:X.fn x=true\/X.env.scope.names.lookup x=!.local:=by first | show .inl rfl | show .inr rfl | assumption) :
  PS X (.AugAssign (.Name x eE) op e pos) (C9 i te ti):=by
 intro aa s σ H D I h;let⟨v,e1,h⟩:=h;let⟨m,hn,hl⟩:=I.loc;have rz:oQ X.env.scope x:=by rcases hx with k | k;show .inl k;show .inr (.inl k)
 let⟨u,r,l⟩:=hl i x v hi e1 rz;show wpAny_AugAssign_Name ?_;have go:wpAny (model X.prog X.w) X.A (eval e X.env) (λw ir=>wpAny (model X.prog X.w) X.A (inplaceOp op u w) (λr Ag=>wpAny (model X.prog X.w) X.A (storeName X.env x r) (λ_=>SP X aa D .next) X.xe Ag) X.xe ir) X.xe s:=by
  show aN (he aa s σ H _ I h) λw s1 ⟨y,H1,I1,r1,q1⟩=>?_
  show aN (ho aa s1 σ H1 v y u w _ I1 r r1 q1) λz s2 ⟨zv,H2,I2,r2,q2⟩=>?_
  show C3 I2 hN hi hx r2 (λs3 I3=>⟨_,H2,I3,q2⟩) hf
 rcases l with⟨hk,hm⟩ | ⟨hk,c,hc,jn⟩
 .show wpAny_loadName_local I.ok.kind hk hn hm go
 .rcases hk with hk | hk
  .show wpAny_loadName_cell I.ok.kind hk hc jn go
  .rcases hx with k | k
   .have:X.env.scope.names.lookup x=!.free:=hk;rw[k]at this;cases this
   .have:X.env.scope.names.lookup x=!.free:=hk;rw[k]at this;cases this
def SY(to ti te:TE)(Ah:V->V->Hp->VK->Prop)(Da:C7)(Db:C5):TS:=λD σ H=>to σ H λo H1=>ti σ H1 λi H2=>Ah o i H2 λx H3=>te σ H3 λy H4=>Da x y H4 λz H5=>Db o i z H5 λH6=>D.nx σ H6
def Jq(X:Cx)(t:V->V->Hp->VK->Prop):Prop :=
 ∀(aa:TF) (s:Shared) (σ:St) (H:Hp) (o i:V) (ov iv:Value) (Q:VK),Inv X aa σ H s->RelV o ov->RelV i iv->t o i H Q ->
  wpAny (model X.prog X.w) X.A (getItem ov iv) (EP X aa σ Q) X.xe s
def SZ{Ah:V->V->Hp->VK->Prop}(ho:PE X o to)(hi:PE X i ti)(hg:Jq X Ah)(he:PE X e te)(hp:rp X op Da)(hs:C6 X Db)(ha:∀ ov iv new,augStore i ov iv new=(do holding [new,ov,iv] (setItem ov iv new); release [new,ov,iv] []; pure .next):=by intros; rfl):PS X (.AugAssign (.Subscript o i Ua) op e pos) (SY to ti te Ah Da Db):=by
 intro aa s σ H D I h
 show wpAny_AugAssign_SubscriptAny (aN (ho aa s σ H _ I h) λov s1 ⟨x1,H1,I1,r1,q1⟩=>?_) ha
 show aN (hi aa s1 σ H1 _ I1 q1) λiv s2 ⟨x2,H2,I2,r2,q2⟩=>?_
 show aN (hg aa s2 σ H2 x1 x2 ov iv _ I2 r1 r2 q2) λold s3 ⟨x3,H3,I3,r3,q3⟩=>?_
 show aN (he aa s3 σ H3 _ I3 q3) λv s4 ⟨x4,H4,I4,r4,q4⟩=>?_
 show aN (hp aa s4 σ H4 x3 x4 old v _ I4 r3 r4 q4) λnew s5 ⟨x5,H5,I5,r5,q5⟩=>?_
 show aN (hs aa s5 σ H5 x1 x2 x5 ov iv new _ I5 r1 r2 r5 q5) λ_ s6 ⟨H6,I6,q6⟩=>⟨σ,H6,I6,q6⟩
inductive Dc(f:Int->Int->Int):V->V->Hp->VK->Prop
|m i j:x=.int i->y=.int j->Q (.int (f i j)) H->Dc f x y H Q
def Dd:rp X .Add (Dc λi j=>i+j):=by
 intro aa s σ H x y v u Q I r1 r2 h;let⟨i,j,e1,e2,q⟩:=h;subst e1;subst e2;let⟨t,rfl⟩:=r1;let⟨t',rfl⟩:=r2;show iadd_int ⟨.int _,H,I.tok _,⟨_,O⟩,q⟩
def Ub:rp X .Sub (Dc λi j=>i-j):=by
 intro aa s σ H x y v u Q I r1 r2 h;let⟨i,j,e1,e2,q⟩:=h;subst e1;subst e2;let⟨t,rfl⟩:=r1;let⟨t',rfl⟩:=r2;show isub_int ⟨.int _,H,I.tok _,⟨_,O⟩,q⟩
inductive Jr(c:TT)(tb:TS):gO->St->Hp->Prop
|m (W:Nat->St->Hp->Prop):(∃m,W m σ H)->(∀m σ H,W m σ H->c σ H λb H1=>if b=true then∃N:St->Hp->Prop,(∀ae H',N ae H'->∃m',m'<m/\W m' ae H')/\tb {D with nx:=N,ct:=N,bk:=D.nx} σ H1 else D.nx σ H1)->Jr c tb D σ H
theorem Ai(hp:PassesOwn (model X.prog X.w) X.A X.env X.xe)(hc:PT X c tc)(hb:PSs X body tb):PS X (.While c body [] pos) (Jr tc tb):=by
 intro aa s σ H D I h;let⟨W,⟨m0,w0⟩,turn⟩:=h;show wpAny_While (codeAny_whileLoop (λn s'=>∃ae H',Inv X aa ae H' s'/\W n ae H') ?_ m0 ⟨σ,H,I,w0⟩);ext n s1 ⟨oX,H1,I1,w1⟩;show yX hp (aN (hc aa s1 oX H1 _ I1 (turn n oX H1 w1)) λb s2 ⟨H2,I2,q2⟩=>?_);cases b with
 | true =>
   let⟨N,hN,q2⟩:=q2
   rw[if_pos O]
   show yX hp (aN (hb aa s2 oX H2 _ I2 q2) λf s3 q3=>?_)
   cases f with
   | next =>
     let⟨iT,H3,I3,n3⟩:=q3
     let⟨m',hm,w3⟩:=hN iT H3 n3
     show⟨m',hm,iT,H3,I3,w3⟩
   | cont =>
     let⟨iT,H3,I3,n3⟩:=q3
     let⟨m',hm,w3⟩:=hN iT H3 n3
     show⟨m',hm,iT,H3,I3,w3⟩
   | brk=>show q3
   | ret v=>show q3
 | false =>
   rw[if_neg qZ]
   show uY ⟨oX,H2,I2,q2⟩
end
structure It where
 go:Nat->Hp->Prop
 yld:Nat->Hp->V->Hp->Prop
 stop:Nat->Hp->Prop
def iu(X:Cx)(aa:TF)(H:Hp)(b:Addr):Prop :=
 H b=none/\b≠X.env.locals/\b∉X.fs/\(b∈X.ex\/~~~X.s₀<=b)/\(∀x c,X.env.cells.lookup x=!c->c≠b)/\∀p∈X.pn++aa,p.1≠b
def Inv.fpOk{aa:TF}(I:Inv X aa σ H s)(hb: ~~~s<=b)(hn:H' b=none):iu X aa H' b:=by
 show⟨hn,xV (rE I.lt hb),I.nofs hb,.inr (rF I.sz hb),λx c e z=>?_,λp hp z=>?_⟩
 .let⟨v,q⟩:=I.cell x c e;show absurd (rE q.lt (by rw[z];show hb)) (rP _)
 .show absurd (rE (qL (I.pin p hp).1) (by rw[z];show hb)) (rP _)
structure iU(P:Program)(w:World)(K:W.Frag)(tg:Expr)(J:It)(fp:TQ)(it:Addr)(tn:Nat->Heap->Prop):Prop where
 mem:it∈fp
 obj:∀i h,tn i h->∀b∈fp,∃o,h.get? b=!o/\∀v,o.data≠.cell v
 keep:∀i h h',tn i h->(∀b∈fp,∀o,h.get? b=!o->h'.get? b=!o)->tn i h'
 item:∀(X:Cx),X.prog=P->X.w=w->X.K=K->X.calm=true->∀(i:Nat) (aa:TF) (s:Shared) (σ:St) (H:Hp) (E:TH),Inv X aa σ H s->(∀b∈fp,iu X aa H b)->tn i s.heap->J.go i H ->
  wpAny (model P w) X.A (pyNext (.ref it)) (λr s1=>∃u,r=!u /\
   wpAny (model P w) X.A (letOwnedTupleGo tg (.ref it) u) (λ_ s2=>∃x H',Inv X aa σ H' s2/\RelV x u/\J.yld i H x H'/\tn (i+1) s2.heap/\∀b∈fp,H' b=none) E s1) E s
 done:∀(X:Cx),X.prog=P->X.w=w->X.K=K->X.calm=true->∀(i:Nat) (aa:TF) (s:Shared) (σ:St) (H:Hp) (E:TH),Inv X aa σ H s->(∀b∈fp,iu X aa H b)->tn i s.heap->J.stop i H ->
  wpAny (model P w) X.A (pyNext (.ref it)) (λr s1=>r=none/\Inv X aa σ H s1) E s
 self:∀(A:Around) (i:Nat) (s:Shared) (Q:TH) (E:TH),tn i s.heap->Q (.ref it) s->wpAny (model P w) A (pyIter (.ref it)) Q E s
abbrev TI:=St->Hp->(It->Hp->Prop)->Prop
def De(X:Cx)(aa:TF)(σ:St)(tg:Expr)(R:It->Hp->Prop)(Aj:Value)(s2:Shared):Prop :=
 ∃(it:Addr) (fp:TQ) (tn:Nat->Heap->Prop) (J:It) (H':Hp),Aj=.ref it/\Inv X aa σ H' s2/\iU X.prog X.w X.K tg J fp it tn/\tn 0 s2.heap/\(∀b∈fp,iu X aa H' b)/\R J H'
def PI(X:Cx)(tg iter:Expr)(wi:TI):Prop :=
 ∀(aa:TF) (s:Shared) (σ:St) (H:Hp) (R:It->Hp->Prop),Inv X aa σ H s->wi σ H R ->
  wpAny (model X.prog X.w) X.A (eval iter X.env) (λv s1=>wpAny (model X.prog X.w) X.A (pyIter v) (De X aa σ tg R) X.xe s1) X.xe s
theorem se{E:TH}{n:String}{Q:Unit->Shared->Prop}(ho:s.heap.get? it=!o)(hc:o.cls=.type n)(hd:o.data=.fields vs)(hn:["enumerate", "zip", "dict_itemiterator", "dict_reverseitemiterator", "odict_iterator", "itertools.zip_longest", "itertools.pairwise"].contains n=false)(hQ:Q Unit.unit s):wpAny M A (letOwnedTupleGo tg (.ref it) u) Q E s:=by
 unfold letOwnedTupleGo;cases tg<;>first
  | show qM hQ
  | (cases u<;>first
    | show qM hQ
    | (show qC (wpAny_load ho ?_)
       rw[hc,hd]
       show wpAny M A (if(["enumerate", "zip", "dict_itemiterator", "dict_reverseitemiterator", "odict_iterator", "itertools.zip_longest", "itertools.pairwise"].contains n && vs[0]? == !rawInt _)=true then _ else _) Q E s
       rw[if_neg (by intro h;rw[hn,Bool.false_and]at h;cases h)]
       show qM hQ))
def oZ(K:W.Frag)(a:Addr):It :=
 ⟨λi H=>∃xs x,SqL K H a xs/\xs[i]?=!x,λi H x H'=>H'=H/\∀xs,SqL K H a xs->xs[i]?=!x,λi H=>∃xs,SqL K H a xs/\xs.length<=i⟩
def Df(K:W.Frag)(a:Addr):It :=
 ⟨λi H=>∃xs x,SqT K H a xs/\xs[i]?=!x,λi H x H'=>H'=H/\∀xs,SqT K H a xs->xs[i]?=!x,λi H=>∃xs,SqT K H a xs/\xs.length<=i⟩
def lE(lo:Int)(n:Nat):It:=⟨λi _=>i<n,λi H x H'=>H'=H/\x=.int (lo+i),λi _=>n<=i⟩
def Uc{P:Program}{w:World}{K:W.Frag}{tg:Expr}(a it:Addr):iU P w K tg (oZ K a) [it] it (λi h=>h.IsListIter it a i) where
 mem:=∅
 obj:=λi h st b hb=>by
  have e:b=it:=‹hb›
  subst e;let⟨o,e,c,d⟩:=st;show⟨o,e,λv z=>by rw[d]at z;cases z⟩
 keep:=λi h h' st k=>st.at λo e=>k it ∅ o e
 item:=by
  intro X hP hw hK hc i aa s σ H E I hf st hg;subst hP hw hK;let⟨xs,x,hq,hx⟩:=hg;let⟨ag,rv,p,hz⟩:=I.list hq;let⟨u,hu,ru⟩:=rv.get hx;let⟨f0,f1,f2,f3,f4,f5⟩:=hf it ∅;show wpAny_pyNext_list_item st p.isList (x:=u) ‹hu› λh' cK sb=>?_
  have I1:Inv X aa σ H {s with heap:=h'}:=I.turned (t':=s.toks) (λb o hb e=>(sb.2 b hb).trans e) f0 f1 f3 f4 f5;let⟨o,e,c,d⟩:=id cK;show⟨u,O,se (s:={s with heap:=h'}) e c d {} ⟨x,H,I1,ru,⟨O,λys hy=>by rw[I.list_inj hy hq];show hx⟩,cK,λb hb=>(hf b hb).1⟩⟩
 done:=by
  intro X hP hw hK hc i aa s σ H E I hf st hg;subst hP hw hK;let⟨xs,hq,hx⟩:=hg;let⟨ag,rv,p,hz⟩:=I.list hq;let⟨f0,f1,f2,f3,f4,f5⟩:=hf it ∅;have hl:=rv.length;show wpAny_pyNext_list_end (I.ok.hd hc) st p.isList (by simp;omega) λh' eb=>⟨O,I.turned (t':=s.toks) (λb o hb e=>eb b o hb e) f0 f1 f3 f4 f5⟩
 self:=λ_ _ _ _ _ st h=>wpAny_pyIter_listiter st h
def Ud{P:Program}{w:World}{K:W.Frag}{tg:Expr}(a it:Addr):iU P w K tg (Df K a) [it] it (λi h=>h.IsTupleIter it a i) where
 mem:=∅
 obj:=λi h st b hb=>by
  have e:b=it:=‹hb›
  subst e;let⟨o,e,c,d⟩:=st;show⟨o,e,λv z=>by rw[d]at z;cases z⟩
 keep:=λi h h' st k=>st.at λo e=>k it ∅ o e
 item:=by
  intro X hP hw hK hc i aa s σ H E I hf st hg;subst hP hw hK;let⟨xs,x,hq,hx⟩:=hg;let⟨ag,rv,p,hz⟩:=I.tuple hq;let⟨u,hu,ru⟩:=rv.get hx;let⟨f0,f1,f2,f3,f4,f5⟩:=hf it ∅;show wpAny_pyNext_tuple_item st (show s.heap.IsTuple a ag.toArray from p) (x:=u) ‹hu› λh' cK sb=>?_
  have I1:Inv X aa σ H {s with heap:=h'}:=I.turned (t':=s.toks) (λb o hb e=>(sb.2 b hb).trans e) f0 f1 f3 f4 f5;let⟨o,e,c,d⟩:=id cK;show⟨u,O,se (s:={s with heap:=h'}) e c d {} ⟨x,H,I1,ru,⟨O,λys hy=>by rw[I.tuple_inj hy hq];show hx⟩,cK,λb hb=>(hf b hb).1⟩⟩
 done:=by
  intro X hP hw hK hc i aa s σ H E I hf st hg;subst hP hw hK;let⟨xs,hq,hx⟩:=hg;let⟨ag,rv,p,hz⟩:=I.tuple hq;let⟨f0,f1,f2,f3,f4,f5⟩:=hf it ∅;have hl:=rv.length;show wpAny_pyNext_tuple_end (I.ok.hd hc) st (show s.heap.IsTuple a ag.toArray from p) (by simp;omega) λh' eb=>⟨O,I.turned (t':=s.toks) (λb o hb e=>eb b o hb e) f0 f1 f3 f4 f5⟩
 self:=λ_ _ _ _ _ st h=>wpAny_pyIter_tupleiter st h
theorem Ue{P:Program}{w:World}{K:W.Frag}{tg:Expr}(it:Addr)(lo:Int)(n:Nat):iU P w K tg (lE lo n) [it] it (λi h=>IsRangeIter h it (lo+(i:Nat)*1) ((n:Int)-(i:Nat)) 1) where
 mem:=∅
 obj:=λi h st b hb=>by
  have e:b=it:=‹hb›
  subst e;show⟨_,st,λv z=>by
   have z':Data.fields _=Data.cell v:=z;cases z'⟩
 keep:=λi h h' st k=>k it ∅ _ st
 item:=by
  intro X hP hw hK hc i aa s σ H E I hf st hg;subst hP hw hK;let⟨f0,f1,f2,f3,f4,f5⟩:=hf it ∅;have W:=Walks.range (prog:=X.prog) (w:=X.w) (I.ok.hd hc) it lo 1 n;show W.item i s _ _ hg st λv h' tk hv cK kk=>?_
  let⟨t,rfl⟩:=hv;have I1:Inv X aa σ H {s with heap:=h',toks:=tk}:=I.turned (λb o hb e=>kk b o ‹hb› e) f0 f1 f3 f4 f5;show⟨_,O,se (s:={s with heap:=h',toks:=tk}) (n := "range_iterator") cK O O {} ⟨.int (lo+i),H,I1,⟨t,?_⟩,⟨O,O⟩,cK,λb hb=>(hf b hb).1⟩⟩;rw[Int.mul_one]
 done:=by
  intro X hP hw hK hc i aa s σ H E I hf st hg;subst hP hw hK;let⟨f0,f1,f2,f3,f4,f5⟩:=hf it ∅;show wpAny_pyNext_range_end (I.ok.hd hc) st (by have:n<=i:=hg;omega) λh' eb=>⟨O,I.turned (t':=s.toks) (λb o hb e=>eb b o hb e) f0 f1 f3 f4 f5⟩
 self:=λ_ _ _ _ _ st h=>wpAny_pyIter_rangeiter st h
section
variable{X:Cx}{tg:Expr}
inductive Js(K:W.Frag)(R:It->Hp->Prop):V->Hp->Prop
|m {x H1} a:x=.ref a->(∃xs,SqL K H1 a xs)->R (oZ K a) H1->Js K R x H1
def Uf(K:W.Frag)(tl:TE):TI:=λσ H R=>tl σ H (Js K R)
inductive Jt(K:W.Frag)(R:It->Hp->Prop):V->Hp->Prop
|m {x H1} a:x=.ref a->(∃xs,SqT K H1 a xs)->R (Df K a) H1->Jt K R x H1
def Ug(K:W.Frag)(tl:TE):TI:=λσ H R=>tl σ H (Jt K R)
def a9(hl:PE X l tl):PI X tg l (Uf X.K tl):=by
 intro aa s σ H R I h;show aN (hl aa s σ H _ I h) λv s1 ⟨x,H1,I1,r1,q1⟩=>?_
 let⟨a,e,⟨xs,hq⟩,q⟩:=q1;subst e;cases r1;let⟨ag,rv,p,hz⟩:=I1.list hq;show xJ p.isList ?_;show⟨~~~s1,[~~~s1],_,_,H1,O,I1.kept (t':=s1.toks) λb o e=>qE _ e,Uc a _,⟨_,qT _ O,O,O⟩,λb hb=>?_,q⟩;have e:b= ~~~s1:=‹hb›
 subst e;show I1.fpOk (qF _) (I1.hok.fresh (qF _))
def Uh(hl:PE X l tl):PI X tg l (Ug X.K tl):=by
 intro aa s σ H R I h;show aN (hl aa s σ H _ I h) λv s1 ⟨x,H1,I1,r1,q1⟩=>?_
 let⟨a,e,⟨xs,hq⟩,q⟩:=q1;subst e;cases r1;let⟨ag,rv,p,hz⟩:=I1.tuple hq;show wpAny_pyIter_tuple (show s1.heap.IsTuple a ag.toArray from p) ?_;show⟨~~~s1,[~~~s1],_,_,H1,O,I1.kept (t':=s1.toks) λb o e=>qE _ e,Ud a _,⟨_,qT _ O,O,O⟩,λb hb=>?_,q⟩;have e:b= ~~~s1:=‹hb›
 subst e;show I1.fpOk (qF _) (I1.hok.fresh (qF _))
def Ju{aa:TF}{R:It->Hp->Prop}{E:TH}{lo hi:Int}{tk:Nat}(I:Inv X aa σ H s)(h1:-(2 ^ 62)<=lo)(h2:lo<2 ^ 62)(h3:-(2 ^ 62)<=hi)(h4:hi<2 ^ 62)(q:R (lE lo (hi-lo).toNat) H):wpAny (model X.prog X.w) X.A (pyIter (.ref (~~~s))) (De X aa σ tg R) E {s with heap:=s.heap.push {cls:=.type "range",data:=.fields #[.int lo t,.int hi u,.int 1 v]},toks:=tk}:=by
 show wpAny_pyIter_range (IsRange.new ..) (small_one h1 h2 h3 h4) ?_;have I1:Inv X aa σ H {s with heap:=s.heap.push {cls:=.type "range",data:=.fields #[.int lo t,.int hi u,.int 1 v]},toks:=tk}:=I.kept λb o e=>qE _ e
 show⟨(s.heap.push {cls:=.type "range",data:=.fields #[.int lo t,.int hi u,.int 1 v]}).objs.size,[(s.heap.push {cls:=.type "range",data:=.fields #[.int lo t,.int hi u,.int 1 v]}).objs.size],_,_,H,O,
  I1.kept (t':=tk) λb o e=>qE _ e,Ue _ lo (hi-lo).toNat,?_,λb hb=>?_,q⟩
 .have e1:lo+((0:Nat):Int)*1=lo:=∅
  have e2:(((hi-lo).toNat:Nat):Int)-((0:Nat):Int)=Builtin.Range.rangeSize lo hi 1:=by rw[rangeSize_one];split<;>omega
  show IsRangeIter _ _ (lo+((0:Nat):Int)*1) ((((hi-lo).toNat:Nat):Int)-((0:Nat):Int)) 1;rw[e1,e2];show qT _ O
 .have e:b=(s.heap.push {cls:=.type "range",data:=.fields #[.int lo t,.int hi u,.int 1 v]}).objs.size:=‹hb›
  subst e;show I1.fpOk (qF _) (I1.hok.fresh (qF _))
inductive Jv(R:It->Hp->Prop):List V->Hp->Prop
|m {vs H1} (j:Int):vs=[.int j]->-(2 ^ 62)<=j->j<2 ^ 62->R (lE 0 j.toNat) H1->Jv R vs H1
def Jw(ta:TA):TI:=λσ H R=>ta σ H (Jv R)
inductive Jx(R:It->Hp->Prop):List V->Hp->Prop
|m {vs H1} (i j:Int):vs=[.int i,.int j]->(-(2 ^ 62)<=i/\i<2 ^ 62/\-(2 ^ 62)<=j/\j<2 ^ 62)->R (lE i (j-i).toNat) H1->Jx R vs H1
def Ui(ta:TA):TI:=λσ H R=>ta σ H (Jx R)
theorem Uj(hg:Gl X "range")(hm:X.mg "range" = none)(ha:PA X [a] ta)(hs:starEach [a] X.env=[(false,eval a X.env)]:=by rfl):PI X tg (.Call (.Name "range" p) [a] [] pos) (Jw ta):=by
 intro aa s σ H R I h;show Call_ (iQ I hg hm boot_range (xK (aN (ha pos aa s σ H _ I h) λus s1 ⟨vs,H1,I1,r1,q1⟩=>?_) hs O));let⟨j,e,q1,q2,q⟩:=q1;subst e;cases r1 with
 | cons r rr =>
   cases rr
   let⟨t,rfl⟩:=r
   show call_range_1 (Ju I1 () () q1 q2 ‹q›)
theorem Ak(hg:Gl X "range")(hm:X.mg "range" = none)(ha:PA X [a,b] ta)(hs:starEach [a,b] X.env=[(false,eval a X.env),(false,eval b X.env)]:=by rfl)(fJ:starEach [b] X.env=[(false,eval b X.env)]:=by rfl) :
  PI X tg (.Call (.Name "range" p) [a,b] [] pos) (Ui ta):=by
 intro aa s σ H R I h;show Call_ (iQ I hg hm boot_range (xK (aN (ha pos aa s σ H _ I h) λus s1 ⟨vs,H1,I1,r1,q1⟩=>?_) (by rw[hs,fJ]) (by rw[fJ];rfl)));let⟨i,j,e,⟨q1,q2,q3,q4⟩,q⟩:=q1;subst e;cases r1 with
 | cons r rr =>
   cases rr with
   | cons r' rr =>
     cases rr
     let⟨t,rfl⟩:=r
     let⟨t',rfl⟩:=r'
     show call_range_2 (Ju I1 q1 q2 q3 q4 q)
def Jy(wi:TI)(g:TG)(tb:TS):TS:=λD σ H=>wi σ H λJ H1=>∃W:Nat->Nat->St->Hp->Prop,(∃m,W 0 m σ H1)/\∀i m σ H,W i m σ H ->
 (J.stop i H/\D.nx σ H)\/(J.go i H/\∃N:St->Hp->Prop,(∀ae H',N ae H'->∃m',m'<m/\W (i+1) m' ae H')/\∀x H',J.yld i H x H'->g x σ H' λaV H2=>tb {D with nx:=N,ct:=N,bk:=D.nx} aV H2)
def mU(fp:TQ)(h:Heap):TF:=fp.filterMap λb=>(h.get? b).map λo=>(b,o)
def o3(hb:b∈fp)(e:h.get? b=!o):(b,o)∈mU fp h:=yL.mpr ⟨b,hb,by rw[e];rfl⟩
theorem Jz{p:Addr×Obj}(hp:p∈mU fp h):p.1∈fp/\h.get? p.1=!p.2:=by
 let⟨b,hb,e⟩:=yL.mp hp;cases q:h.get? b with
 | none=>rw[q]at e;cases e
 | some o =>
   rw[q]at e
   have e':(b,o)=p:=rD e
   subst e'
   show⟨hb,q⟩
def Inv.pinned{aa:TF}(I:Inv X aa σ H s)(hf:∀b∈fp,iu X aa H b)(ho:∀b∈fp,∃o,s.heap.get? b=!o/\∀v,o.data≠.cell v):Inv X (aa++mU fp s.heap) σ H s :=
 I.pins_of λp hp=>(rG.mp hp).elim (λz=>I.pin p (rO _ z)) λz=>by
  let⟨hb,e⟩:=Jz z;let⟨f0,f1,f2,_⟩:=hf p.1 hb;let⟨o,e',d⟩:=ho p.1 hb;rw[e]at e';cases e';show⟨e,f0,f1,f2,d⟩
def Inv.unpinned{aa pl:TF}(I:Inv X (aa++pl) σ H s):Inv X aa σ H s:=I.pins_of λp hp=>I.pin p (rO _ (uG _ hp))
theorem Uk(hp:PassesOwn (model X.prog X.w) X.A X.env X.xe)(hc:X.calm=true)(hi:PI X tg iter wi)(hg:PG X tg g)(hb:PSs X body tb)(hs:∀x,foldedSetIterable iter X.env x=pure x:=by intro _;rfl):PS X (.For tg iter body [] pos) (Jy wi g tb):=by
 intro aa s σ H D I h;show wpAny_For (aN (hi aa s σ H _ I h) λv s1 h1=>aN h1 λAj s2 h2=>?_) hs;let⟨it,fp,tn,J,H2,e,I2,T,gP,f2,W,⟨m0,w0⟩,turn⟩:=h2;subst e;have mV:∀{H':Hp},(∀b∈fp,H' b=none)->∀b∈fp,iu X aa H' b:=λhn b hb=>⟨hn b hb,(f2 b hb).2⟩
 show codeAny_forLoop_any (λn s'=>∃i ae H',Inv X aa ae H' s'/\tn i s'.heap/\(∀b∈fp,H' b=none)/\W i n ae H') ?_ m0 ⟨0,σ,H2,I2,gP,λb hb=>(f2 b hb).1,w0⟩;ext n s3 ⟨i,iT,H3,I3,Al,JA,w3⟩;rcases turn i n iT H3 w3 with⟨stop,qn⟩ | ⟨go,N,hN,step⟩
 .show yX hp (aN (T.done X O O O hc i aa s3 iT H3 X.xe I3 (mV JA) Al stop) λr s4 ⟨hr,I4⟩=>?_);subst hr;show uY ⟨iT,H3,I4,qn⟩
 .show yX hp (aN (T.item X O O O hc i aa s3 iT H3 X.xe I3 (mV JA) Al go) λr s4 ⟨u,hr,h4⟩=>?_);subst hr;show yX hp (aN h4 λ_ s5 ⟨x,H5,I5,r5,y5,Dg,Ul⟩=>?_);have Um:=I5.pinned (mV Ul) (T.obj _ _ Dg);show yX hp (aN (hg _ s5 iT H5 x u _ Um r5 (step x H5 y5)) λ_ s6 ⟨Uo,H6,I6,q6⟩=>?_);show yX hp (aN (hb _ s6 Uo H6 _ I6 q6) λf s7 q7=>?_);have again:∀{dP:St} {H7:Hp},Inv X (aa++mU fp s5.heap) dP H7 s7->N dP H7->∃m,m<n/\∃i ae H',Inv X aa ae H' s7/\tn i s7.heap/\(∀b∈fp,H' b=none)/\W i m ae H':=λ{dP H7} I7 n7=>by
   let⟨m',hm,w7⟩:=hN dP H7 n7;show⟨m',hm,i+1,dP,H7,I7.unpinned,T.keep _ _ _ Dg λb hb o e=>(I7.pin (b,o) (rO _ (rO _ (o3 hb e)))).1,λb hb=>?_,w7⟩;let⟨o,e,d⟩:=T.obj _ _ Dg b hb;show(I7.pin (b,o) (rO _ (rO _ (o3 hb e)))).2.1
  cases f with
  | next=>let⟨dP,H7,I7,n7⟩:=q7;show again I7 n7
  | cont=>let⟨dP,H7,I7,n7⟩:=q7;show again I7 n7
  | brk=>let⟨dP,H7,I7,q7⟩:=q7;show⟨dP,H7,I7.unpinned,q7⟩
  | ret v=>let⟨x7,dP,H7,I7,r7,q7⟩:=q7;show⟨x7,dP,H7,I7.unpinned,r7,q7⟩
end
theorem iV{K:W.Frag}{a:Addr}{xs:List V}{g:TG}{tb:TS}{D:gO}{σ:St}{H:Hp}(Pv:Nat->St->Hp->Prop)(h0:Pv 0 σ H)(hl:∀i σ H,i<=xs.length->Pv i σ H->SqL K H a xs)(hs:∀i x σ H,xs[i]?=!x->Pv i σ H->g x σ H λaV H2=>tb {D with nx:=Pv (i+1),ct:=Pv (i+1),bk:=D.nx} aV H2)(hd:∀σ H,Pv xs.length σ H->D.nx σ H) :
  ∃W:Nat->Nat->St->Hp->Prop,(∃m,W 0 m σ H)/\∀i m σ H,W i m σ H ->
   ((oZ K a).stop i H/\D.nx σ H)\/((oZ K a).go i H/\∃N:St->Hp->Prop,(∀ae H',N ae H'->∃m',m'<m/\W (i+1) m' ae H')/\∀x H',(oZ K a).yld i H x H'->g x σ H' λaV H2=>tb {D with nx:=N,ct:=N,bk:=D.nx} aV H2):=by
 show⟨λi m σ H=>m=xs.length-i/\i<=xs.length/\Pv i σ H,⟨xs.length,∅,rS _,h0⟩,?_⟩;ext i m σ H ⟨rfl,hi,p⟩;have q:=hl i σ H hi p
 by_cases aX:i<xs.length
 .show .inr ⟨⟨xs,xs[i],q,by simp[aX]⟩,Pv (i+1),λae H' p'=>⟨xs.length-(i+1),(),O,aX,p'⟩,λx H' y=>?_⟩;let⟨e,y⟩:=y;subst e;show hs i x σ _ (y xs q) p
 .have e:i=xs.length:=()
  subst e;show .inl ⟨⟨xs,q,qF _⟩,hd σ H p⟩
theorem gg{lo:Int}{n:Nat}{g:TG}{tb:TS}{D:gO}{σ:St}{H:Hp}(Pv:Nat->St->Hp->Prop)(h0:Pv 0 σ H)(hs:∀i σ H,i<n->Pv i σ H->g (.int (lo+i)) σ H λaV H2=>tb {D with nx:=Pv (i+1),ct:=Pv (i+1),bk:=D.nx} aV H2)(hd:∀σ H,Pv n σ H->D.nx σ H) :
  ∃W:Nat->Nat->St->Hp->Prop,(∃m,W 0 m σ H)/\∀i m σ H,W i m σ H ->
   ((lE lo n).stop i H/\D.nx σ H)\/((lE lo n).go i H/\∃N:St->Hp->Prop,(∀ae H',N ae H'->∃m',m'<m/\W (i+1) m' ae H')/\∀x H',(lE lo n).yld i H x H'->g x σ H' λaV H2=>tb {D with nx:=N,ct:=N,bk:=D.nx} aV H2):=by
 show⟨λi m σ H=>m=n-i/\i<=n/\Pv i σ H,⟨n,∅,rS _,h0⟩,?_⟩;ext i m σ H ⟨rfl,hi,p⟩
 by_cases aX:i<n
 .show .inr ⟨aX,Pv (i+1),λae H' p'=>⟨n-(i+1),(),O,aX,p'⟩,λx H' y=>?_⟩;let⟨e,y⟩:=y;subst e y;show hs i σ _ aX p
 .have e:i=n:=()
  subst e;show .inl ⟨qF _,hd σ H p⟩
abbrev R2:=V->V->Hp->VK->Prop
def bQ(X:Cx)(f:Value->Value->Sem Value)(r:R2):Prop :=
 ∀(aa:TF) (s:Shared) (σ:St) (H:Hp) (x y:V) (v u:Value) (Q:VK),Inv X aa σ H s->RelV x v->RelV y u->r x y H Q ->
  wpAny (model X.prog X.w) X.A (f v u) (EP X aa σ Q) X.xe s
def Dh(X:Cx)(f:Value->Sem Value)(r:V->Hp->VK->Prop):Prop :=
 ∀(aa:TF) (s:Shared) (σ:St) (H:Hp) (x:V) (v:Value) (Q:VK),Inv X aa σ H s->RelV x v->r x H Q ->
  wpAny (model X.prog X.w) X.A (f v) (EP X aa σ Q) X.xe s
def dy(X:Cx)(f:Value)(r:List V->Hp->VK->Prop):Prop :=
 ∀(aa:TF) (s:Shared) (σ:St) (H:Hp) (xs:List V) (us:TU) (Q:VK),Inv X aa σ H s->Vals xs us->r xs H Q ->
  wpAny (model X.prog X.w) X.A (call f us) (EP X aa σ Q) X.xe s
def eF(r:R2)(ta tb:TE):TE:=λσ H Q=>ta σ H λx H1=>tb σ H1 λy H2=>r x y H2 Q
def Uq(r:V->Hp->VK->Prop)(ta:TE):TE:=λσ H Q=>ta σ H λx H1=>r x H1 Q
inductive rI(C:Int->Int->Prop)(g:Int->Int->V):V->V->Hp->VK->Prop
|m i j:x=.int i->y=.int j->C i j->Q (g i j) H->rI C g x y H Q
inductive iW(g:Int->Int->V):V->V->Hp->VK->Prop
|m i j:x=.int i->y=.int j->Q (g i j) H->iW g x y H Q
inductive rU(g:Int->V):V->Hp->VK->Prop
|m i:x=.int i->Q (g i) H->rU g x H Q
section
variable{X:Cx}{a b c:Expr}{ta tb tc:TE}{pos:Pos}
def Di(ha:PE X a ta)(hb:PE X b tb){aa:TF}{R:V->V->Hp->Prop}(I:Inv X aa σ H s)(h:ta σ H λx H1=>tb σ H1 λy H2=>R x y H2){Q:TH}{f:Value->Value->Sem Value}(hf:∀v u s2 x y H2,Inv X aa σ H2 s2->RelV x v->RelV y u->R x y H2->wpAny (model X.prog X.w) X.A (f v u) Q X.xe s2) :
  wpAny (model X.prog X.w) X.A (eval a X.env) (λv a6=>wpAny (model X.prog X.w) X.A (eval b X.env) (λu ir=>wpAny (model X.prog X.w) X.A (f v u) Q X.xe ir) X.xe a6) X.xe s:=by
 show aN (ha aa s σ H _ I h) λv s1 ⟨x,H1,I1,r1,q1⟩=>?_
 show aN (hb aa s1 σ H1 _ I1 q1) λu s2 ⟨y,H2,I2,r2,q2⟩=>?_
 show hf v u s2 x y H2 I2 r1 r2 q2
def aH(ho:bQ X (binaryOp op) r)(ha:PE X a ta)(hb:PE X b tb):PE X (.BinOp a op b pos) (eF r ta tb):=by
 intro aa s σ H Q I h;show wpAny_BinOp (Di ha hb I h λv u s2 x y H2 I2 rx ry q=>ho aa s2 σ H2 x y v u Q I2 rx ry q)
def dH{r:V->Hp->VK->Prop}(ho:Dh X (unaryOp op) r)(ha:PE X a ta):PE X (.UnaryOp op a pos) (Uq r ta):=by
 intro aa s σ H Q I h;show UnaryOp_ (aN (ha aa s σ H _ I h) λv s1 ⟨x,H1,I1,r1,q1⟩=>ho aa s1 σ H1 x v Q I1 r1 q1)
def si{f:Value->Value->Sem Value}{C:Int->Int->Prop}{g:Int->Int->Int}(rule:∀(i j:Int) (t u:Tok) (s:Shared) (Q:TH) (E:TH),C i j->Q (.int (g i j) s.toks) {s with toks:=s.toks+1}->wpAny (model X.prog X.w) X.A (f (.int i t) (.int j u)) Q E s) :
  bQ X f (rI C λi j=>.int (g i j)):=by
 intro aa s σ H x y v u Q I rx ry h;let⟨i,j,rfl,rfl,hc,q⟩:=h;let⟨t,rfl⟩:=rx;let⟨t',rfl⟩:=ry;show rule i j t t' s _ _ hc ⟨.int (g i j),H,I.tok _,⟨_,O⟩,q⟩
def JB{f:Value->Value->Sem Value}{g:Int->Int->Int}(rule:∀(i j:Int) (t u:Tok) (s:Shared) (Q:TH) (E:TH),Q (.int (g i j) s.toks) {s with toks:=s.toks+1}->wpAny (model X.prog X.w) X.A (f (.int i t) (.int j u)) Q E s) :
  bQ X f (iW λi j=>.int (g i j)):=by
 intro aa s σ H x y v u Q I rx ry h;let⟨i,j,rfl,rfl,q⟩:=h;let⟨t,rfl⟩:=rx;let⟨t',rfl⟩:=ry;show rule i j t t' s _ _ ⟨.int (g i j),H,I.tok _,⟨_,O⟩,q⟩
def Am{f:Value->Value->Sem Value}{g:Int->Int->Bool}(rule:∀(i j:Int) (t u:Tok) (s:Shared) (Q:TH) (E:TH),Q (.bool (g i j)) s->wpAny (model X.prog X.w) X.A (f (.int i t) (.int j u)) Q E s) :
  bQ X f (iW λi j=>.bl (g i j)):=by
 intro aa s σ H x y v u Q I rx ry h;let⟨i,j,rfl,rfl,q⟩:=h;let⟨t,rfl⟩:=rx;let⟨t',rfl⟩:=ry;show rule i j t t' s _ _ ⟨.bl (g i j),H,I,O,q⟩
def Ur(i j:Int):=0<j/\j<1073741824
def CMul(i j:Int):=(-(2 ^ 64)<i/\i<2 ^ 64)\/(-(2 ^ 64)<j/\j<2 ^ 64)
def CMul.ok{i j:Int}(h:CMul i j):IntMulOk i j:=by
 rcases h with⟨h1,h2⟩ | ⟨h1,h2⟩
 .show .of_left (intBits_le_64 h1 h2)
 .show .of_right (intBits_le_64 h1 h2)
def bc:bQ X (binaryOp .Add) (iW λi j=>.int (i+j)):=JB λ_ _ _ _ _ _ _ q=>add_int q
def dQ:bQ X (binaryOp .Sub) (iW λi j=>.int (i-j)):=JB λ_ _ _ _ _ _ _ q=>sub_int q
def fK:bQ X (binaryOp .Mult) (rI CMul λi j=>.int (i*j)):=si λ_ _ _ _ _ _ _ hc q=>mul_int q hc.ok
def Dj:bQ X (binaryOp .FloorDiv) (rI Ur λi j=>.int (i / j)):=si λi j _ _ _ _ _ hc q=>by
 have h1:(0:Int)<j:=hc.1;have h2:j<1073741824:=hc.2;show floordiv_int () (by rw[Int.fdiv_eq_ediv_of_nonneg i ()];show q) (.inl (PyProof.noPylong_small ()))
def lH:bQ X (binaryOp .Mod) (rI (λ_ j=>0<j) λi j=>.int (i % j)):=si λi j _ _ _ _ _ hc q=>by
 have h1:(0:Int)<j:=hc;show mod_int' () (by rw[Int.fmod_eq_emod_of_nonneg i ()];show q)
def Us{f:Value->Sem Value}{g:Int->Int}(rule:∀(i:Int) (t:Tok) (s:Shared) (Q:TH) (E:TH),Q (.int (g i) s.toks) {s with toks:=s.toks+1}->wpAny (model X.prog X.w) X.A (f (.int i t)) Q E s) :
  Dh X f (rU λi=>.int (g i)):=by
 intro aa s σ H x v Q I rx h;let⟨i,rfl,q⟩:=h;let⟨t,rfl⟩:=rx;show rule i t s _ _ ⟨.int (g i),H,I.tok _,⟨_,O⟩,q⟩
def dI:Dh X (unaryOp .USub) (rU λi=>.int (-i)):=Us λ_ _ _ _ _ q=>neg_int q
def JC:V->V->Bool
 | .non,.non=>true | .non,.int _=>true | .int _,.non=>true | .non,.bl _=>true | .bl _,.non=>true | .non,.str _=>true | .str _,.non=>true
 | .int _,.int _=>true | .bl _,.bl _=>true | .str _,.str _=>true | .byt _,.byt _=>true
 | .int _,.str _=>true | .str _,.int _=>true | .bl _,.str _=>true | .str _,.bl _=>true
 | _,_=>false
def Ut:R2:=λx y H Q=>JC x y=true/\Q (.bl (decide (x=y))) H
def Uu:R2:=λx y H Q=>JC x y=true/\Q (.bl ((Bool.not (decide (x=y))))) H
def JD{i j:Int}:decide (V.int i=V.int j)=(i == j):=by
 rw[yI];simp
def JE{i j:Bool}:decide (V.bl i=V.bl j)=(i == j):=by
 rw[yI];simp
def JF:decide (V.str i=V.str j)=(i == j):=by
 rw[yI];simp
def JG:decide (V.byt i=V.byt j)=(i.toList == j.toList):=by
 rw[yI];cases i;cases j;simp
def bR{aa:TF}{k k':Bool}(I:Inv X aa σ H s)(q:Q (.bl k) H)(e:k=k'):EP X aa σ Q (.bool k') s:=by
 subst e;show⟨.bl k,H,I,O,q⟩
theorem bq:bQ X (compareOp .Eq) Ut:=by
 intro aa s σ H x y v u Q I rx ry h;let⟨hs,q⟩:=h;cases x with
 | non =>
   cases rx
   cases y with
   | non=>cases ry;show EqNone.eq_none_none (bR I q ∅)
   | bl j=>cases ry;show EqNone.eq_none_bool (bR I q ∅)
   | int j=>let⟨t',rfl⟩:=ry;show EqNone.eq_none_int (bR I q ∅)
   | str j=>let⟨t',rfl⟩:=ry;show EqNone.eq_none_str (bR I q ∅)
   | _=>show absurd (show false=true from hs) qZ
 | bl i =>
   cases rx
   cases y with
   | non=>cases ry;show EqNone.eq_bool_none (bR I q ∅)
   | bl j=>cases ry;show eq_bool (bR I q JE)
   | str j=>let⟨t',rfl⟩:=ry;show EqMixed.eq_bool_str (bR I q ∅)
   | _=>show absurd (show false=true from hs) qZ
 | int i =>
   let⟨t,rfl⟩:=rx
   cases y with
   | non=>cases ry;show EqNone.eq_int_none (bR I q ∅)
   | int j=>let⟨t',rfl⟩:=ry;show eq_int (bR I q JD)
   | str j=>let⟨t',rfl⟩:=ry;show EqMixed.eq_int_str (bR I q ∅)
   | _=>show absurd (show false=true from hs) qZ
 | str i =>
   let⟨t,rfl⟩:=rx
   cases y with
   | non=>cases ry;show EqNone.eq_str_none (bR I q ∅)
   | bl j=>cases ry;show EqMixed.eq_str_bool (bR I q ∅)
   | int j=>let⟨t',rfl⟩:=ry;show EqMixed.eq_str_int (bR I q ∅)
   | str j=>let⟨t',rfl⟩:=ry;show eq_str (bR I q JF)
   | _=>show absurd (show false=true from hs) qZ
 | byt i =>
   let⟨t,rfl⟩:=rx
   cases y with
   | byt j=>let⟨t',rfl⟩:=ry;show W.eq_bytes (bR I q JG)
   | _=>show absurd (show false=true from hs) qZ
 | _=>cases y<;>show absurd (show false=true from hs) qZ
theorem iw:bQ X (compareOp .NotEq) Uu:=by
 intro aa s σ H x y v u Q I rx ry h;let⟨hs,q⟩:=h;cases x with
 | non =>
   cases rx
   cases y with
   | non=>cases ry;show EqNone.ne_none_none (bR I q ∅)
   | bl j=>cases ry;show EqNone.ne_none_bool (bR I q ∅)
   | int j=>let⟨t',rfl⟩:=ry;show EqNone.ne_none_int (bR I q ∅)
   | str j=>let⟨t',rfl⟩:=ry;show EqNone.ne_none_str (bR I q ∅)
   | _=>show absurd (show false=true from hs) qZ
 | bl i =>
   cases rx
   cases y with
   | non=>cases ry;show EqNone.ne_bool_none (bR I q ∅)
   | bl j=>cases ry;show ne_bool (bR I q (xC not JE))
   | str j=>let⟨t',rfl⟩:=ry;show EqMixed.ne_bool_str (bR I q ∅)
   | _=>show absurd (show false=true from hs) qZ
 | int i =>
   let⟨t,rfl⟩:=rx
   cases y with
   | non=>cases ry;show EqNone.ne_int_none (bR I q ∅)
   | int j=>let⟨t',rfl⟩:=ry;show ne_int (bR I q (xC not JD))
   | str j=>let⟨t',rfl⟩:=ry;show EqMixed.ne_int_str (bR I q ∅)
   | _=>show absurd (show false=true from hs) qZ
 | str i =>
   let⟨t,rfl⟩:=rx
   cases y with
   | non=>cases ry;show EqNone.ne_str_none (bR I q ∅)
   | bl j=>cases ry;show EqMixed.ne_str_bool (bR I q ∅)
   | int j=>let⟨t',rfl⟩:=ry;show EqMixed.ne_str_int (bR I q ∅)
   | str j=>let⟨t',rfl⟩:=ry;show ne_str (bR I q (xC not JF))
   | _=>show absurd (show false=true from hs) qZ
 | byt i =>
   let⟨t,rfl⟩:=rx
   cases y with
   | byt j=>let⟨t',rfl⟩:=ry;show W.ne_bytes (bR I q (xC not JG))
   | _=>show absurd (show false=true from hs) qZ
 | _=>cases y<;>show absurd (show false=true from hs) qZ
def lI:bQ X (compareOp .Lt) (iW λi j=>.bl (decide (i<j))):=Am λ_ _ _ _ _ _ _ q=>lt_int q
def Dk:bQ X (compareOp .LtE) (iW λi j=>.bl (decide (i<=j))):=Am λ_ _ _ _ _ _ _ q=>le_int q
def sj:bQ X (compareOp .Gt) (iW λi j=>.bl (decide (j<i))):=Am λ_ _ _ _ _ _ _ q=>gt_int q
def JH:bQ X (compareOp .GtE) (iW λi j=>.bl (decide (j<=i))):=Am λ_ _ _ _ _ _ _ q=>ge_int q
def JI(b:Expr)(h:op≠.In:=by decide)(h2:op≠.NotIn:=by decide):behindInMarks op b=false:=by
 have e1:(op == CmpOp.In)=false:=by cases op<;>first | rfl | show absurd rfl h
 have e2:(op == CmpOp.NotIn)=false:=by cases op<;>first | rfl | show absurd rfl h2
 cases b<;>simp[behindInMarks,e1,e2]
def Uv(ho:bQ X (compareOp op) r)(ha:PE X a ta)(hb:PE X b tb)(hm:behindInMarks op b=false):PE X (.Compare a [op] [b] pos) (eF r ta tb):=by
 intro aa s σ H Q I h;show wpAny_Compare1 (Di ha hb I h λv u s2 x y H2 I2 rx ry q=>ho aa s2 σ H2 x y v u Q I2 rx ry q) hm
inductive JJ(Q:Bool->Hp->Prop):V->Hp->Prop
|m {x H'} k:x=.bl k->Q k H'->JJ Q x H'
def sn(t:TE):TT:=λσ H Q=>t σ H (JJ Q)
def Uw(ho:bQ X (compareOp op) r)(ha:PE X a ta)(hb:PE X b tb)(hm:behindInMarks op b=false):PT X (.Compare a [op] [b] pos) (sn (eF r ta tb)):=by
 intro aa s σ H Q I h;show wpAny_isTrue_Compare1 (aN (ha aa s σ H _ I h) λv s1 ⟨x,H1,I1,r1,q1⟩=>aN (hb aa s1 σ H1 _ I1 q1) λu s2 ⟨y,H2,I2,r2,q2⟩ =>
  aN (ho aa s2 σ H2 x y v u _ I2 r1 r2 q2) λc s3 ⟨z,H3,I3,r3,k,e,q3⟩=>?_) hm
 subst e;cases r3;show xX ⟨H3,I3,q3⟩
def Uy(r r':R2)(ta tb tc:TE):TE:=λσ H Q=>ta σ H λx H1=>tb σ H1 λy H2=>r x y H2 λz H3=>∃k,z=.bl k /\
 (if k=true then tc σ H3 λw' H4=>r' y w' H4 Q else Q (.bl false) H3)
theorem Uz(ho:bQ X (compareOp op) r)(jT:bQ X (compareOp JK) r')(ha:PE X a ta)(hb:PE X b tb)(hc:PE X c tc)(hm:lastMarks [op,JK] [b,c]=false:=by with_unfolding_all rfl):PT X (.Compare a [op,JK] [b,c] pos) (sn (Uy r r' ta tb tc)):=by
 intro aa s σ H Q I h;show isTrue_chain (aN (ha aa s σ H _ I h) λv s1 ⟨x,H1,I1,r1,q1⟩=>test_link (aN (hb aa s1 σ H1 _ I1 q1) λu s2 ⟨y,H2,I2,r2,q2⟩ =>
  aN (ho aa s2 σ H2 x y v u _ I2 r1 r2 q2) λd s3 ⟨z,H3,I3,r3,k,e,q3⟩=>?_)) hm
 subst e;cases r3;show xX ?_;cases k with
 | false =>
   let⟨k',e',q'⟩:=q3
   cases e'
   show ite_ff ⟨H3,I3,q'⟩
 | true =>
   show ite_tt (test_last (aN (hc aa s3 σ H3 _ I3 q3) λw' s4 ⟨z',H4,I4,r4,q4⟩=>aN (jT aa s4 σ H4 y z' u w' _ I4 r2 r4 q4) λd' s5 ⟨z2,H5,I5,r5,k2,e2,q5⟩=>?_))
   subst e2
   cases r5
   show xX ⟨H5,I5,q5⟩
def o7:(sizeLine:Nat)<2 ^ 63:=by rw[sizeLine_eq];decide
def Dl:bQ X (binaryOp .Add) (λx y H Q=>∃i j,x=.str i/\y=.str j/\i.length+j.length<=sizeLine/\Q (.str (i++j)) H):=by
 intro aa s σ H x y v u Q I rx ry h;let⟨i,j,rfl,rfl,hz,q⟩:=h;let⟨t,rfl⟩:=rx;let⟨t',rfl⟩:=ry;show add_str (λt' tk=>⟨.str (i++j),H,I.tok _,⟨_,O⟩,q⟩) hz
def vals1(r:Vals [x] us):∃u,us=[u]/\RelV x u:=by
 cases r with
 | cons r1 r2=>cases r2;show⟨_,O,r1⟩
theorem vals2(r:Vals [x,y] us):∃u w',us=[u,w']/\RelV x u/\RelV y w':=by
 cases r with
 | cons r1 r2 =>
   cases r2 with
   | cons r3 r4=>cases r4;show⟨_,_,O,r1,r3⟩
def mW(hc:X.calm=true):dy X (.builtin "max") (λxs H Q=>∃i j,xs=[.int i,.int j]/\Q (.int (if j>i then j else i)) H):=by
 intro aa s σ H xs us Q I r h;let⟨i,j,rfl,q⟩:=h;let⟨u,w',rfl,⟨t,rfl⟩,⟨t',rfl⟩⟩:=vals2 r;show max_two_ints (I.ok.hd hc) λh' tk k=>⟨_,H,I.kept k,?_,q⟩
 by_cases hj:j>i
 .rw[if_pos hj,if_pos hj];show⟨_,O⟩
 .rw[if_neg hj,if_neg hj];show⟨_,O⟩
def sq(hc:X.calm=true):dy X (.builtin "min") (λxs H Q=>∃i j,xs=[.int i,.int j]/\Q (.int (if j<i then j else i)) H):=by
 intro aa s σ H xs us Q I r h;let⟨i,j,rfl,q⟩:=h;let⟨u,w',rfl,⟨t,rfl⟩,⟨t',rfl⟩⟩:=vals2 r;show min_two_ints (I.ok.hd hc) λh' tk k=>⟨_,H,I.kept k,?_,q⟩
 by_cases hj:j<i
 .rw[if_pos hj,if_pos hj];show⟨_,O⟩
 .rw[if_neg hj,if_neg hj];show⟨_,O⟩
def sr:dy X (.type "int") (λxs H Q=>(∃i,xs=[.int i]/\Q (.int i) H)\/∃k,xs=[.bl k]/\Q (.int (if k then 1 else 0)) H):=by
 intro aa s σ H xs us Q I r h;rcases h with⟨i,rfl,q⟩ | ⟨k,rfl,q⟩
 .let⟨u,rfl,t,rfl⟩:=vals1 r;show call_int_int ⟨.int i,H,I,⟨_,O⟩,q⟩
 .let⟨u,rfl,r1⟩:=vals1 r;cases r1;show call_int_bool ⟨.int (if k then 1 else 0),H,I.tok _,⟨_,O⟩,q⟩
def UA:dy X (.type "str") (λxs H Q=>∃i,xs=[.int i]/\i.natAbs.log2<1920/\Q (.str (toString i)) H):=by
 intro aa s σ H xs us Q I r h;let⟨i,rfl,hz,q⟩:=h;let⟨u,rfl,t,rfl⟩:=vals1 r;show P.str_of_int hz ⟨.str _,H,I.tok _,⟨_,O⟩,q⟩
end
structure ObjM(h:Heap)(x dx C:Addr)(mA:TJ):Prop where
 obj:h.get? x=!W.instObj C dx
 ns:h.Ns1 dx mA
 ne:dx≠x
theorem UC{h:Heap}{dx:Addr}{mA:TJ}(n:h.Ns1 dx mA):∃od,h.get? dx=!od/\∀name,W.lookIn name od=!mA name:=by
 let⟨o,es,ep,ho,hd,hk,_,hm⟩:=n;show⟨o,ho,λname=>?_⟩;have e:=hm name;unfold nsFind findBy at e;rw[<-Array.find?_toList]at e;unfold W.lookIn;rw[hd];dsimp only
 split
 .rename_i y q;rw[q]at e;show xC some e
 .rename_i q;rw[q]at e;have a:es.toList.any (·.refKey)=false:=by
   rw[List.any_eq_false];intro y hy;let⟨z,t,su⟩:=hk y (Array.mem_toList_iff.mp hy);simp[DictEntry.refKey,su]
  have a':¬es.toList.any (·.refKey)=true:=by rw[a];show qZ
  rw[if_neg a'];show xC some e
def ObjM.look{mA:TJ}(I:ObjM h x dx C mA):∃od,W.InstAt h x (W.instObj C dx) C (!od)/\∀name,W.lookIn name od=!mA name :=
 let⟨od,ho,hl⟩:=UC I.ns
 ⟨od,⟨I.obj,O,O,ho⟩,hl⟩
def RelO.some_of(r:RelO (!v) o):∃u,o=!u/\RelV v u:=by
 cases o with
 | none=>show(show False from r).elim
 | some u=>show⟨u,O,r⟩
section
variable{P:Program}{w:World}{H H':Hp}{h h':Heap}{a C dx:Addr}{fs Sn:List (Str×V)}
def UD(hok:HOk P w H h)(e:H a=!.ins C dx fs):∃mA,ObjM h a dx C mA/\(∀f,RelO (fs.lookup f) (mA f))/\Within mA (fs.map (·.1))/\fs.length<=1000/\H dx=!.own a:=by
 let⟨d,z,ne,ob,mA,n,r,q⟩:=(show ObjOk P w H h a (.ins C dx fs)from hok a _ e);show⟨mA,⟨ob,n,ne⟩,r,q,z,d⟩
end
structure Cls(K:W.Frag)(C:Addr):Prop where
 pg:W.plainGet K C Str.empty=true
 hd:W.hasDictIn K C=true
 po:W.plainOver K C=true
 sa:W.findIn K (.ref C) "__setattr__" = !!.builtin "object.__setattr__"
def Cls.get{K:W.Frag}{C:Addr}(c:Cls K C)(f:Str):W.plainGet K C f=true:=c.pg
section
variable{X:Cx}{aa:TF}{σ:St}{H:Hp}{s:Shared}{A:Around}{E:TH}{Q:TH}{c:Value}{b:Bool}
inductive gh(K:W.Frag)(H:Hp):V->Value->Prop where
 | non:gh K H .non (.type "NoneType")
 | bl (x:Bool):gh K H (.bl x) (.type "bool")
 | int (i:Int):gh K H (.int i) (.type "int")
 | str (x:Str):gh K H (.str x) (.type "str")
 | flt (x:UInt64):gh K H (.flt x) (.type "float")
 | lst {a:Addr} {xs:List V} (e:H a=!.lst xs):gh K H (.ref a) (.type "list")
 | frz {a:Addr} {o:Obj} {xs:List V} (e:H a=!.frz o (.lst xs)):gh K H (.ref a) (.type "list")
 | tup {a:Addr} {xs:List V} (e:H a=!.tup xs):gh K H (.ref a) (.type "tuple")
 | dK {a:Addr} {ah:List (aQ×V)} (e:H a=!.dK ah):gh K H (.ref a) (.type "dict")
 | dT {a:Addr} {ah:List (List aQ×V)} (e:H a=!.dT ah):gh K H (.ref a) (.type "dict")
 | ins {a C dx:Addr} {fs:List (Str×V)} (e:H a=!.ins C dx fs) (cl:Cls K C) (ha:W.findIn K (.ref C) "__class__" = !!.builtin "object.__class__")
   (hn:W.specialIn K (.builtin "object.__class__") "__get__" = !!.builtin "getset_descriptor.__get__") (An:W.takesIn K (.builtin "object.__class__")=!true)
   (hm:W.mroIn K C (.type "object")=!true):gh K H (.ref a) (.ref C)
theorem UE(I:Inv X aa σ H s)(rx:RelV x u)(ty:gh X.K H x t)(e:W.kitOne X.K t c=!b)(h:∀tk,Q (.bool b) {s with toks:=tk}) :
  wpAny (model X.prog X.w) A (call (.builtin "isinstance") [u,c]) Q E s:=by
 cases ty with
 | non=>cases(show u=Value.none from rx);show xZ W.kitx_none I.kIn True.intro e (λz=>nomatch z) h
 | bl y=>cases(show u=Value.bool y from rx);show xZ W.kitx_bool I.kIn True.intro e (λz=>nomatch z) h
 | int i=>let⟨t,q⟩:=(show∃t,u=Value.int i t from rx);cases q;show xZ W.kitx_int I.kIn True.intro e (λz=>nomatch z) h
 | str y=>let⟨t,q⟩:=(show∃t,u=Value.str y t from rx);cases q;show xZ W.kitx_str I.kIn True.intro e (λz=>nomatch z) h
 | flt y=>let⟨t,q⟩:=(show∃t,u=Value.float y t from rx);cases q;show xZ W.kitx_float I.kIn True.intro e (λz=>nomatch z) h
 | @lst a xs ea =>
   cases(show u=Value.ref a from rx)
   let⟨_,_,n,_,h1⟩:=(show ObjOk X.prog X.w H s.heap a (.lst xs)from I.hok a _ ea)
   show xZ W.kitx_list I.kIn ⟨_,h1,O⟩ e (λz=>nomatch z) h
 | @frz a ob xs ea =>
   cases(show u=Value.ref a from rx)
   let⟨_,_,_,n,_,h1⟩:=(show ObjOk X.prog X.w H s.heap a (.frz ob (.lst xs))from I.hok a _ ea)
   show xZ W.kitx_list I.kIn ⟨_,h1,O⟩ e (λz=>nomatch z) h
 | @tup a xs ea =>
   cases(show u=Value.ref a from rx)
   let⟨_,_,_,p⟩:=(show ObjOk X.prog X.w H s.heap a (.tup xs)from I.hok a _ ea)
   let⟨o,h1,h2,_⟩:=p
   show xZ W.kitx_tuple I.kIn ⟨o,h1,h2⟩ e (λz=>nomatch z) h
 | @dK a ah ea =>
   cases(show u=Value.ref a from rx)
   let⟨_,_,vs,_,p⟩:=(show ObjOk X.prog X.w H s.heap a (.dK ah)from I.hok a _ ea)
   let⟨o,es,ep,h1,h2,_⟩:=p
   show xZ W.kitx_dict I.kIn ⟨o,h1,h2.1⟩ e (λz=>nomatch z) h
 | @dT a ah ea =>
   cases(show u=Value.ref a from rx)
   let⟨_,_,xs,_,o,es,ep,h1,h2,_⟩:=(show ObjOk X.prog X.w H s.heap a (.dT ah)from I.hok a _ ea)
   show xZ W.kitx_dict I.kIn ⟨o,h1,h2.1⟩ e (λz=>nomatch z) h
 | @ins a C dx fs ea cl ha hn An hm =>
   cases(show u=Value.ref a from rx)
   let⟨mA,qeW,_⟩:=UD I.hok ea
   let⟨od,J,_⟩:=qeW.look
   show xZ (W.kitx_own (cl.get _) cl.hd ha hn An hm) I.kIn J e (λz=>nomatch z) h
end
structure Room(k:Nat)(A:Around):Prop where
 hd:A.handled=none
 dp:A.depth+3*k+5<recursionLimit
 un:A.units+16*k+200<cLine
def Room.mono{j k:Nat}(r:Room k A)(h:j<=k):Room j A:=⟨r.hd,by have:=r.dp;omega,by have:=r.un;omega⟩
def Room.deeper{k:Nat}(r:Room (k+1) A)(env:Env):Room k (A.deeper env) :=
 ⟨r.hd,by have:=r.dp;show A.depth+1+3*k+5<_;omega,by have:=r.un;show A.units+3+16*k+200<_;omega⟩
def Room.in1{k:Nat}(r:Room (k+1) A):Room k A.in1 :=
 ⟨r.hd,by have:=r.dp;show A.depth+3*k+5<_;omega,by have:=r.un;show A.units+1+16*k+200<_;omega⟩
def Room.depth{k:Nat}(r:Room k A):A.depth<recursionLimit:=by have:=r.dp;omega
def Room.units{k:Nat}(r:Room k A):A.units+64<cLine:=by have:=r.un;omega
def iz:TA:=λ_ H Q=>Q [] H
def dz(ta:TE)(tr:TA):TA:=λσ H Q=>ta σ H λx H1=>tr σ H1 λxs H2=>Q (x::xs) H2
section
variable{X:Cx}{e:Expr}{es:TW}{te:TE}{t:TA}{pos:Pos}
def bH:PA X [] iz:=λ_ _ _ _ H Q I h=>Calls.spliced_nil ⟨[],H,I,.nil,h⟩
def aI(ha:PE X e te)(hr:PA X es t)(hs:starEach (e::es) X.env=(false,eval e X.env)::starEach es X.env:=by rfl):PA X (e::es) (dz te t):=by
 intro pos aa s σ H Q I h;rw[hs];show wpAny _ _ (spliced ((false,eval e X.env)::backTo pos (starEach es X.env))) _ _ s;show Calls.spliced_cons (aN (ha aa s σ H _ I h) λu s1 ⟨x,H1,I1,r1,q1⟩=>?_);show aN (hr pos aa s1 σ H1 _ I1 q1) λus s2 ⟨xs,H2,I2,r2,q2⟩=>⟨x::xs,H2,I2,.cons r1 r2,q2⟩
def Dm(t:TA):TE:=λσ H Q=>t σ H λxs H1=>xs.length<=sizeLine/\∀p,H1 p=none->Q (.ref p) (af H1 p (.tup xs))
def o8(t:TA):TE:=λσ H Q=>t σ H λxs H1=>xs.length<=sizeLine/\∀p,H1 p=none->Q (.ref p) (af H1 p (.lst xs))
def br{x1}(h:PA X es t):PE X (.Tuple es x1 pos) (Dm t):=by
 intro aa s σ H Q I hq;show wpAny_Tuple_spliced (aN (h pos aa s σ H _ I hq) λus s1 ⟨xs,H1,I1,r,z,q⟩=>⟨by rw[<-r.length];show z,?_⟩);have hf:H1 (~~~s1)=none:=I1.hok.fresh (qF _);show⟨.ref (~~~s1),af H1 (~~~s1) (.tup xs),I1.laid (t':=s1.toks) (λb u e=>qE _ e) (qF _) ?_,O,q _ hf⟩;show⟨z,us,r,⟨_,qT _ O,O,_,O⟩⟩
def a0(h:PA X es t):PE X (.List es pos) (o8 t):=by
 intro aa s σ H Q I hq;show wpAny_List_spliced (aN (h pos aa s σ H _ I hq) λus s1 ⟨xs,H1,I1,r,z,q⟩=>⟨by rw[<-r.length];show z,?_⟩);have hf:H1 (~~~s1)=none:=I1.hok.fresh (qF _);show⟨.ref (~~~s1),af H1 (~~~s1) (.lst xs),I1.laid (t':=s1.toks) (λb u e=>qE _ e) (qF _) ?_,O,q _ hf⟩;show⟨z,us,0,r,qT _ O⟩
end
abbrev Sp:=List V->Hp->VK->XK->Prop
abbrev cZ:=List Env->Hp->Shared->XK->Value->Shared->Prop
structure Env0(P:Program)(w:World)(K:W.Frag)(mg:TJ)(base:Heap)(A:Around)(outer:List Env)(s:Shared)(H:Hp):Prop where
 frames:A.frames=!outer
 mod:Mod K mg base
 bs:∀b o,base.get? b=!o->s.heap.get? b=!o/\H b=none
 bsz:base.objs.size<= ~~~s
 funs:s.heap.FunFrames base outer
 frf:∀b∈cS outer,H b=none
 hok:HOk P w H s.heap
 bare:AllBare s.gens
def CE(outer:List Env)(P:Program)(w:World)(H:Hp)(s:Shared)(Q:VK)(u:Value)(s':Shared):Prop :=
 ∃v H',s'.os=s.os/\AllBare s'.gens/\Un (cS outer) [] H H' s.heap s'.heap/\HOk P w H' s'.heap/\RelV v u/\Q v H'
def CR(CX:cZ)(outer:List Env)(P:Program)(w:World)(H:Hp)(s:Shared)(Q:VK)(E:XK)(r:Result)(s':Shared):Prop :=
 match r with
 | .ok (.ret u)=>CE outer P w H s Q u s'
 | .ok _=>False
 | .error e=>CX outer H s E e s'
structure aK(P:Program)(w:World)(K:W.Frag)(mg:TJ)(base:Heap)(CX:cZ)(k:Nat)(f:Addr)(fd:FuncData)(ps:TV)(sp:Sp):Prop where
 len:∀vs H Q E,sp vs H Q E->vs.length=ps.length
 run:∀(A:Around) (outer:List Env) (s:Shared) (H:Hp) (args:Args) (us:TU) (vs:List V) (Q:VK) (E:XK),Room k A->Env0 P w K mg base A outer s H->BindsTo s fd args (ps.zip us)->Vals vs us->sp vs H Q E ->
  codeAny (model P w) A (.call (.ref f) args) (CR CX outer P w H s Q E) s
def Env0.in1{P:Program}{w:World}{K:W.Frag}{mg:TJ}{base:Heap}{A:Around}{outer:List Env}{s:Shared}{H:Hp}(e:Env0 P w K mg base A outer s H) :
  Env0 P w K mg base A.in1 outer s H:=⟨e.frames,e.mod,e.bs,e.bsz,e.funs,e.frf,e.hok,e.bare⟩
section
variable{X:Cx}{aa:TF}{σ:St}{H:Hp}{s s':Shared}
def Inv.env0(I:Inv X aa σ H s):Env0 X.prog X.w X.K X.mg X.base X.A X.stack s H :=
 ⟨I.ok.frames,I.ok.mod,I.bs,rF I.ok.bsz I.sz,I.stack,I.stkFree,I.hok,I.bare⟩
def Inv.after(I:Inv X aa σ H s)(h:CE X.stack X.prog X.w H s Q u s'):EP X aa σ Q u s':=by
 let⟨v,H',os,bare,un,hok,r,q⟩:=h;let⟨hh,g,d,t,jW⟩:=s';obtain rfl:jW=s.os:=os;show⟨v,H',I.call (h':=hh) (g':=g) (d':=d) (t':=t) (ch:=[]) un hok bare (λb z=>absurd z ∅),r,q⟩
end
def Ao(sp:Sp)(iX:List V)(E:XK)(t:TA):TE:=λσ H Q=>t σ H λvs H1=>sp (vs++iX) H1 Q E
def Binds(K:W.Frag)(fd:FuncData)(ps:TV)(ds:TU):Prop :=
 ∀(s:Shared) (us:TU),K.In s.heap->(us++ds).length=ps.length->BindsTo s fd ⟨us,[]⟩ (ps.zip (us++ds))
def Binds.all{K:W.Frag}{fd:FuncData}{ps:TV}(h:∀us:TU,us.length=ps.length->bindArgs fd ⟨us,[]⟩=pure (ps.zip us)):Binds K fd ps []:=λs us _ hl=>by
 rw[rQ]at hl⊢;show .of_eq (h us hl)
def sw(CX:cZ)(X:Cx)(E:XK):=∀(aa:TF) (σ:St) (H:Hp) (s:Shared) (e:Value) (s':Shared),Inv X aa σ H s->CX X.stack H s E e s'->X.xe e s'
section
variable{X:Cx}{CX:cZ}{k:Nat}{f C:Addr}{fd:FuncData}{ps:TV}{sp:Sp}{iX:List V}{ds:TU}{E:XK}{x m:Str}{p pos jX:Pos}{e o:Expr}{es:TW}{ta:TE}{t:TA}
theorem UH{aa:TF}(F:aK X.prog X.w X.K X.mg X.base CX k f fd ps sp)(hr:Room k X.A)(hb:Binds X.K fd ps ds)(hd:Vals iX ds)(hx:sw CX X E)(I:Inv X aa σ H s)(r:Vals vs us)(h:sp (vs++iX) H Q E):wpAny (model X.prog X.w) X.A (call (.ref f) us) (EP X aa σ Q) X.xe s:=by
 have r2:Vals (vs++iX) (us++ds):=r.append hd;have hl:(us++ds).length=ps.length:=by rw[<-r2.length];show F.len _ _ _ _ h
 show wpAny_call (yY (F.run X.A X.stack s H ⟨us,[]⟩ (us++ds) (vs++iX) Q E hr I.env0 (hb s us I.kIn hl) r2 h) λr s' hq=>?_);cases r with
 | error e=>show hx aa σ H s e s' I hq
 | ok fl =>
   cases fl with
   | ret u=>show I.after hq
   | next=>show False.elim hq
   | brk=>show False.elim hq
   | cont=>show False.elim hq
def JL(F:aK X.prog X.w X.K X.mg X.base CX k f fd ps sp)(hr:Room k X.A)(hg:Gl X x)(hm:X.mg x=!.ref f)(hk:W.keepIn X.K (.ref f)=true)(hb:Binds X.K fd ps ds)(hd:Vals iX ds)(hx:sw CX X E)(ha:PA X (e::es) t)(gQ:(x == ("__debug__" : Str))=false:=by decide)(he:starEach (e::es) X.env=(false,eval e X.env)::starEach es X.env:=by rfl)(dJ:(backTo pos (starEach es X.env)).any (·.1)=false:=by rfl) :
  PE X (.Call (.Name x p) (e::es) [] pos) (Ao sp iX E t):=by
 intro aa s σ H Q I h;show yU (Jd I hg hm ?_ gQ);show W.callWith_K (h₀:=X.base) I.ok.mod.kin hk (aN (ha pos aa s σ H _ I h) λus s1 ⟨vs,H1,I1,r,q⟩=>⟨I1.kIn,?_⟩) he dJ;show UH F hr hb hd hx I1 r q
end
structure mX(N P:TV)(sc:Scope):Prop where
 kind:sc.kind=.function
 co:sc.isCoroutine=false
 gen:sc.isGenerator=false
 nd:N.Nodup
 pre:N.take P.length=P
 par:∀x∈P,sc.names.lookup x=!.local\/sc.names.lookup x=!.cell
 nofree:∀y∈sc.names,y.2≠.free
theorem JM{kindOf:Str->Option NameKind}:∀{binds:List (Str×Value)} {m:TJ},(∀v,(x,v)∉binds)->bindL kindOf binds m x=m x
 | [],_,_=>rfl
 | (n, v) :: r, m, h => by
   unfold bindL
   rw[JM λw hw=>h w (qU _ hw)]
   split
   · have:x≠n:=by ext rfl;show h v rB
     simp[this]
   · rfl
theorem JN{kindOf:Str->Option NameKind}:∀{binds:List (Str×Value)} {m:TJ},(∀v,(x,v)∉binds)->bindC kindOf binds m x=m x
 | [],_,_=>rfl
 | (n, v) :: r, m, h => by
   unfold bindC
   rw[JN λw hw=>h w (qU _ hw)]
   split
   · rfl
   · have:x≠n:=by ext rfl;show h v rB
     simp[this]
theorem JO{kindOf:Str->Option NameKind}:∀{P:TV} {vs:TU} {i:Nat} {m:TJ},P.Nodup->P[i]?=!x->vs[i]?=!v->kindOf x=!.local ->
  bindL kindOf (P.zip vs) m x=!v
 | [],_,_,_,_,h,_,_=>by simp at h
 | _::_,[],_,_,_,_,h,_=>by simp at h
 | p :: P, w :: vs, 0, m, nd, h1, h2, hk => by
   simp at h1 h2;subst h1;subst h2
   show bindL kindOf ((p,w)::P.zip vs) m p=_
   unfold bindL
   rw[JM λv hv=>(yV.mp nd).1 (vJ hv).1,if_pos hk]
   simp
 | p :: P, w :: vs, i + 1, m, nd, h1, h2, hk => by
   show bindL kindOf ((p,w)::P.zip vs) m x=_
   unfold bindL
   show JO (i:=i) (yV.mp nd).2 ‹h1› ‹h2› hk
theorem JP{kindOf:Str->Option NameKind}:∀{P:TV} {vs:TU} {i:Nat} {m:TJ},P.Nodup->P[i]?=!x->vs[i]?=!v->kindOf x≠!.local ->
  bindC kindOf (P.zip vs) m x=!v
 | [],_,_,_,_,h,_,_=>by simp at h
 | _::_,[],_,_,_,_,h,_=>by simp at h
 | p :: P, w :: vs, 0, m, nd, h1, h2, hk => by
   simp at h1 h2;subst h1;subst h2
   show bindC kindOf ((p,w)::P.zip vs) m p=_
   unfold bindC
   rw[JN λv hv=>(yV.mp nd).1 (vJ hv).1,if_neg hk]
   simp
 | p :: P, w :: vs, i + 1, m, nd, h1, h2, hk => by
   show bindC kindOf ((p,w)::P.zip vs) m x=_
   unfold bindC
   show JP (i:=i) (yV.mp nd).2 ‹h1› ‹h2› hk
def start(N:TV)(vs:List V):St:=vs.map some++List.replicate (N.length-vs.length) none
def fL(CX:cZ)(P:Program)(w:World)(K:W.Frag)(mg:TJ)(base:Heap)(N:TV)(qual:Str)(scope:Scope)(f:Addr)(cd:Value)(A:Around)(outer:List Env)(s:Shared)(H:Hp)(E:XK):Cx where
 prog:=P
 w:=w
 K:=K
 mg:=mg
 base:=base
 A:=A.deeper (envOfC qual scope (~~~s) f cd)
 N:=N
 s₀:=s
 H₀:=H
 env:=envOfC qual scope (~~~s) f cd
 outer:=outer
 stack:=envOfC qual scope (~~~s) f cd::outer
 ex:=[]
 calm:=true
 fn:=λ_=>true
 pn:=[]
 xe:=λe s'=>wpAny (model P w) (A.deeper (envOfC qual scope (~~~s) f cd)) (leaving (envOfC qual scope (~~~s) f cd) e) (λ_ Dn=>CX outer H s E e Dn) (λe' Dn=>CX outer H s E e' Dn) s'
def JQ{sc:Scope}{n:Nat}{x:Str}(h:sc.names.lookup x=!.cell):∃c,(cellsFrom n sc.names []).lookup x=!c:=by
 have q:=W.cellsFrom_some sc.names n [] (.inl h);show Option.isSome_iff_exists.mp q
theorem UI{CX:cZ}{P:Program}{w:World}{K:W.Frag}{mg:TJ}{base:Heap}{N ps:TV}{qual:Str}{scope:Scope}{f:Addr}{cd:Value}{A:Around}{outer:List Env}{s s1:Shared}{H:Hp}{E:XK}{us:TU}{vs:List V}(S:mX N ps scope)(hd:A.handled=none)(e0:Env0 P w K mg base A outer s H)(hl:vs.length=ps.length)(r:Vals vs us)(x:InCallC s (~~~s) (bindL (envOfC qual scope (~~~s) f cd).kindOf (ps.zip us) λ_=>none) (cellsFrom (~~~s+1) scope.names []) (bindC (envOfC qual scope (~~~s) f cd).kindOf (ps.zip us) λ_=>none) s1) :
  Inv (fL CX P w K mg base N qual scope f cd A outer s H E) [] (start N vs) H s1:=by
 have dJ:ps.length<=N.length:=by have:=xC List.length S.pre;rw[qQ]at this;omega
 let⟨h1,tk,rfl,hk⟩:=x.done;have sA:∀b:Addr,b∉(fL CX P w K mg base N qual scope f cd A outer s H E).ex:=λb z=>absurd (show b∈([]:TQ)from z) ∅
 show⟨⟨e0.mod,S.kind,O,O,qF _,λy z c h1 h2=>?_,λy hy=>?_,λy c _ h=>?_,λ_=>hd,Around.frames_deeper e0.frames,.inr ⟨O,O⟩,λb z=>absurd z (sA b),e0.bs,e0.bsz,λb _ _=>sA b,λb z=>absurd z (sA b),e0.funs,e0.frf⟩,
  rfl,e0.bare,Un.kept hk,⟨_,x.toInCall.ns,λi y v h1 h2 h3=>?_⟩,λy c h=>⟨_,x.cell y c h⟩,e0.hok.fresh (qF _),λy c h=>?_,λp hp=>absurd (show p∈([]:TF)from hp) ∅,e0.hok.kept hk,?_⟩
 .show name_of_addr x.apart (yZ h1) (yZ h2)
 .have hy:scope.names.lookup y=!.cell\/scope.names.lookup y=!.free:=hy;rcases hy with hy | hy
  .show JQ hy
  .show absurd O (S.nofree _ (yZ hy))
 .show xA (x.above y c (yZ h))
 .have hi:i<vs.length:=by
   unfold start at h2
   by_cases hi:i<vs.length
   .show hi
   .rw[rJ ‹hi›]at h2;rw[List.getElem?_replicate]at h2
    split at h2<;>cases h2
  have ha:vs[i]?=!v:=by
   unfold start at h2;rw[rW ‹hi›,qK]at h2;cases e:vs[i]? with
   | none=>rw[e]at h2;cases h2
   | some a=>rw[e]at h2;cases h2;rfl
  let⟨u,hu,rv⟩:=r.get ha;have hp:ps[i]?=!y:=by
   rw[<-S.pre,List.getElem?_take_of_lt ()];show h1
  have JR:ps.Nodup:=by rw[<-S.pre];show S.nd.sublist (List.take_sublist _ _)
  show⟨u,rv,?_⟩;rcases S.par y (qR hp)with k | k
  .show .inl ⟨k,JO JR hp hu k⟩
  .let⟨c,e⟩:=JQ (n:= ~~~s+1) k;show .inr ⟨.inl k,c,e,?_⟩;have q:=x.cell y c e;rw[JP JR hp hu (by show scope.names.lookup y≠_;rw[k];decide)]at q;show q
 .show e0.hok.fresh (xA (x.above y c (yZ h)))
 .unfold start;show _=N.length;rw[qG,qA,rY];omega
theorem Do{CX:cZ}{P:Program}{w:World}{K:W.Frag}{mg:TJ}{base:Heap}{k:Nat}{f:Addr}{name qual:Str}{params:Arguments}{body:List Stmt}{scope:Scope}{dV kV be pm aA ct oc:Value}{an od:Option Addr}{fh:Array (Option Value)}{N ps:TV}{sp:Sp}(lk:K.lookup f=!⟨oc,od,.func (W.fnOf name qual params body scope dV kV be pm an aA ct),fh⟩)(fI:W.codeIn K aA qual=true)(S:mX N ps scope)(len:∀vs H Q E,sp vs H Q E->vs.length=ps.length)(jY:∀(A:Around) (outer:List Env) (s:Shared) (H:Hp) (vs:List V) (Q:VK) (E:XK),Room k (A.deeper (envOfC qual scope (~~~s) f aA))->sp vs H Q E ->
   ∃t,PSs (fL CX P w K mg base N qual scope f aA A outer s H E) body t/\t {nx:=λ_ H'=>Q .non H',rt:=Q} (start N vs) H) :
  aK P w K mg base CX (k+1) f (W.fnOf name qual params body scope dV kV be pm an aA ct) ps sp:=by
 show⟨len,λA outer s H args us vs Q E hr e0 hb r fM=>?_⟩;have hl:=len _ _ _ _ fM;have KX:K.In s.heap:=e0.mod.kin.keeps λb o e=>(e0.bs b o e).1
 have UJ:s.heap.NoLimit:=e0.mod.nolimit.keeps λb o e=>(e0.bs b o e).1
 have UK:∀y∈ps.zip us,scope.names.lookup y.1=!.local\/(scope.names.lookup y.1=!.cell/\((cellsFrom (~~~s+1) scope.names []).lookup y.1).isSome=true):=λ⟨n,v⟩ hy=>by
  rcases S.par n (vJ hy).1 with q | q
  .show .inl q
  .show .inr ⟨q,W.cellsFrom_some _ _ _ (.inl q)⟩
 show codeAny_call_function hr.depth (KX _ _ lk) O S.co S.gen O (W.codeRec_of KX fI) (hb _ _ _ _ ?_);show wpAny_newFunctionEnv_cells S.kind UK λenv he s1 x=>?_
 subst he;show⟨UJ.keeps x.toInCall.keep,codeAny_func ?_⟩;let⟨t,ht,hq⟩:=jY A outer s H vs Q E (hr.deeper _) fM;have I:Inv (fL CX P w K mg base N qual scope f aA A outer s H E) [] (start N vs) H s1:=UI S hr.hd e0 hl r x;show xB (ht [] s1 (start N vs) H _ I hq) (λfl s' hs=>?_) λe s' hs=>hs
 have fin:∀{ae:St} {H':Hp} {v:V} {u:Value},Inv (fL CX P w K mg base N qual scope f aA A outer s H E) [] ae H' s'->RelV v u->Q v H'->CE outer P w H s Q u s' :=
  λ{ae H' v u} J rv q=>⟨v,H',J.os,J.bare,J.base,J.hok,rv,q⟩
 cases fl with
 | ret u =>
   let⟨v,ae,H',J,rv,q⟩:=hs
   show fin J rv q
 | next =>
   let⟨ae,H',J,q⟩:=hs
   show fin (v:=V.non) (u:=Value.none) J O q
 | brk =>
   let⟨_,_,_,q⟩:=hs
   show False.elim q
 | cont =>
   let⟨_,_,_,q⟩:=hs
   show False.elim q
section
variable{X:Cx}{x:Str}{p pos:Pos}{e:Expr}{es:TW}{t:TA}{id T:String}{r:List V->Hp->VK->Prop}
def sB(r:List V->Hp->VK->Prop)(t:TA):TE:=λσ H Q=>t σ H λvs H1=>r vs H1 Q
def JS(hc:dy X (.builtin id) r)(hg:Gl X x)(hm:X.mg x=none)(hv:bootBuiltins x=!.builtin id)(ha:PA X (e::es) t)(hn:x ≠ "__name__":=by decide)(gQ:(x == ("__debug__" : Str))=false:=by decide)(he:starEach (e::es) X.env=(false,eval e X.env)::starEach es X.env:=by rfl)(dJ:(backTo pos (starEach es X.env)).any (·.1)=false:=by rfl):PE X (.Call (.Name x p) (e::es) [] pos) (sB r t):=by
 intro aa s σ H Q I h;show yU (iQ I hg hm hv ?_ hn gQ);show PyProof.Rows.callWith_builtin1 (aN (ha pos aa s σ H _ I h) λus s1 ⟨vs,H1,I1,r1,q1⟩=>hc aa s1 σ H1 vs us Q I1 r1 q1) he dJ
def eP(hc:dy X (.type T) r)(hg:Gl X x)(hm:X.mg x=none)(hv:bootBuiltins x=!.type T)(ha:PA X (e::es) t)(hn:x ≠ "__name__":=by decide)(gQ:(x == ("__debug__" : Str))=false:=by decide)(he:starEach (e::es) X.env=(false,eval e X.env)::starEach es X.env:=by rfl)(dJ:(backTo pos (starEach es X.env)).any (·.1)=false:=by rfl):PE X (.Call (.Name x p) (e::es) [] pos) (sB r t):=by
 intro aa s σ H Q I h;show yU (iQ I hg hm hv ?_ hn gQ);show xK (aN (ha pos aa s σ H _ I h) λus s1 ⟨vs,H1,I1,r1,q1⟩=>hc aa s1 σ H1 vs us Q I1 r1 q1) he dJ
end
end L2
namespace HT
open PyProof.Rows
section
variable{prog:Program}{w:World}{A:Around}{E:TH}{s:Shared}
def sIx(n d:Nat):Option Int->Nat
 | none=>d
 | some v=>if v<0 then(v+(n:Int)).toNat else min v.toNat n
def sIx_none(n d:Nat):sIx n d none=d:=rfl
def sIx_nat(n d k:Nat):sIx n d (!(k:Int))=min k n:=by
 show(if(k:Int)<0 then((k:Int)+(n:Int)).toNat else min (k:Int).toNat n)=min k n;rw[if_neg (),yF]
end
end HT
namespace L2
open PyProof.Rows
abbrev TO:=St->Hp->(Option Int->Hp->Prop)->Prop
def PO(X:Cx)(e:Option Expr)(t:TO):Prop :=
 ∀(aa:TF) (s:Shared) (σ:St) (H:Hp) (Q:Option Int->Hp->Prop),Inv X aa σ H s->t σ H Q ->
  wpAny (model X.prog X.w) X.A (evalPart e X.env) (λu s'=>∃o H',Inv X aa σ H' s'/\IsPart u o/\Q o H') X.xe s
def UL:TO:=λ_ H Q=>Q none H
inductive JT(Q:Option Int->Hp->Prop):V->Hp->Prop
|m {x H1} i:x=.int i->Q (!i) H1->JT Q x H1
def UM(t:TE):TO:=λσ H Q=>t σ H (JT Q)
section
variable{X:Cx}{e:Expr}{te:TE}{lo hi:Option Expr}{tl th:TO}{pos p2:Pos}
def pi:PO X none UL:=by
 intro aa s σ H Q I h;rw[evalPart_none];show qM ⟨none,H,I,.none,h⟩
def jq(h:PE X e te):PO X (!e) (UM te):=by
 intro aa s σ H Q I hw;rw[evalPart_some];show aN (h aa s σ H _ I hw) λu s1 ⟨x,H1,I1,r1,q1⟩=>?_
 let⟨i,rfl,q⟩:=q1;let⟨t,rfl⟩:=r1;show⟨!i,H1,I1,.int i t,q⟩
def Dq(X:Cx)(r:V->Option Int->Option Int->Hp->VK->Prop):Prop :=
 ∀(aa:TF) (s:Shared) (σ:St) (H:Hp) (x:V) (v vl vu:Value) (lo hi:Option Int) (sl:Addr) (Q:VK),Inv X aa σ H s->RelV x v->s.heap.IsSliceOf sl vl vu .none->IsPart vl lo->IsPart vu hi->r x lo hi H Q ->
  ∃T id,typeLookup (.type T) "__getitem__" = pure (!.builtin id)/\s.TypeIs v T/\wpAny (model X.prog X.w) X.A (getItem v (.ref sl)) (EP X aa σ Q) X.xe s
def UN(r:V->Option Int->Option Int->Hp->VK->Prop)(te:TE)(tl th:TO):TE:=λσ H Q=>te σ H λx H1=>tl σ H1 λl H2=>th σ H2 λu H3=>r x l u H3 Q
def lJ{r:V->Option Int->Option Int->Hp->VK->Prop}(hr:Dq X r)(he:PE X e te)(hl:PO X lo tl)(hu:PO X hi th):PE X (.Subscript e (.Slice lo hi none p2) pos) (UN r te tl th):=by
 intro aa s σ H Q I h;show Subscript_ (aN (he aa s σ H _ I h) λv s1 ⟨x,H1,I1,r1,q1⟩=>?_);show wpAny_Slice (aN (hl aa s1 σ H1 _ I1 q1) λvl s2 ⟨l,H2,I2,pl,q2⟩=>aN (hu aa s2 σ H2 _ I2 q2) λvu s3 ⟨u,H3,I3,pu,q3⟩=>?_);rw[evalPart_none];show qM ?_;have I4:Inv X aa σ H3 {s3 with heap:=s3.heap.push {cls:=.type "slice",data:=.fields #[vl,vu,.none]}}:=I3.kept (t':=s3.toks) λb ob q=>qE _ q
 let⟨T,id,hT,ht,hg⟩:=hr aa {s3 with heap:=s3.heap.push {cls:=.type "slice",data:=.fields #[vl,vu,.none]}} σ H3 x v vl vu l u (~~~s3) Q I4 r1 (Heap.IsSliceOf.new ..) pl pu q3;show wpAny (model X.prog X.w) X.A (subscriptTail e (.Slice lo hi none p2) v (.ref (~~~s3))) (EP X aa σ Q) X.xe {s3 with heap:=s3.heap.push {cls:=.type "slice",data:=.fields #[vl,vu,.none]}};show tail_any (ops:=[.ref (~~~s3),v]) ht hT hg (by with_unfolding_all rfl)
def fN(xs:List V)(lo hi:Option Int):List V:=(xs.drop (HT.sIx xs.length 0 lo)).take (HT.sIx xs.length xs.length hi-HT.sIx xs.length 0 lo)
def UO(xs:List V)(lo hi:Option Int):(fN xs lo hi).length<=xs.length:=by
 unfold fN;rw[qQ,uI];omega
end
def fO(n:Nat)(i:Int):Option Nat:=if 0<=i then(if i<n then !i.toNat else none)else if -(n:Int)<=i then !(i+n).toNat else none
def bD{α:Type}(xs:List α)(i:Int):Option α:=(fO xs.length i).bind λj=>xs[j]?
def JU{n:Nat}{i:Int}{j:Nat}(h:fO n i=!j):seqIndex? i n=!j/\j<n/\-(n:Int)<=i/\i<n:=by
 unfold fO at h
 by_cases h0:0<=i
 .rw[if_pos h0]at h
  by_cases h1:i<n
  .rw[if_pos h1]at h;have e:i.toNat=j:=rD h;show⟨by rw[seqIndex_of h0 h1,e],(),(),h1⟩
  .rw[if_neg h1]at h;cases h
 .rw[if_neg h0]at h
  by_cases h1:-(n:Int)<=i
  .rw[if_pos h1]at h;have e:(i+n).toNat=j:=rD h;show⟨by rw[seqIndex_neg () h1,e],(),h1,()⟩
  .rw[if_neg h1]at h;cases h
theorem Dr{α:Type}{xs:List α}{i:Int}{v:α}(h:bD xs i=!v):∃j,seqIndex? i xs.length=!j/\xs[j]?=!v/\j<xs.length/\-(xs.length:Int)<=i/\i<xs.length:=by
 unfold bD at h;cases e:fO xs.length i with
 | none=>rw[e]at h;cases h
 | some j =>
   rw[e]at h
   let⟨h1,h2,h3,h4⟩:=JU e
   show⟨j,h1,h,h2,h3,h4⟩
def eG{α:Type}{xs:List α}{j:Nat}{v:α}(h:xs[j]?=!v):bD xs (j:Int)=!v:=by
 have hj:j<xs.length:=(qI.mp h).1;have e:fO xs.length (j:Int)=!j:=by
  unfold fO;rw[if_pos (),if_pos ()];simp
 unfold bD;rw[e];show h
def atI_last{α:Type}(xs:List α)(v:α):bD (xs++[v]) (-1)=!v:=by
 have hl:(xs++[v]).length=xs.length+1:=∅
 have e:fO (xs++[v]).length (-1)=!xs.length:=by
  unfold fO;rw[hl,if_neg {},if_pos ()]
  congr 1
  omega
 unfold bD;rw[e];show(xs++[v])[xs.length]?=!v;simp
def JV(b:Expr):=∀o i,subscripted b false o i=operate [o,i] (getItem o i)
def sF(X:Cx)(r:R2):Prop :=
 ∀(value jZ:Expr) (aa:TF) (s:Shared) (σ:St) (H:Hp) (x y:V) (v u:Value) (Q:VK),Inv X aa σ H s->RelV x v->RelV y u->r x y H Q ->
  subscripted jZ false v u=operate [v,u] (getItem v u)->wpAny (model X.prog X.w) X.A (subscriptTail value jZ v u) (EP X aa σ Q) X.xe s
def pj(X:Cx)(id:String)(r:V->List V->Hp->VK->Prop):Prop :=
 ∀(aa:TF) (s:Shared) (σ:St) (H:Hp) (x:V) (xs:List V) (v:Value) (us:TU) (Q:VK),Inv X aa σ H s->RelV x v->Vals xs us->r x xs H Q ->
  wpAny (model X.prog X.w) X.A (call (.builtin id) (v::us)) (EP X aa σ Q) X.xe s
section
variable{X:Cx}{a b:Expr}{ta tb:TE}{pos:Pos}
def UP(hr:sF X r)(ha:PE X a ta)(hb:PE X b tb)(hs:JV b):PE X (.Subscript a b pos) (eF r ta tb):=by
 intro aa s σ H Q I h;show Subscript_ (Di ha hb I h λv u s2 x y H2 I2 rx ry q=>hr a b aa s2 σ H2 x y v u Q I2 rx ry q (hs _ _))
inductive cz(K:W.Frag):V->V->Hp->VK->Prop
|m p xs i v:x=.ref p->y=.int i->SqL K H p xs->bD xs i=!v->Q v H->cz K x y H Q
inductive b8(K:W.Frag):V->V->Hp->VK->Prop
|m p xs i v:x=.ref p->y=.int i->SqT K H p xs->bD xs i=!v->Q v H->b8 K x y H Q
inductive JW:V->V->Hp->VK->Prop
|m z i c:x=.str z->y=.int i->z.length<=sizeLine->bD z.cps.toList i=!c->Q (.str ⟨#[c]⟩) H->JW x y H Q
theorem aC:sF X (cz X.K):=by
 intro value jZ aa s σ H x y v u Q I rx ry h hs;let⟨p,xs,i,z,rfl,rfl,hq,he,q⟩:=h;cases rx;let⟨t,rfl⟩:=ry;let⟨ag,r,pl,hz⟩:=I.list hq;let⟨j,h1,h2,h3,h4,h5⟩:=Dr he;let⟨w,ew,iY⟩:=r.get h2;have hl:=r.length;have hn:=o7;have fin:EP X aa σ Q w s:=⟨z,H,I,iY,q⟩
 by_cases h0:0<=i
 .have hj:i.toNat=j:=by
   rw[seqIndex_of h0 h5]at h1;show rD h1
  show item_listR pl.isList h0 () (by rw[hj];simpa using ew) fin hs
 .have hj:(i+(ag.toArray.size:Int)).toNat=j:=by
   rw[seqIndex_neg () h4]at h1;rw[qY,<-hl];show rD h1
  show subscriptTail_builtinR (x:=w) pl.isList.typeIs slot_list_getitem.lookup
   (wpAny_getItem_list_neg (Q:=λr s'=>r=w/\EP X aa σ Q r s') pl.isList () (by rw[qY]<;>omega) () (by rw[hj];simpa using ew) ⟨O,fin⟩) hs
def aF:sF X (b8 X.K):=by
 intro value jZ aa s σ H x y v u Q I rx ry h hs;let⟨p,xs,i,z,rfl,rfl,hq,he,q⟩:=h;cases rx;let⟨t,rfl⟩:=ry;let⟨ag,r,pl,hz⟩:=I.tuple hq;let⟨j,h1,h2,h3,h4,h5⟩:=Dr he;let⟨w,ew,iY⟩:=r.get h2;have hl:=r.length;have hn:=o7;have fin:EP X aa σ Q w s:=⟨z,H,I,iY,q⟩;show subscriptTail_builtinR (x:=w) pl.typeIs slot_tuple_getitem.lookup
  (getItem_tuple (j:=j) (Q:=λr s'=>r=w/\EP X aa σ Q r s') pl () () (by rw[qY,<-hl];show h1) ‹ew› ⟨O,fin⟩) hs
def Ds:sF X JW:=by
 intro value jZ aa s σ H x y v u Q I rx ry h hs;let⟨z,i,c,rfl,rfl,hz,he,q⟩:=h;let⟨t,rfl⟩:=rx;let⟨t',rfl⟩:=ry;let⟨j,h1,h2,h3,h4,h5⟩:=Dr he;have hl:z.cps.toList.length=z.length:=by simp[Str.length]
 rw[hl]at h1 h4 h5;have hn:=o7;show tail_any (typeIs_str s z t) slot_str_getitem.lookup (getItem_str (c:=c) (by
  have e1:decide (i < -(2 ^ 63:Int))=false:=qP ();have e2:decide (i≥2 ^ 63)=false:=qP ();rw[e1,e2,Bool.or_false]) (by rw[h1];simpa using h2) ⟨.str ⟨#[c]⟩,H,I.tok _,⟨_,O⟩,q⟩) hs
def UQ(ag:TU)(n j:Nat)(u:Value):Obj.mapSeq (·.setIfInBounds j u) {cls:=.type "list",data:=.seq ag.toArray n}={cls:=.type "list",data:=.seq (ag.set j u).toArray n}:=by
 simp[Obj.mapSeq]
def Inv.lst{aa:TF}(I:Inv X aa σ H s)(h:H p=!.lst xs) :
  ∃(ag:TU) (n:Nat),Vals xs ag/\s.heap.get? p=!{cls:=.type "list",data:=.seq ag.toArray n}/\xs.length<=sizeLine:=by
 let⟨z,ag,n,r,e⟩:=I.hok p _ h;show⟨ag,n,r,e,z⟩
def Inv.lstUpd{aa:TF}{σ:St}{H:Hp}{s:Shared}{p:Addr}{xs ys:List V}{ag its':TU}{n n':Nat}{f:Obj->Obj}(I:Inv X aa σ H s)(h:H p=!.lst xs)(ho:s.heap.get? p=!{cls:=.type "list",data:=.seq ag.toArray n})(hf:f {cls:=.type "list",data:=.seq ag.toArray n}={cls:=.type "list",data:=.seq its'.toArray n'})(r:Vals ys its')(hz:ys.length<=sizeLine)(t:Nat) :
  Inv X aa σ (af H p (.lst ys)) {s with heap:=s.heap.update p f,toks:=t}:=by
 have e:(s.heap.update p f).get? p=!{cls:=.type "list",data:=.seq its'.toArray n'}:=by
  rw[xT f ho (by rw[hf]<;>rfl),hf]
 show I.write (x:=p) (e:=p) (by rw[h];trivial) (.inl O) (λb u hb q=>(xS _ _ (Ne.symm hb)).trans q) ⟨_,e⟩ ?_;show⟨hz,its',n',r,e⟩
inductive Dt:V->V->V->Hp->(Hp->Prop)->Prop
|m p xs k j:o=.ref p->i=.int k->H p=!.lst xs->fO xs.length k=!j->Q (af H p (.lst (xs.set j v)))->Dt o i v H Q
theorem pA:C6 X Dt:=by
 intro aa s σ H o i v ov iv u Q I ro ri rv h;let⟨p,xs,k,j,rfl,rfl,hp,hj,q⟩:=h;cases ro;let⟨t,rfl⟩:=ri;let⟨ag,n,r,ho,hz⟩:=I.lst hp;let⟨h1,h2,h3,h4⟩:=JU hj;have hl:=r.length;have hn:=o7;have I':Inv X aa σ (af H p (.lst (xs.set j v))) {s with heap:=s.heap.update p (Obj.mapSeq (·.setIfInBounds j u))} :=
  I.lstUpd hp ho (UQ ag n j u) (r.set rv j) (by rw[uN];show hz) s.toks
 by_cases h0:0<=k
 .have hk:k.toNat=j:=by
   rw[seqIndex_of h0 h4]at h1;show rD h1
  show W.ki_setAt ho h0 () (by rw[qY,<-hl];show h4) (by rw[hk];show⟨_,I',q⟩)
 .have hk:(k+(ag.toArray.size:Int)).toNat=j:=by
   rw[seqIndex_neg () h3]at h1;rw[qY,<-hl];show rD h1
  show W.ki_setBack ho () (by rw[qY,<-hl];show h3) () (by rw[hk];show⟨_,I',q⟩)
theorem UR(lo hi:Option Int)(n:Nat):(sliceBounds lo hi none n).1=((HT.sIx n 0 lo:Nat):Int)/\(sliceBounds lo hi none n).2.1=((HT.sIx n n hi:Nat):Int)/\(sliceBounds lo hi none n).2.2=1:=by
 show⟨?_,?_,O⟩
 .cases lo with
  | none=>simp[sliceBounds,HT.sIx]
  | some i =>
    simp only[sliceBounds,HT.sIx,Option.getD_none,show(1:Int)>0 by decide,if_true]
    by_cases h:i<0
    · simp only[h,if_true]<;>omega
    · simp only[h,if_false]<;>omega
 .cases hi with
  | none=>simp[sliceBounds,HT.sIx]
  | some i =>
    simp only[sliceBounds,HT.sIx,Option.getD_none,show(1:Int)>0 by decide,if_true]
    by_cases h:i<0
    · simp only[h,if_true]<;>omega
    · simp only[h,if_false]<;>omega
def UT(ag:TU)(lo hi:Option Int):slicePick ag.toArray lo hi none=((ag.drop (HT.sIx ag.length 0 lo)).take (HT.sIx ag.length ag.length hi-HT.sIx ag.length 0 lo)).toArray:=by
 let⟨h1,h2,h3⟩:=UR lo hi ag.toArray.size;unfold slicePick;rw[h1,h2,h3];simp only[sliceRange_one,pick_run,List.size_toArray]<;>rfl
inductive mY(K:W.Frag):V->Option Int->Option Int->Hp->VK->Prop
|m {x lo hi H Q} a xs:x=.ref a->SqL K H a xs->(∀p,H p=none->Q (.ref p) (af H p (.lst (fN xs lo hi))))->mY K x lo hi H Q
def sG:Dq X (mY X.K):=by
 intro aa s σ H x v vl vu lo hi sl Q I rx hs pl pu h;let⟨a,xs,rfl,hx,q⟩:=h;cases rx;let⟨ag,r,ht,hz⟩:=I.list hx;have bE:=r.length;show⟨"list",_,slot_list_getitem.lookup,ht.isList.typeIs,?_⟩;show wpAny_getItem_list_slice ht.isList hs pl pu .none ∅ ?_ (by rw[List.size_toArray]<;>omega);rw[UT,<-bE];show⟨.ref (~~~s),_,I.laid (t':=s.toks) (o:=.lst (fN xs lo hi)) (λb ob q=>qE _ q) (qF _) ?_,O,q _ (I.hok.fresh (qF _))⟩;show⟨rF (UO xs lo hi) hz,_,0,(r.drop (HT.sIx xs.length 0 lo)).take (HT.sIx xs.length xs.length hi-HT.sIx xs.length 0 lo),qT _ O⟩
def j5:V->Bool
 | .non=>true
 | .bl _=>true
 | .int _=>true
 | .str _=>true
 | _=>false
def j6:V->V->Bool
 | .non,.non=>true
 | .bl a,.bl b=>a == b
 | .bl a,.int b=>(if a then 1 else 0) == b
 | .int a,.bl b=>a == (if b then 1 else 0)
 | .int a,.int b=>a == b
 | .str a,.str b=>a == b
 | _,_=>false
theorem UV(ry:RelV y u)(rx:RelV x v)(fy:j5 y=true)(fx:j5 x=true):SeqAt.EqAt A s u v (j6 y x):=by
 cases y with
 | non =>
   cases ry
   cases x with
   | non=>cases rx;show SeqAt.EqAt.same _
   | bl b=>cases rx;show SeqAt.EqAt.none_bool b
   | int b=>let⟨t,rfl⟩:=rx;show SeqAt.EqAt.none_int b t
   | str b=>let⟨t,rfl⟩:=rx;show SeqAt.EqAt.none_str b t
   | _=>show absurd (show false=true from fx) qZ
 | bl a =>
   cases ry
   cases x with
   | non=>cases rx;show SeqAt.EqAt.bool_none a
   | bl b=>cases rx;show SeqAt.EqAt.bool_bool a b
   | int b=>let⟨t,rfl⟩:=rx;show SeqAt.EqAt.bool_int a b t
   | str b=>let⟨t,rfl⟩:=rx;show SeqAt.EqAt.bool_str a b t
   | _=>show absurd (show false=true from fx) qZ
 | int a =>
   let⟨t',rfl⟩:=ry
   cases x with
   | non=>cases rx;show SeqAt.EqAt.int_none a t'
   | bl b=>cases rx;show SeqAt.EqAt.int_bool a t' b
   | int b=>let⟨t,rfl⟩:=rx;show SeqAt.EqAt.int_int a t' b t
   | str b=>let⟨t,rfl⟩:=rx;show SeqAt.EqAt.int_str a t' b t
   | _=>show absurd (show false=true from fx) qZ
 | str a =>
   let⟨t',rfl⟩:=ry
   cases x with
   | non=>cases rx;show SeqAt.EqAt.str_none a t'
   | bl b=>cases rx;show SeqAt.EqAt.str_bool a t' b
   | int b=>let⟨t,rfl⟩:=rx;show SeqAt.EqAt.str_int a t' b t
   | str b=>let⟨t,rfl⟩:=rx;show SeqAt.EqAt.str_str a t' b t
   | _=>show absurd (show false=true from fx) qZ
 | _=>show absurd (show false=true from fy) qZ
def fQ(x:V)(u:Value):Bool:=match u with
 | .none=>j6 .non x
 | .bool b=>j6 (.bl b) x
 | .int i _=>j6 (.int i) x
 | .str z _=>j6 (.str z) x
 | _=>false
def JX(r:RelV y u)(f:j5 y=true):fQ x u=j6 y x:=by
 cases y with
 | non=>cases r;rfl
 | bl b=>cases r;rfl
 | int i=>let⟨t,rfl⟩:=r;rfl
 | str z=>let⟨t,rfl⟩:=r;rfl
 | _=>show absurd (show false=true from f) qZ
theorem sJ:∀{xs:List V} {us:TU},Vals xs us->xs.all j5=true->us.any (fQ x)=xs.any λy=>j6 y x
 | _,_,.nil,_=>rfl
 | y :: xs, u :: us, .cons r t, f => by
   rw[List.all_cons,yK]at f
   rw[uK,uK,JX r f.1,sJ t f.2]
theorem sK(rx:RelV x v)(fx:j5 x=true):∀{xs:List V} {us:TU},Vals xs us->xs.all j5=true->∀u∈us,SeqAt.EqAt A s u v (fQ x u)
 | _,_,.nil,_=>λu hu=>by cases hu
 | y :: xs, u :: us, .cons r t, f => λu' hu => by
   rw[List.all_cons,yK]at f
   rcases qO.mp hu with rfl | hu
   · rw[JX r f.1];show UV r rx f.1 fx
   · show sK rx fx t f.2 u' hu
def lK(x:V)(xs:List V):Bool:=xs.any λy=>j6 y x
inductive Ap(K:W.Frag)(neg:Bool):V->V->Hp->VK->Prop
|m p xs:y=.ref p->(SqL K H p xs\/SqT K H p xs)->j5 x=true->xs.all j5=true->Q (.bl (if neg then (Bool.not (lK x xs)) else lK x xs)) H->Ap K neg x y H Q
def Du:bQ X (compareOp .In) (Ap X.K false):=by
 intro aa s σ H x y v u Q I rx ry h;let⟨p,xs,rfl,hq,fx,fs,q⟩:=h;cases ry;rcases hq with hq | hq
 .let⟨ag,r,pl,hz⟩:=I.list hq;show SeqAt.in_listAt (fQ x) pl.isList (λw hw=>sK rx fx r fs w ‹hw›) ⟨.bl _,H,I,O,?_⟩;rw[show ag.toArray.any (fQ x)=ag.any (fQ x) by simp,sJ r fs];show q
 .let⟨ag,r,pl,hz⟩:=I.tuple hq;show SeqAt.in_tupleAt (fQ x) pl (λw hw=>sK rx fx r fs w ‹hw›) ⟨.bl _,H,I,O,?_⟩;rw[show ag.toArray.any (fQ x)=ag.any (fQ x) by simp,sJ r fs];show q
def Aq:bQ X (compareOp .NotIn) (Ap X.K true):=by
 intro aa s σ H x y v u Q I rx ry h;let⟨p,xs,rfl,hq,fx,fs,q⟩:=h;cases ry;rcases hq with hq | hq
 .let⟨ag,r,pl,hz⟩:=I.list hq;show SeqAt.notIn_listAt (fQ x) pl.isList (λw hw=>sK rx fx r fs w ‹hw›) ⟨.bl _,H,I,O,?_⟩;rw[show ag.toArray.any (fQ x)=ag.any (fQ x) by simp,sJ r fs];show q
 .let⟨ag,r,pl,hz⟩:=I.tuple hq;show SeqAt.notIn_tupleAt (fQ x) pl (λw hw=>sK rx fx r fs w ‹hw›) ⟨.bl _,H,I,O,?_⟩;rw[show ag.toArray.any (fQ x)=ag.any (fQ x) by simp,sJ r fs];show q
inductive Dv(K:W.Frag):List V->Hp->VK->Prop
 | mk p ys:xs=[.ref p]->(SqL K H p ys\/SqT K H p ys)->Q (.int ys.length) H->Dv K xs H Q
def UW:dy X (.builtin "len") (Dv X.K):=by
 intro aa s σ H xs us Q I r h;let⟨p,ys,rfl,hq,q⟩:=h;let⟨u,rfl,rx⟩:=vals1 r;cases rx;have hn:=o7;rcases hq with hq | hq
 .let⟨ag,r',pl,hz⟩:=I.list hq;have bE:=r'.length;show Calls.call_len_list pl.isList (by simp only[List.size_toArray]<;>omega) ⟨.int ys.length,H,I.tok _,⟨s.toks+1,by rw[qY,bE]⟩,q⟩
 .let⟨ag,r',pl,hz⟩:=I.tuple hq;have bE:=r'.length;show len_tuple pl (by simp only[List.size_toArray]<;>omega) ⟨.int ys.length,H,I.tok _,⟨s.toks+1,by rw[qY,bE]⟩,q⟩
theorem mZ:dy X (.type "list") (λxs H Q=>∃p ys,xs=[.ref p]/\(SqL X.K H p ys\/SqT X.K H p ys)/\∀l,H l=none->Q (.ref l) (af H l (.lst ys))):=by
 intro aa s σ H xs us Q I r h;let⟨p,ys,rfl,hq,q⟩:=h;let⟨u,rfl,rx⟩:=vals1 r;cases rx;have fin:∀(ag:TU),Vals ys ag->ys.length<=sizeLine->∀(h':Heap) (c':Nat),(∀b o',s.heap.get? b=!o'->h'.get? b=!o') ->
   h'.get? (~~~s)=!{cls:=.type "list",dict:=none,data:=.seq ag.toArray c',slots:=#[]}->EP X aa σ Q (.ref (~~~s)) {s with heap:=h'}:=λag r' hz h' c' kp e =>
  ⟨.ref (~~~s),_,I.laid (t':=s.toks) kp (qF _) (show ObjOk X.prog X.w _ h' _ (.lst ys)from⟨hz,ag,c',r',e⟩),O,q _ (I.hok.fresh (qF _))⟩
 rcases hq with hq | hq
 .let⟨ag,r',pl,hz⟩:=I.list hq;have bE:=r'.length;let⟨o,ho,hc,n,hd⟩:=pl.isList;show call_list_seq p (.inl O) ho hc hd (λh' c' kp e=>fin ag r' hz h' c' kp e) (by simp only[List.size_toArray]<;>omega)
 .let⟨ag,r',pl,hz⟩:=I.tuple hq;have bE:=r'.length;let⟨o,ho,hc,n,hd⟩:=pl;show call_list_seq p (.inr O) ho hc hd (λh' c' kp e=>fin ag r' hz h' c' kp e) (by simp only[List.size_toArray]<;>omega)
def Dw(K:W.Frag)(T:String)(x:V)(H:Hp):Prop:=match x with
 | .str _=>T = "str"
 | .int _=>T = "int"
 | .ref p=>(T = "list" /\ ∃xs,SqL K H p xs)\/(T = "tuple" /\ ∃o,K.lookup p=!o/\o.cls=.type "tuple" /\ o.dict=none) \/
   (T = "dict" /\ ((∃ah,H p=!.dK ah)\/∃ah,H p=!.dT ah))\/(T = "set" /\ ∃S n,H p=!.set S n)
 | _=>False
theorem JY{aa:TF}{T:String}(I:Inv X aa σ H s)(r:RelV x v)(ty:Dw X.K T x H) :
  s.TypeIs v T/\∀a,v=.ref a->∃ob,s.heap.get? a=!ob/\ob.dict=none:=by
 cases x with
 | str z =>
   let⟨t,rfl⟩:=r
   cases(show T = "str" from ty)
   show⟨typeIs_str s z t,λ_ e=>nomatch e⟩
 | int i =>
   let⟨t,rfl⟩:=r
   cases(show T = "int" from ty)
   show⟨typeIs_int s i t,λ_ e=>nomatch e⟩
 | ref p =>
   cases r
   rcases ty with⟨rfl,xs,hq⟩ | ⟨rfl,o,hk,hc,hd⟩ | ⟨rfl,hk⟩ | ⟨rfl,S,n,hk⟩
   · let⟨ag,_,pl,_⟩:=I.list hq
     show⟨pl.isList.typeIs,λa e=>?_⟩
     cases e
     let⟨o,n,e,c,hd,_⟩:=pl
     show⟨o,e,hd⟩
   · show⟨⟨o,I.kIn p o hk,hc⟩,λa e=>?_⟩
     cases e
     show⟨o,I.kIn _ o hk,hd⟩
   · have z:∃o,s.heap.get? p=!o/\o.ExactDict:=by
       rcases hk with⟨ah,hk⟩ | ⟨ah,hk⟩
       · let⟨_,_,_,_,o,_,_,e,ex,_⟩:=I.hok p _ hk
         show⟨o,e,ex⟩
       · let⟨_,_,_,_,o,_,_,e,ex,_⟩:=I.hok p _ hk
         show⟨o,e,ex⟩
     let⟨o,e,ex⟩:=z
     show⟨⟨o,e,ex.1⟩,λa e2=>?_⟩
     cases e2
     show⟨o,e,ex.2.1⟩
   · let⟨o,_,_,_,e,ex,_⟩:=I.hok p _ hk
     show⟨⟨o,e,ex.1⟩,λa e2=>?_⟩
     cases e2
     show⟨o,e,ex.2.1⟩
 | _=>show False.elim ty
def UX(K:W.Frag)(T:String)(r:V->List V->Hp->VK->Prop)(to:TE):TE:=λσ H Q=>to σ H λx H1=>Dw K T x H1/\r x [] H1 Q
def Dx(K:W.Frag)(T:String)(r:V->List V->Hp->VK->Prop)(to:TE)(t:TA):TE:=λσ H Q=>to σ H λx H1=>Dw K T x H1/\t σ H1 λxs H2=>r x xs H2 Q
variable{o e:Expr}{es:TW}{to:TE}{t:TA}{name:Str}{jX dR:Pos}{T id:String}{r:V->List V->Hp->VK->Prop}
theorem UY(pa:PlainAttrs T)(slot:Slot T name id)(sO:typeOf (.builtin id)=pure (.type "method_descriptor"))(hm:pj X id r)(ho:PE X o to)(m7:attributeBase o name X.env (eval o X.env)=eval o X.env:=by rfl)(m9:(jX.endLine == dR.line)=true:=by rfl):PE X (.Call (.Attribute o name jX) [] [] dR) (UX X.K T r to):=by
 intro aa s σ H Q I h;refine wpAny_Call_method0_late m7 m9 (aN (ho aa s σ H _ I h) λv s1 ⟨x,H1,I1,r1,ty,q1⟩=>?_);obtain⟨h1,h2⟩:=JY I1 r1 ty;exact⟨T,id,pa,slot,sO,h1,h2,Calls.callWith_builtin rfl (PySem.evalArgs_none (hm aa s1 σ H1 x [] v [] Q I1 r1 .nil q1))⟩
theorem jr(pa:PlainAttrs T)(slot:Slot T name id)(sO:typeOf (.builtin id)=pure (.type "method_descriptor"))(hm:pj X id r)(ho:PE X o to)(ha:PA X (e::es) t)(m7:attributeBase o name X.env (eval o X.env)=eval o X.env:=by rfl)(sP:((backTo dR (starEach (e::es) X.env)).all (λx=>(Bool.not (x.1))) && (backToKw dR (keywordEach [] X.env)).all (λx=>x.1.isSome)
   && decide ((e::es).length+([]:List Keyword).length+(if([]:List Keyword).isEmpty then 0 else 1)<30))=true:=by rfl)(m9:(jX.endLine == dR.line)=true:=by rfl)(hs:starEach (e::es) X.env=(false,eval e X.env)::starEach es X.env:=by rfl)(sQ:(backTo dR (starEach es X.env)).any (·.1)=false:=by rfl) :
  PE X (.Call (.Attribute o name jX) (e::es) [] dR) (Dx X.K T r to t):=by
 intro aa s σ H Q I h;show wpAny_Call_method_late m7 sP m9 O (aN (ho aa s σ H _ I h) λv s1 ⟨x,H1,I1,r1,ty,q1⟩=>?_);let⟨h1,h2⟩:=JY I1 r1 ty;show⟨T,id,pa,slot,sO,h1,h2,?_⟩;have hA:=ha dR aa s1 σ H1 _ I1 q1;rw[hs]at hA⊢;show Calls.callWith_builtin (by show(false || (backTo dR (starEach es X.env)).any (·.1))=false;rw[sQ]<;>rfl) (Calls.evalArgs_plain ?_);show aN hA λus s2 ⟨vs,H2,I2,r2,q2⟩=>hm aa s2 σ H2 x vs v us Q I2 r1 r2 q2
end
def Ar(X:Cx)(id:String)(r:V->List V->Hp->VK->Prop):Prop :=
 ∀(aa:TF) (s:Shared) (σ:St) (H:Hp) (x:V) (xs:List V) (v:Value) (us:TU) (Q:VK),Inv X aa σ H s->RelV x v->Vals xs us->r x xs H Q ->
  wpAny (model X.prog X.w) X.A (call (.builtin id) (v::us)) (EP X aa σ Q) X.xe s
def Vals.one:∀{x:V} {us:TU},Vals [x] us->∃u,us=[u]/\RelV x u
 | _,_,.cons r .nil=>⟨_,O,r⟩
def Vals.zero:∀{us:TU},Vals [] us->us=[]
 | _,.nil=>rfl
section
variable{X:Cx}{aa:TF}{σ:St}{H:Hp}{s:Shared}{l b:Addr}{xs ys zs:List V}
def Inv.lset{ag its':TU}{n:Nat}{f:Array Value->Array Value}{t':Nat}(I:Inv X aa σ H s)(hH:H l=!.lst xs)(e:s.heap.get? l=!{cls:=.type "list",data:=.seq ag.toArray n})(hf:f ag.toArray=its'.toArray)(hv:Vals ys its')(hz:ys.length<=sizeLine) :
  Inv X aa σ (af H l (.lst ys)) {s with heap:=s.heap.update l (Obj.mapSeq f),toks:=t'}:=by
 have q:=IsL.update e f;rw[hf]at q;show I.write (x:=l) (e:=l) (by rw[hH];show trivial) (.inl O) (λb' u hb hu=>(xS s.heap (Obj.mapSeq f) (Ne.symm hb)).trans hu) ⟨_,q⟩ ?_;show⟨hz,its',_,hv,q⟩
def Inv.lnew{t':Nat}(I:Inv X aa σ H s)(hv:Vals ys ag)(hz:ys.length<=sizeLine) :
  Inv X aa σ (af H (~~~s) (.lst ys)) {s with heap:=s.heap.push {cls:=.type "list",data:=.seq ag.toArray},toks:=t'} :=
 I.laid (λ_ _ q=>qE _ q) (qF _) ⟨hz,ag,0,hv,qT _ O⟩
def Inv.fresh(I:Inv X aa σ H s):H (~~~s)=none:=I.hok.fresh (qF _)
def Inv.lstM(I:Inv X aa σ H s)(hH:H l=!.lst xs):xs.length<=sizeLine/\∃(ag:TU) (n:Nat),Vals xs ag/\xs.length=ag.length/\s.heap.get? l=!{cls:=.type "list",data:=.seq ag.toArray n}:=by
 let⟨z,ag,n,r,e⟩:=I.hok l _ hH;show⟨z,ag,n,r,r.length,e⟩
def UZ{n:Nat}(h:n<=sizeLine):Builtin.List.listTooLong n=false:=by
 unfold Builtin.List.listTooLong;show qP ()
end
section
variable{X:Cx}
inductive As:V->List V->Hp->VK->Prop
|m l xs y:x=.ref l->vs=[y]->H l=!.lst xs->xs.length<sizeLine->Q .non (af H l (.lst (xs++[y])))->As x vs H Q
def JZ:Ar X "list.append" As:=by
 intro aa s σ H x vs v us Q I rx rv h;let⟨l,xs,y,rfl,rfl,hH,hz,q⟩:=h;cases rx;let⟨u,rfl,ru⟩:=rv.one;let⟨z,ag,n,r,hl,e⟩:=I.lstM hH;show u7 F.slot_list_append ⟨_,e,O⟩ F.entry_list_append (F.args_list_append_2 _ _) (list_append l ag.toArray n u (by rw[qY];omega)) ⟨e,?_⟩;show⟨.non,_,I.lset (its':=ag++[u]) hH e ∅ (r.append (.cons ru .nil)) ?_,O,q⟩;rw[qG,yJ];omega
inductive J0:V->List V->Hp->VK->Prop
|m l b xs zs:x=.ref l->vs=[.ref b]->H l=!.lst xs->H b=!.lst zs->xs.length+zs.length<=sizeLine->Q .non (af H l (.lst (xs++zs)))->J0 x vs H Q
def J7:Ar X "list.extend" J0:=by
 intro aa s σ H x vs v us Q I rx rv h;let⟨l,b,xs,zs,rfl,rfl,hH,hB,hz,q⟩:=h;cases rx;let⟨u,rfl,ru⟩:=rv.one;cases ru;let⟨z,ag,n,r,hl,e⟩:=I.lstM hH;let⟨z2,gj,n2,r2,fi,e2⟩:=I.lstM hB;have hsz:ag.toArray.size+gj.toArray.size<=sizeLine:=by rw[qY,qY];omega
 have U0:¬((Bool.not (ag.toArray.isEmpty)) && Builtin.List.listTooLong (ag.toArray.size+gj.toArray.size))=true:=by
  rw[UZ hsz,Bool.and_false];show qZ
 show u7 F.slot_list_extend ⟨_,e,O⟩ F.entry_list_extend (F.args_list_extend_2 _ _)
  (AutoSeq1.list_extend_list_list_0 l ag.toArray n b gj.toArray n2 U0 (by rw[qY];omega) ()) ⟨e,e2,?_⟩
 show⟨.non,_,I.lset (its':=ag++gj) hH e ∅ (r.append r2) ?_,O,q⟩;rw[qG];omega
inductive J8:V->List V->Hp->VK->Prop
|m l xs:x=.ref l->vs=[]->H l=!.lst xs->Q .non (af H l (.lst []))->J8 x vs H Q
def U1:Ar X "list.clear" J8:=by
 intro aa s σ H x vs v us Q I rx rv h;let⟨l,xs,rfl,rfl,hH,q⟩:=h;cases rx;have U2:=rv.zero;subst U2;let⟨z,ag,n,r,hl,e⟩:=I.lstM hH;show u7 F.slot_list_clear ⟨_,e,O⟩ F.entry_list_clear (F.args_list_clear_1 _) (AutoSeq1.list_clear_list_0 l ag.toArray n (by rw[qY];omega)) ⟨e,?_⟩;show⟨.non,_,I.lset (its':=[]) (ys:=[]) hH e O .nil (rS _),O,q⟩
inductive J9:V->V->Hp->VK->Prop
|m l b xs zs:x=.ref l->y=.ref b->H l=!.lst xs->H b=!.lst zs->xs.length+zs.length<=sizeLine->(∀p,H p=none->Q (.ref p) (af H p (.lst (xs++zs))))->J9 x y H Q
def pB:bQ X (binaryOp .Add) J9:=by
 intro aa s σ H x y v u Q I rx ry h;let⟨l,b,xs,zs,rfl,rfl,hH,hB,hz,q⟩:=h;cases rx;cases ry;let⟨z,ag,n,r,hl,e⟩:=I.lstM hH;let⟨z2,gj,n2,r2,fi,e2⟩:=I.lstM hB;show P.add_list e e2 ?_ (by rw[qY,qY];omega);have ea:ag.toArray++gj.toArray=(ag++gj).toArray:=∅
 rw[ea];show⟨.ref _,_,I.lnew (t':=s.toks) (r.append r2) (by rw[qG];omega),O,q _ I.fresh⟩
end
end L2
namespace Att
open PySem.W PySem.Calls PyProof.Rows
theorem U3:∀(ns:TN) (vs:TU),WellAll P h vs (ns.map WData.int)->IntsAre vs ns:=by
 intro ns
 induction ns with
 | nil =>
   intro vs w
   rw[vO]at w
   cases w
   show .nil
 | cons n ns ih =>
   intro vs w
   rw[xO]at w
   cases w with
   | cons a b =>
     cases a
     show .cons _ _ (ih _ b)
theorem U4{l:OpenLaw}{n:Nat}(hn:l.most=!n){P:Params}{h:Heap}{args:List WData}{Dy:TU}(j7:l.row.toRowW.claim.pre args=true)(Dz:WellAll P h Dy args) :
  ∃a vs ns,Dy=[Value.ref a]/\args=[WData.list (ns.map WData.int)]/\h.get? a=!{cls:=.type "list",data:=.seq vs.toArray}/\IntsAre vs ns/\ns.length<=n:=by
 have U5:WShape.hasAll [] args [.list .int]=true:=(pre_splitW j7).1;have hc:l.pre.holds [] {args:=args}=true:=(pre_splitW j7).2;let⟨d,r,rfl,h1,h2⟩:=hasAllW_cons U5;obtain rfl:=hasAllW_nil h2;let⟨xs,rfl,h3⟩:=hasW_list h1;let⟨ns,rfl⟩:=items_int h3;have bE:ns.length<=n:=by
  unfold OpenLaw.pre at hc;have h4:(WTm.not (.lt (.lit (.int (n:Int))) (.len (.arg 0)))).holds [] {args:=[.list (ns.map .int)]}=true:=by
   have h4:=(holds_andW hc).1;rw[hn]at h4;show h4
  have h5:=condW_of h4 (w_not (w_lt w_lit (w_len_list (w_arg O))));rw[qA]at h5;show yM λq=>?_
  have q':(n:Int)<((ns.length:Nat):Int):=()
  first
   | (rw[qJ q']at h5;show absurd h5 {})
   | (simp at h5;omega)
 cases Dz with
 | cons w1 w2 =>
   cases w2
   cases w1 with
   | list ho DA=>show⟨_,_,ns,O,O,ho,U3 ns _ DA,bE⟩
def U6(l:OpenLaw)(args:List WData):l.row.toRowW.claim.post args (.bool true) args=true :=
 postW_of (r:=l.row.toRowW) (X:=(true == true))
  (show WShape.has [] (.bool true) .bool=true by first | rfl | decide | simp[WShape.has,WShape.arms,WShape.armsAll])
  (show(WTm.eq .res (.lit (.bool true))).value [] {args:=args,res:=!.bool true,after:=args}=!.bool (true == true)from w_eq_bool (w_res O) w_lit) O
theorem attach_call{l:OpenLaw}{n:Nat}{q:Program}{pC:List Str}{XP:(Str->Option Value)->Heap->Prop}{YP:World->Heap->Prop}{d:DefRec}(hn:l.most=some n)(sR:d.params.defaults=[])(call:∀(w:World) (s₀ a6:Shared) (mg mb:Str->Option Value) (fa:Addr) (o:Obj) (pm cd be:Value) (a:Addr) (vs:List Value) (ns:List Int),
   Ground q pC [] XP w s₀ mg mb a6.heap->YP w a6.heap ->
   a6.heap.get? fa=some o->o.data=.func (docDef d.name d.params d.body d.scope pm cd be)->a6.heap.CodeRec cd d.name->mg d.name=some (.ref fa) ->
   a6.heap.get? a=some {cls:=.type "list",data:=.seq vs.toArray}->IntsAre vs ns->ns.length<=n->a6.gens=#[] ->
   codeAny (model l.prog w) callerA (.call (.ref fa) ⟨[.ref a],[]⟩) (λr s'=>r=.ok (.ret (.bool true))/\OldK a6.heap s'.heap/\s'.os=a6.os/\AllBare s'.gens) a6) :
  WalkO q pC XP YP l.row.toRowW d [] (λf vs=>PySem.call f vs):=by
 intro w s₀ a6 mg mb G Y fa o pm cd be dV kV ho hd fI hD sV hg args Dy as j7 hlay hrd Dz hlo;obtain rfl:dV=.none:=Dflts.none hD sR;obtain rfl:kV=.none:=Dflts.noKw hD;obtain⟨a,vs,ns,rfl,rfl,DB,DC,bE⟩:=U4 hn j7 Dz;refine enter_call (yY (call w s₀ a6 mg mb fa o pm cd be a vs ns G Y ho (fd_plain hd) fI sV DB DC bE hg) λr s' hq=>?_);obtain⟨rfl,h2,h3,h4⟩:=hq;exact⟨.inl ⟨.bool true,.bool true,[],rfl,λ_=>rfl,.bool true,U6 l _,λ_=>⟨List.Pairwise.nil,λ_ hm=>(nomatch hm)⟩⟩,h2,h3,h4⟩
end Att
namespace L2
open PyProof.Rows
def Ke:∀{vs:TU} {ns:TN},IntsAre vs ns->Vals (ns.map V.int) vs
 | _,_,.nil=>.nil
 | _,_,.cons n t h=>.cons ⟨t,O⟩ (Ke h)
def c7(s:Stmt):Arguments:=match s with
 | .FunctionDef _ a _ _ _ _ _ _ _ _=>a
 | _=>{posonlyargs:=[],args:=[],vararg:=none,kwonlyargs:=[],kw_defaults:=[],kwarg:=none,defaults:=[]}
def b9(s:Stmt):List Stmt:=match s with
 | .FunctionDef _ _ b _ _ _ _ _ _ _=>b
 | _=>[]
def bu(s:Stmt):Scope:=match s with
 | .FunctionDef _ _ _ _ _ _ sc _ _ _=>sc
 | _=>{kind:=.function,names:=[],isGenerator:=false,isCoroutine:=false}
abbrev am:cZ:=λ_ _ _ _ _ _=>False
abbrev E0:XK:=λ_ _ _=>False
def DD:sw am X E0:=λ_ _ _ _ _ _ _ h=>h.elim
structure Fun(K:W.Frag)(x qual:Str)(st:Stmt)(f:Addr)(fd:FuncData):Prop where
 ex:∃(oc:Value) (od:Option Addr) (kV be pm:Value) (an:Option Addr) (aA ct:Value) (fh:Array (Option Value)),
  fd=W.fnOf x qual (c7 st) (b9 st) (bu st) .none kV be pm an aA ct/\K.lookup f=!⟨oc,od,.func fd,fh⟩/\W.codeIn K aA qual=true
 kp:W.keepIn K (.ref f)=true
section
variable{P:Program}{w:World}{K:W.Frag}{mg:TJ}{base:Heap}
theorem Fun.ok{x qual:Str}{st:Stmt}{f:Addr}{fd:FuncData}{N ps:TV}{k:Nat}{sp:Sp}(F:Fun K x qual st f fd)(S:mX N ps (bu st))(len:∀vs H Q E,sp vs H Q E->vs.length=ps.length)(jY:∀(aA:Value) (A:Around) (outer:List Env) (s:Shared) (H:Hp) (vs:List V) (Q:VK) (E:XK),Room k (A.deeper (envOfC qual (bu st) (~~~s) f aA))->sp vs H Q E ->
   ∃t,PSs (fL am P w K mg base N qual (bu st) f aA A outer s H E).nox (b9 st) t/\t {nx:=λ_ H'=>Q .non H',rt:=Q} (start N vs) H):aK P w K mg base am (k+1) f fd ps sp:=by
 let⟨oc,od,kV,be,pm,an,aA,ct,fh,rfl,lk,fI⟩:=F.ex;show Do lk fI S len λA outer s H vs Q E hr fM=>?_
 let⟨t,h,q⟩:=jY aA A outer s H vs Q E hr fM;show⟨t,h.nox,q⟩
def Fun.binds{x qual:Str}{st:Stmt}{f:Addr}{fd:FuncData}{ps:TV}(F:Fun K x qual st f fd)(h:∀(kV be pm:Value) (an:Option Addr) (aA ct:Value) (us:TU),us.length=ps.length->bindArgs (W.fnOf x qual (c7 st) (b9 st) (bu st) .none kV be pm an aA ct) ⟨us,[]⟩=pure (ps.zip us)):Binds K fd ps []:=by
 let⟨oc,od,kV,be,pm,an,aA,ct,fh,rfl,lk,fI⟩:=F.ex;show .all (h kV be pm an aA ct)
def Kf{x qual:Str}{st:Stmt}{f:Addr}{oc:Value}{od an:Option Addr}{fh:Array (Option Value)}{kV be pm aA ct:Value}(l:K.lookup f=!⟨oc,od,.func (W.fnOf x qual (c7 st) (b9 st) (bu st) .none kV be pm an aA ct),fh⟩)(c:W.codeIn K aA qual=true)(k:W.keepIn K (.ref f)=true):Fun K x qual st f (W.fnOf x qual (c7 st) (b9 st) (bu st) .none kV be pm an aA ct):=⟨⟨oc,od,kV,be,pm,an,aA,ct,fh,O,l,c⟩,k⟩
end
def DE{k:Nat}(hr:Room k A):A.units+1<cLine:=yB (Nat.add_le_add_left (by decide:1<=64) _) hr.units
def aR{n:Nat}(h:n<=1000):n<sizeLine:=yB h {}
section
variable{X:Cx}
def pv(i:Nat)(hN:X.N[i]?=!x:=by rfl)(hv:oQ X.env.scope x:=by first | show Or.inl rfl | show Or.inr (Or.inl rfl) | show Or.inr (Or.inr rfl))(hd:(x == ("__debug__" : Str))=false:=by decide)(fI:(x == ("__classdict__" : Str))=false:=by decide):PE X (.Name x pos) (jm i):=Sx hN hv hd fI
end
def aW{A B:Prop}(h:B):if false=true then A else B:=by
 rw[if_neg qZ];show h
def aY{A B:Prop}(h:A):if true=true then A else B:=by
 rw[if_pos O];show h
def ca{c A B:Prop}[Decidable c](h1:c->A)(h2:¬c->B):if c then A else B:=by
 by_cases h:c
 .rw[if_pos h];show h1 h
 .rw[if_neg h];show h2 h
def Same(H H':Hp):=∀b o,H b=!o->H' b=!o
def Same.refl(H:Hp):Same H H:=λ_ _ h=>h
def Same.trans(a:Same H H1)(b:Same H1 H2):Same H H2:=λc o h=>b c o (a c o h)
theorem Same.free(e:Same H H')(h:H' l=Option.none):H l=Option.none:=by
 cases q:H l with
 | none=>rfl
 | some o =>
   rw[e l o q]at h
   cases h
theorem Au{β:Type}{c:β}:∀{l:List (Str×β)},l.lookup x=!c->(x,c)∈l
 | [],q=>by cases q
 | (k, v) :: r, q => by
   rw[yS]at q
   cases e:x == k with
   | true =>
     rw[e]at q
     have:x=k:=‹e›
     cases q
     rw[this]
     show rB
   | false =>
     rw[e]at q
     show qU _ (Au q)
theorem Kg{β:Type}{c:β}:∀{l:List (Str×β)},(x,c)∈l->∃c',l.lookup x=!c'
 | [],q=>nomatch q
 | (k, v) :: r, q => by
   rw[yS]
   cases e:x == k with
   | true=>show⟨v,O⟩
   | false =>
     rcases qO.mp q with z | z
     · have:x=k:=xC Prod.fst z
       rw[this]at e
       simp at e
     · show Kg z
theorem DF{env:Env}{f:Str×NameKind->List (Str×Addr)->Sem (ForInStep (List (Str×Addr)))}:∀(l:List (Str×NameKind)) (acc:List (Str×Addr)),
  (∀x∈l,x.2=.free->∃c,env.cells.lookup x.1=!c/\∀r,f x r=pure (.yield ((x.1,c)::r)))->(∀x∈l,x.2≠.free->∀r,f x r=pure (.yield r)) ->
  ∃cl,forIn l acc f=pure cl/\(∀p∈acc,p∈cl)/\(∀p∈cl,p∈acc\/env.cells.lookup p.1=!p.2)/\∀x,(x,NameKind.free)∈l->∃c,(x,c)∈cl
 | [],acc,_,_=>⟨acc,O,λ_ q=>q,λ_ q=>.inl q,λ_ q=>nomatch q⟩
 | x :: l, acc, h1, h2 => by
   by_cases hx:x.2=.free
   · obtain⟨c,e,hf⟩:=h1 x rB hx
     let⟨cl,q1,q2,q3,q4⟩:=DF l ((x.1,c)::acc) (λy hy=>h1 y (qU _ hy)) λy hy=>h2 y (qU _ hy)
     show⟨cl,?_,λp hp=>q2 p (qU _ hp),λp hp=>?_,λy hy=>?_⟩
     · rw[List.forIn_cons,hf,pure_bind]
       show q1
     · rcases q3 p hp with z | z
       · rcases qO.mp z with z | z
         · subst z;show .inr e
         · show .inl z
       · show .inr z
     · rcases qO.mp hy with z | z
       · show⟨c,by have:=q2 _ (rB (a:=(x.1,c)) (l:=acc));rw[<-z]at this;show this⟩
       · show q4 y z
   · obtain⟨cl,q1,q2,q3,q4⟩:=DF l acc (λy hy=>h1 y (qU _ hy)) λy hy=>h2 y (qU _ hy)
     show⟨cl,?_,q2,q3,λy hy=>?_⟩
     · rw[List.forIn_cons,h2 x rB hx,pure_bind]
       show q1
     · rcases qO.mp hy with z | z
       · show absurd (by rw[<-z]) hx
       · show q4 y z
theorem Kh{scope:Scope}{env:Env}(h:∀ x∈scope.names,x.2=.free->∃ c,env.cells.lookup x.1=!c) :
  ∃ cl,closureFor scope env=pure cl/\(∀ x c,cl.lookup x=!c->env.cells.lookup x=!c)/\∀ x,(x,NameKind.free)∈scope.names->∃ c,cl.lookup x=!c:=by
 have key:∀ f:Str × NameKind->List (Str × Addr)->Sem (ForInStep (List (Str × Addr))),(∀ x∈scope.names,x.2=.free->∃ c,env.cells.lookup x.1=!c/\∀ r,f x r=pure (.yield ((x.1,c) :: r)))->(∀ x∈scope.names,x.2≠.free->∀ r,f x r=pure (.yield r)) ->
   closureFor scope env=forIn scope.names [] f ->
   ∃ cl,closureFor scope env=pure cl/\(∀ x c,cl.lookup x=!c->env.cells.lookup x=!c)/\∀ x,(x,NameKind.free)∈scope.names->∃ c,cl.lookup x=!c:=by
  intro f h1 h2 e
  let⟨cl,q1,_,q3,q4⟩:=DF (env:=env) (f:=f) scope.names [] h1 h2
  show ⟨cl,e.trans q1,λx c z=>?_,λx hx=>?_⟩
  .rcases q3 (x,c) (Au z) with k | k
   .show nomatch k
   .show k
  .let⟨c,z⟩:=q4 x hx
   show Kg z
 show key (λx r=>if x.2 == .free then (do let c <- cellOf env x.1; pure (.yield ((x.1,c) :: r))) else pure (.yield r)) (λx hx hf=>?_) (λx hx hf r=>?_) ?_
 .let⟨c,e⟩:=h x hx hf
  show ⟨c,e,λr=>?_⟩
  have hk:(x.2 == NameKind.free)=true:=by rw [hf]; rfl
  simp only [hk,if_true,cellOf,e,pure_bind]
 .have hk:(x.2 == NameKind.free)=false:=by
   cases q:x.2 == NameKind.free with
   | false=>rfl
   | true=>show absurd ‹q› hf
  simp only [hk,Bool.false_eq_true,if_false]
 .simp only [closureFor]
  rw [bind_pure]
def bU(X:Cx)(N':TV)(scope:Scope)(cl:List (Str×Addr))(C:Addr)(ir:Shared)(U7:Hp)(fp:TQ):Cx :=
 {X with N:=N',s₀:=ir,H₀:=U7,env:=compEnvC scope cl C X.env,outer:=X.stack,ex:=fp,fn:=λ_=>false,pn:=[],xe:=λ_ _=>False}
def gU(own:Nat)(ix:TM)(σ:St):St:=List.replicate own none++ix.map λj=>(σ[j]?).join
def ng(own:Nat)(ix:TM)(g:TG)(tt:TT)(te:TE)(J:It)(σ:St)(H:Hp)(Q:VK):Prop :=
 ∃W:Nat->Nat->List V->St->Hp->Prop,(∃m,W 0 m [] (gU own ix σ) H) /\
  ∀i m ys ae H',W i m ys ae H'->ys.length<sizeLine /\
   ((J.stop i H'/\∀ D,H' D=none->Q (.ref D) (af H' D (.lst ys))) \/
    (J.go i H'/\∃N:List V->St->Hp->Prop,(∀zs aV H2,N zs aV H2->∃m',m'<m/\W (i+1) m' zs aV H2)/\∀x H2,J.yld i H' x H2->g x ae H2 λaV H3=>tt aV H3 λb H4 =>
       if b=true then te aV H4 λv H5=>N (ys++[v]) aV H5 else N ys aV H4))
def Av(own:Nat)(ix:TM)(wi:TI)(g:TG)(tt:TT)(te:TE):TE:=λσ H Q=>wi σ H λJ H1=>ng own ix g tt te J σ H1 Q
def Ki(di:TW)(env:Env):Sem Bool :=
 forIn di true λc r=>if r=true then do let ok <- isTrue c env (eval c env); pure (ForInStep.yield ok) else pure (ForInStep.yield r)
def nh(X:Cx)(di:TW)(t:TT):Prop :=
 ∀(aa:TF) (s:Shared) (σ:St) (H:Hp) (Q:Bool->Hp->Prop),Inv X aa σ H s->t σ H Q->wpAny (model X.prog X.w) X.A (Ki di X.env) (TP X aa σ Q) X.xe s
def U8:TT:=λ_ H Q=>Q true H
def bf:nh X [] U8:=λ_ _ _ H _ I h=>wpAny_tests_nil ⟨H,I,h⟩
def iA(h:PT X c t):nh X [c] t:=λaa s σ H Q I q=>wpAny_tests_one (h aa s σ H Q I q)
theorem U9{R:Result->Shared->Prop}(J:Nat->Shared->Prop)(turn:∀ n s,J n s->wpAny (model prog w) A (pyNext it) (λr s1=>match r with
   | none=>R (.ok .next) s1
   | some v=>wpAny (model prog w) A (letOwnedTupleGo tg it v) (λ_ s2=>wpAny (model prog w) A (assign tg env v) (λ_ s3=>wpAny (model prog w) A (Ki di env) (λok s4 =>
     if ok=true then wpAny (model prog w) A (eval dA env) (λx s5=>wpAny (model prog w) A (call (.builtin "list.append") [acc,x]) (λ_ s6=>∃ m,m < n/\J m s6) (λ_ _=>False) s5) (λ_ _=>False) s4
     else ∃ m,m < n/\J m s4) (λ_ _=>False) s3) (λ_ _=>False) s2) (λ_ _=>False) s1) (λ_ _=>False) s)(n:Nat)(h:J n s):codeAny (model prog w) A (.compLoop (.ListComp dA [⟨tg,iter,di,0⟩] scope pos) 0 it acc env) R s:=by
 show codeAny_loop O J (λn s hI=>?_) n h
 show wpAny (model prog w) A ((compTurn (.ListComp dA [⟨tg,iter,di,0⟩] scope pos) 0 it acc env).onRaise (λz=>do noteFrame z env; theTreesLotGoes z)) _ _ s
 show wpAny_noted ?_
 rw [compTurn_list]
 show qC (vE (qC (xB (turn n s hI) (λr s1 q1=>?_) λ_ _ z=>z.elim)))
 cases r with
 | none=>show qM q1
 | some v =>
   show qC (xB q1 (λ_ s2 q2=>?_) λ_ _ z=>z.elim)
   show qC (xB q2 (λ_ s3 q3=>?_) λ_ _ z=>z.elim)
   show qC (xB q3 (λok s4 q4=>?_) λ_ _ z=>z.elim)
   cases ok with
   | false=>show qM ⟨O,q4⟩
   | true =>
     show qC (qC (xB q4 (λx s5 q5=>?_) λ_ _ z=>z.elim))
     show qC (xB q5 (λ_ s6 q6=>qM (qM ⟨O,q6⟩)) λ_ _ z=>z.elim)
section
variable{fs ex:TQ}{H H1:Hp}{h h1:Heap}{D:Addr}{o:HO}
def Un.track(u:Un fs ex H H1 h h1)(hD:h.objs.size<=D)(n0:H D=none):Un fs ex H (af H1 D o) h h1 where
 keep:=u.keep
 slot:=u.slot
 free:=λb ob q n hx=>by rw[aE (rA (rE (qL q) hD))];show u.free b ob q n hx
 there:=u.there
 tups:=λb xs q=>by rw[aE (cH q n0)];show u.tups b xs q
 frzs:=λb ob xs q=>by rw[aE (cH q n0)];show u.frzs b ob xs q
 tbls:=λb ps q=>by rw[aE (cH q n0)];show u.tbls b ps q
def HOk.track(x:HOk P w H h)(n0:H D=none)(new:ObjOk P w (af H D o) h D o):HOk P w (af H D o) h:=λa u e=>by
 by_cases z:a=D
 .subst z;rw[aj]at e;cases e;show new
 .rw[aE z]at e;show(x a u e).stay (λ_ _ _ q=>q) (λb q=>by rw[aE (cH q n0)];show q) λb xs q=>by rw[aE (cH q n0)];show q
end
abbrev lobj(ag:TU)(n:Nat):Obj:={cls:=.type "list",data:=.seq ag.toArray n}
def Inv.letgo{aa:TF}(I:Inv X aa σ H s)(f:iu X aa H C)(hs:Heap.SameBut C s.heap h'):Inv X aa σ H {s with heap:=h'} :=
 I.turned (t':=s.toks) (it:=C) (λb o hb e=>(hs.2 b hb).trans e) f.1 f.2.1 f.2.2.2.1 f.2.2.2.2.1 f.2.2.2.2.2
def Kj(h:(relabel scope env).names.lookup x=!k):∃k0,(x,k0)∈scope.names/\(k0=k\/(k0=.free/\k=.cell)):=by
 have m:=Au h;let⟨⟨n,k0⟩,h1,h2⟩:=qW.mp (show(x,k)∈scope.names.map _ from m);dsimp only at h2
 by_cases c:(k0 == NameKind.free && env.scope.kind == .function && env.kindOf n == !.cell)=true
 .rw[if_pos c]at h2;let⟨rfl,rfl⟩:=Prod.mk.inj h2;show⟨k0,h1,.inr ⟨?_,O⟩⟩;rw[yK,yK]at c;simpa using c.1.1
 .rw[if_neg c]at h2;let⟨rfl,rfl⟩:=Prod.mk.inj h2;show⟨k0,h1,.inl O⟩
theorem U'(h:scope.names.lookup x=!.free):(relabel scope env).names.lookup x=!.free\/(relabel scope env).names.lookup x=!.cell:=by
 have all:∀(l:List (Str×NameKind)),l.lookup x=!.free ->
   (l.map λ(n,k)=>if(k == NameKind.free && env.scope.kind == .function && env.kindOf n == !.cell)then(n,NameKind.cell)else(n,k)).lookup x=!.free \/
   (l.map λ(n,k)=>if(k == NameKind.free && env.scope.kind == .function && env.kindOf n == !.cell)then(n,NameKind.cell)else(n,k)).lookup x=!.cell:=by
  intro l
  induction l with
  | nil=>intro q;cases q
  | cons y r ih =>
    let⟨n,k⟩:=y
    intro q
    rw[yS]at q
    rw[xO]
    cases hx:x == n with
    | true =>
      rw[hx]at q
      cases q
      dsimp only
      split
      · right;rw[yS,hx]
      · left;rw[yS,hx]
    | false =>
      rw[hx]at q
      dsimp only
      split
      · rw[yS,hx];show ih q
      · rw[yS,hx];show ih q
 show all scope.names h
section
variable{X:Cx}{dA tg iter:Expr}{di:TW}{scope:Scope}{pos:Pos}{g:TG}{tt:TT}{te:TE}{N' own frees:TV}{ix:TM}{aa:TF}{σ:St}{H2:Hp}{s2:Shared}{it:Addr}{fp:TQ}{tn:Nat->Heap->Prop}{J:It}{cl:List (Str×Addr)}{E:TH}
structure CompScope(X:Cx)(scope:Scope)(own frees:TV)(ix:TM):Prop where
 kind:scope.kind=.function
 nocell:∀y∈scope.names,y.2≠.cell
 loc:∀y∈scope.names,y.2=.local->scope.names.lookup y.1=!.local
 fr:∀y∈scope.names,y.2=.free->X.env.scope.names.lookup y.1=!.cell\/X.env.scope.names.lookup y.1=!.free
 ixs:ix.map (λj=>X.N[j]?)=frees.map some
 isf:∀x∈frees,scope.names.lookup x=!.free
theorem Va(S:CompScope X scope own frees ix)(I:Inv X aa σ H2 s2)(gn:∀x c,cl.lookup x=!c->X.env.cells.lookup x=!c)(lN:∀x,(x,NameKind.free)∈scope.names->∃c,cl.lookup x=!c)(T:iU X.prog X.w X.K tg J fp it tn)(st:tn 0 s2.heap)(f2:∀b∈fp,iu X aa H2 b)(hC: ~~~s2<=C):(bU X N' scope cl C s2 H2 fp).Ok:=by
 have lt:∀b∈fp,b< ~~~s2:=λb hb=>by
  let⟨o,e,_⟩:=T.obj 0 _ st b hb;show qL e
 show⟨I.ok.mod,S.kind,I.ok.glob,I.ok.blt,hC,λx y c h1 h2=>I.ok.inj x y c (gn x c h1) (gn y c h2),λx hx=>?_,(λx c q=>nomatch q),I.ok.hd,I.ok.frames,.inl O,λb hb=>?_,I.bs,rF I.ok.bsz I.sz,λb o e hb=>?_,λb hb z=>?_,I.stack,I.stkFree⟩
 .have Aw:(relabel scope X.env).names.lookup x=!.cell\/(relabel scope X.env).names.lookup x=!.free:=hx;have fin:(x,NameKind.free)∈scope.names:=by
   rcases Aw with q | q
   .obtain⟨k0,m,z | ⟨z,_⟩⟩:=Kj q
    .show absurd z (S.nocell _ m)
    .rw[<-z];show m
   .obtain⟨k0,m,z | ⟨_,z⟩⟩:=Kj q
    .rw[<-z];show m
    .cases z
  show lN x fin
 .show⟨rA (rE (lt b hb) hC),λx c e=>(f2 b hb).2.2.2.2.1 x c (gn x c e)⟩
 .have q:=(f2 b hb).2.2.2.1;rcases q with q | q
  .show I.ok.noex b o e q
  .show absurd (rE (rE (qL e) I.ok.bsz) q) (rP _)
 .rcases qO.mp (I.stkSub b z)with q | q
  .show(f2 b hb).2.1 q
  .show(f2 b hb).2.2.1 q
theorem Kk(hc:X.calm=true)(S:CompScope X scope own frees ix)(I:Inv X aa σ H2 s2)(gn:∀x c,cl.lookup x=!c->X.env.cells.lookup x=!c)(lN:∀x,(x,NameKind.free)∈scope.names->∃c,cl.lookup x=!c)(T:iU X.prog X.w X.K tg J fp it tn)(st:tn 0 s2.heap)(f2:∀b∈fp,iu X aa H2 b)(hg:∀C,PG (bU X (own++frees) scope cl C s2 H2 fp) tg g)(ht:∀C,nh (bU X (own++frees) scope cl C s2 H2 fp) di tt)(he:∀C,PE (bU X (own++frees) scope cl C s2 H2 fp) dA te){Q:VK}{W:Nat->Nat->List V->St->Hp->Prop}(w0:∃m,W 0 m [] (gU own.length ix σ) H2)(turn:∀i m ys ae H',W i m ys ae H'->ys.length<sizeLine /\
   ((J.stop i H'/\∀ D,H' D=none->Q (.ref D) (af H' D (.lst ys))) \/
    (J.go i H'/\∃N:List V->St->Hp->Prop,(∀zs aV H2,N zs aV H2->∃m',m'<m/\W (i+1) m' zs aV H2)/\∀x H2,J.yld i H' x H2->g x ae H2 λaV H3=>tt aV H3 λb H4 =>
       if b=true then te aV H4 λv H5=>N (ys++[v]) aV H5 else N ys aV H4))){RR:Value->Addr->Result->Shared->Prop}(sW:∀D C H' s' m,Inv X aa σ H' s'->iu X aa H' C->s'.heap.Ns C m->Q (.ref D) H'->RR (.ref D) C (.ok .next) s') :
  wpAny (model X.prog X.w) X.A (newList []) (λacc s3=>wpAny (model X.prog X.w) X.A (newFunctionEnv scope X.env.globals cl [] X.env.qual none .none (!X.env)) (λKl s4 =>
   codeAny (model X.prog X.w) X.A (.compStart (.ListComp dA [⟨tg,iter,di,0⟩] scope pos) 0 (.ref it) acc {Kl with scope:=relabel scope X.env}) (RR acc Kl.locals) s4) E s3) E s2:=by
 let⟨m0,w0⟩:=w0;show yH (wpAny_newFunctionEnv S.nocell (by intro y hy;simp at hy) (λh1 DG Ax=>?_) S.kind);dsimp only at DG Ax⊢;generalize eH:s2.heap.push {cls:=.type "list",dict:=none,data:=.seq ([]:TU).toArray}=G at DG Ax⊢;have Km:G.objs.size= ~~~s2+1:=by rw[<-eH,rM]
 have hC: ~~~s2<=G.objs.size:=by rw[Km];show yD _
 have DH: ~~~s2≠G.objs.size:=by rw[Km];show rA (rX _)
 have below:∀b,b< ~~~s2->b≠G.objs.size/\b≠~~~s2:=λb hb=>⟨rA (rE hb hC),rA hb⟩
 have old:∀b o,s2.heap.get? b=!o->h1.get? b=!o:=λb o e=>Ax.extBut b o (below b (qL e)).1 (qE _ (eH ▸ qE _ e))
 have Vb:h1.get? (~~~s2)=!lobj [] 0:=Ax.extBut _ _ DH (qE _ (eH ▸ qT _ O));have DI:∀b∈fp,b< ~~~s2:=λb hb=>by
  let⟨o,e,_⟩:=T.obj 0 _ st b hb;show qL e
 have Kn:(bU X (own++frees) scope cl G.objs.size s2 H2 fp).Ok:=Va S I gn lN T st f2 hC;have Vc:∀x c,cl.lookup x=!c->c< ~~~s2:=λx c e=>by
  let⟨v,q⟩:=I.cell x c (gn x c e);show q.lt
 have Vd:∀b,~~~s2<=b->b∉cS X.stack:=λb hb z=>by
  rcases qO.mp (I.stkSub b z)with q | q
  .show absurd (rE I.lt (by rw[<-q];show hb)) (rP _)
  .show I.nofs hb q
 have Ve:ix.length=frees.length:=by have:=xC List.length S.ixs;simpa using this
 have I0:Inv (bU X (own++frees) scope cl G.objs.size s2 H2 fp) [(~~~s2,lobj [] 0)] (gU own.length ix σ) H2 {s2 with heap:=h1,toks:=s2.toks+([]:List (Str×Value)).length}:=by
  let⟨m2,n2,l2⟩:=id I.loc;show⟨Kn,O,I.bare,Un.kept old,⟨_,DG,λi x v e1 e2 e3=>?_⟩,λx c e=>?_,I.hok.fresh hC,λx c e=>I.freeC x c (gn x c e),λp hp=>?_,I.hok.kept old,?_⟩
  .have e1:(own++frees)[i]?=!x:=e1
   by_cases hi:i<own.length
   .unfold gU at e2;rw[rW ‹hi›,List.getElem?_replicate]at e2
    split at e2<;>cases e2
   .have ci:own.length<=i:=yM hi;unfold gU at e2;rw[rJ ‹ci›,rY,qK]at e2;rw[rJ ci]at e1;cases ej:ix[i-own.length]? with
    | none=>rw[ej]at e2;cases e2
    | some j =>
      rw[ej]at e2
      have sX:(σ[j]?).join=!v:=rD e2
      have ev:σ[j]?=!!v:=by
        cases q:σ[j]? with
        | none=>rw[q]at sX;cases sX
        | some y=>rw[q]at sX;show xC some sX
      have eN:X.N[j]?=!x:=by
        have q:=xC (λl=>l[i-own.length]?) S.ixs
        simp only[List.getElem?_map,ej,e1,Option.map_some]at q
        show rD q
      have xf:x∈frees:=qR e1
      have xm:(x,NameKind.free)∈scope.names:=Au (S.isf x xf)
      have rz:oQ X.env.scope x:=by
        rcases S.fr _ xm O with q | q
        · show .inr (.inl q)
        · show .inr (.inr q)
      let⟨u,r,lk⟩:=l2 j x v eN ev rz
      show⟨u,r,?_⟩
      rcases lk with⟨k,_⟩ | ⟨_,c,ec,z⟩
      · have k':X.env.scope.names.lookup x=!.local:=k
        rcases S.fr _ xm O with q | q
        · rw[k']at q;cases q
        · rw[k']at q;cases q
      · let⟨c',pE⟩:=lN x xm
        have:c=c':=rD (ec.symm.trans (gn x c' pE))
        subst this
        show .inr ⟨?_,c,pE,z.keeps old⟩
        rcases U' (env:=X.env) (S.isf x xf)with q | q
        · show .inr q
        · show .inl q
  .let⟨v,z⟩:=I.cell x c (gn x c e);show⟨v,z.keeps old⟩
  .have gp:p=(~~~s2,lobj [] 0):=by simpa[bU]using hp
   subst gp;show⟨Vb,I.hok.fresh (qF _),DH,Vd _ (qF _),λv q=>nomatch q⟩
  .show(gU own.length ix σ).length=(own++frees).length;unfold gU;rw[qG,rY,qA,qG,Ve]
 have cL:tn 0 h1:=T.keep 0 _ _ st λb hb o e=>old b o e
 have mV:∀{H':Hp} {pl:TF},(∀b∈fp,H' b=none)->(∀p∈pl,~~~s2<=p.1)->∀b∈fp,iu (bU X (own++frees) scope cl G.objs.size s2 H2 fp) pl H' b:=λ{H' pl} hn hp b hb =>
  ⟨hn b hb,(below b (DI b hb)).1,λz=>Kn.exfs b hb z,.inl hb,λx c e=>(f2 b hb).2.2.2.2.1 x c (gn x c e),λp q z=>by
   have q':p∈pl:=by simpa[bU]using q
   have:=hp p q';rw[z]at this;show absurd (rE (DI b hb) this) (rP _)⟩
 have loop:∀s3:Shared,s3={s2 with heap:=h1,toks:=s2.toks+([]:List (Str×Value)).length} ->
   codeAny (model X.prog X.w) X.A (.compLoop (.ListComp dA [⟨tg,iter,di,0⟩] scope pos) 0 (.ref it) (.ref (~~~s2)) (compEnvC scope cl G.objs.size X.env)) (RR (.ref (~~~s2)) G.objs.size) s3:=by
  ext s3 rfl;show U9 (λn s'=>∃i ys ae H' ag k,Inv (bU X (own++frees) scope cl G.objs.size s2 H2 fp) [(~~~s2,lobj ag k)] ae H' s'/\tn i s'.heap/\(∀b∈fp,H' b=none)/\Vals ys ag/\W i n ys ae H') ?_ m0
   ⟨0,[],_,H2,[],0,I0,cL,λb hb=>(f2 b hb).1,.nil,w0⟩
  ext n s4 ⟨i,ys,Ay,H4,ag,k,I4,Ko,Kp,rv,w4⟩;let⟨hz,DJ⟩:=turn i n ys Ay H4 w4;have big:∀p∈[(~~~s2,lobj ag k)],~~~s2<=p.1:=λp hp=>by
   have:p=(~~~s2,lobj ag k):=‹hp›
   rw[this];show qF _
  rcases DJ with⟨stop,fin⟩ | ⟨go,NN,fR,step⟩
  .show xB (T.done (bU X (own++frees) scope cl G.objs.size s2 H2 fp) O O O hc i _ s4 Ay H4 (λ_ _=>False) I4 (mV Kp big) Ko stop) (λr s5 q5=>?_) λ_ _ z=>z
   let⟨hr,I5⟩:=q5;subst hr;have pD:=I5.pin (~~~s2,lobj ag k) (rO _ rB);let⟨m5,n5,_⟩:=id I5.loc;have Vf:HOk X.prog X.w (af H4 (~~~s2) (.lst ys)) s5.heap:=HOk.track I5.hok pD.2.1 ⟨xA hz,ag,k,rv,pD.1⟩;have un:Un (cS X.stack) fp H2 (af H4 (~~~s2) (.lst ys)) s2.heap s5.heap:=Un.track I5.base (qF _) (I.hok.fresh (qF _));have I6:Inv X aa σ (af H4 (~~~s2) (.lst ys)) s5:=I.call' (ch:=fp) I5.os un Vf I5.bare λb hb=>⟨(f2 b hb).2.2.2.1,(f2 b hb).2.1,(f2 b hb).2.2.2.2.1,(f2 b hb).2.2.2.2.2⟩
   show sW _ _ _ _ m5 I6 ?_ n5 (fin _ pD.2.1);show⟨?_,?_,?_,.inr (rF I.sz hC),λx c e z=>?_,λp hp z=>?_⟩
   .rw[aE (Ne.symm DH)];show I5.free
   .show xV (rE I.lt hC)
   .show I.nofs hC
   .let⟨v,q⟩:=I.cell x c e;show absurd (rE q.lt (by rw[z];show hC)) (rP _)
   .show absurd (rE (qL (I.pin p hp).1) (by rw[z];show hC)) (rP _)
  .refine xB (T.item (bU X (own++frees) scope cl G.objs.size s2 H2 fp) O O O hc i _ s4 Ay H4 (λ_ _=>False) I4 (mV Kp big) Ko go) (λr s5 q5=>?_) λ_ _ z=>z
   let⟨u,hr,q5⟩:=q5;subst hr;show xB q5 (λ_ s6 q6=>?_) λ_ _ z=>z
   let⟨x,H6,I6,r6,y6,tj,Vg⟩:=q6;have Vh:=I6.pinned (mV Vg big) (T.obj _ _ tj);show xB (hg _ _ s6 Ay H6 x u _ Vh r6 (step x H6 y6)) (λ_ s7 q7=>?_) λ_ _ z=>z
   let⟨dP,H7,I7,q7⟩:=q7;show xB (ht _ _ s7 dP H7 _ I7 q7) (λok s8 q8=>?_) λ_ _ z=>z
   let⟨H8,I8,q8⟩:=q8;cases ok with
   | false =>
     rw[if_neg qZ]at q8⊢
     let⟨m',hm,w8⟩:=fR _ _ _ q8
     show⟨m',hm,i+1,ys,dP,H8,ag,k,I8.unpinned,T.keep _ _ _ tj λb hb o e=>(I8.pin (b,o) (rO _ (rO _ (o3 hb e)))).1,λb hb=>?_,rv,w8⟩
     let⟨o,e,d⟩:=T.obj _ _ tj b hb
     show(I8.pin (b,o) (rO _ (rO _ (o3 hb e)))).2.1
   | true =>
     rw[if_pos O]at q8⊢
     show xB (he _ _ s8 dP H8 _ I8 q8) (λv s9 q9=>?_) λ_ _ z=>z
     let⟨y,H9,I9,ry,q9⟩:=q9
     let⟨m',hm,w9⟩:=fR _ _ _ q9
     have pD:=I9.pin (~~~s2,lobj ag k) (rO _ (uG _ rB))
     have tq:=rv.length
     show wpAny_list_append_plain (items:=ag.toArray) ⟨k,pD.1⟩ (λh' hp hs=>?_) (by rw[qY];omega)
     let⟨k',e'⟩:=hp
     have ne:∀b∈fp,b≠~~~s2:=λb hb=>(below b (DI b hb)).2
     have I10:Inv (bU X (own++frees) scope cl G.objs.size s2 H2 fp) (mU fp s6.heap) dP H9 s9:=I9.pins_of λp hp=>I9.pin p (rO _ (rO _ hp))
     have I11:Inv (bU X (own++frees) scope cl G.objs.size s2 H2 fp) (mU fp s6.heap) dP H9 {s9 with heap:=h',toks:=s9.toks} :=
       I10.turned (it:= ~~~s2) (λb o hb e=>(hs.2 b hb).trans e) pD.2.1 pD.2.2.1 (.inr (qF _)) (λx c e z=>absurd (Vc x c e) (by rw[z];show rP _)) λp hp z=>by
         have gp:p∈mU fp s6.heap:=by simpa[bU]using hp
         show ne p.1 (Jz gp).1 z
     have Vi:h'.get? (~~~s2)=!lobj (ag++[v]) k':=by rw[e'];simp
     have Vj:Inv (bU X (own++frees) scope cl G.objs.size s2 H2 fp) [(~~~s2,lobj (ag++[v]) k')] dP H9 {s9 with heap:=h',toks:=s9.toks}:=I11.pins_of λp hp=>by
       have:p=(~~~s2,lobj (ag++[v]) k'):=‹hp›
       subst this
       show⟨Vi,pD.2.1,pD.2.2.1,pD.2.2.2.1,λv q=>nomatch q⟩
     show⟨m',hm,i+1,ys++[y],dP,H9,ag++[v],k',Vj,T.keep _ _ _ tj λb hb o e=>(hs.2 b (ne b hb)).trans (I9.pin (b,o) (rO _ (rO _ (o3 hb e)))).1,λb hb=>?_,rv.append (.cons ry .nil),w9⟩
     let⟨o,e,d⟩:=T.obj _ _ tj b hb
     show(I9.pin (b,o) (rO _ (rO _ (o3 hb e)))).2.1
 show codeAny_compStart_list (loop _ O) (T.self _ 0 _ _ _ cL (loop _ O))
variable{wi:TI}
def Vk(hc:X.calm=true)(S:CompScope X scope own frees ix)(hi:PI X tg iter wi)(hg:∀cl C s2 H2 fp,PG (bU X (own++frees) scope cl C s2 H2 fp) tg g)(ht:∀cl C s2 H2 fp,nh (bU X (own++frees) scope cl C s2 H2 fp) di tt)(he:∀cl C s2 H2 fp,PE (bU X (own++frees) scope cl C s2 H2 fp) dA te)(hs:∀x,foldedSetIterable iter X.env x=pure x:=by intro _;rfl) :
  PE X (.ListComp dA [⟨tg,iter,di,0⟩] scope pos) (Av own.length ix wi g tt te):=by
 intro aa s σ H Q I h;let⟨cl,eI,gn,lN⟩:=Kh (scope:=scope) (env:=X.env) λx hx hf=>I.ok.has x.1 (S.fr x hx hf)
 rw[eval_ListComp];show wpAny_comprehension_free (use:=none) O hs eI S.kind S.loc ?_;show aN (hi aa s σ H _ I h) λv s1 h1=>aN h1 λAj s2 h2=>?_
 let⟨it,fp,tn,J,H2,e,I2,T,gP,f2,W,w0,turn⟩:=h2;subst e;show Kk (Q:=Q) (RR:=λacc C=>compPost (model X.prog X.w) X.A X.xe none (EP X aa σ Q) acc C) hc S I2 gn lN T gP f2 (λC=>hg cl C s2 H2 fp) (λC=>ht cl C s2 H2 fp) (λC=>he cl C s2 H2 fp) w0 turn ?_;intro D C H' s' m I' fC nC q;show⟨m,nC,λh' fS=>⟨.ref D,H',I'.letgo fC fS,O,q⟩⟩
def Vl{i:Nat}(hc:X.calm=true)(hN:X.N.Nodup)(DK:X.N[i]?=!y)(hy:Loc X.env.scope y)(S:CompScope X scope own frees ix)(hi:PI X tg iter wi)(hg:∀ cl C s2 H2 fp,PG (bU X (own++frees) scope cl C s2 H2 fp) tg g)(ht:∀ cl C s2 H2 fp,nh (bU X (own++frees) scope cl C s2 H2 fp) di tt)(he:∀ cl C s2 H2 fp,PE (bU X (own++frees) scope cl C s2 H2 fp) dA te)(hf:X.fn y=true\/X.env.scope.names.lookup y=!.local:=by first | show .inl rfl | show .inr rfl | assumption)(DM:swapsWith (.ListComp dA [⟨tg,iter,di,0⟩] scope pos) (!.Name y py) DN.line X.env=pure true:=by with_unfolding_all rfl)(hs:∀ x,foldedSetIterable iter X.env x=pure x:=by intro _; rfl) :
  PS X (.Assign [.Name y py] (.ListComp dA [⟨tg,iter,di,0⟩] scope pos) DN) (lD (Av own.length ix wi g tt te) (a7 i)):=by
 intro aa s σ H D I h
 let⟨cl,eI,gn,lN⟩:=Kh (scope:=scope) (env:=X.env) λx hx hf=>I.ok.has x.1 (S.fr x hx hf)
 rw [exec_Assign_Name_used _ _ _ _ DM]
 show qC (vE (qC ?_))
 show wpAny (model X.prog X.w) X.A (do let _ <- comprehension (.ListComp dA [⟨tg,iter,di,0⟩] scope pos) scope X.env _ (newList []) false (eval iter X.env) (!assign (.Name y py) X.env)) _ _ s
 show qC (xB (wpAny_comprehension_free (use:=!assign (.Name y py) X.env) (Q:=λ_ s'=>SP X aa D .next s') O hs eI S.kind S.loc ?_) (λ_ s' q=>qM (qM q)) λ_ _ z=>z)
 show aN (hi aa s σ H _ I h) λv s1 h1=>aN h1 λAj s2 h2=>?_
 let⟨it,fp,tn,J,H2,e,I2,T,gP,f2,W,w0,turn⟩:=h2
 subst e
 show Kk (Q:=λv H'=>a7 i v σ H' D.nx) (RR:=λacc C=>compPost (model X.prog X.w) X.A X.xe (!assign (.Name y py) X.env) (λ_ s'=>SP X aa D .next s') acc C) hc S I2 gn lN T gP f2 (λC=>hg cl C s2 H2 fp) (λC=>ht cl C s2 H2 fp) (λC=>he cl C s2 H2 fp) w0 turn ?_
 intro L C H' s' m I' fC nC q
 show wpAny (model X.prog X.w) X.A (assign (.Name y py) X.env (.ref L)) _ _ _
 show wpAny_assign_Name (IY (v:=.ref L) I' hN DK hy O (λs3 I3 eC=>?_) hf)
 let⟨a,sb,ha⟩:=eC
 have Vm:C≠a:=by
  rcases ha with z | z
  .rw [z]; show fC.2.1
  .show λq=>fC.2.2.2.2.1 y a z q.symm
 show ⟨m,nC.sameBut sb Vm,λh' fS=>?_⟩
 show ⟨_,H',I3.letgo fC fS,q⟩
end
def bw{K:W.Frag}{a:Addr}{xs:List V}{own:Nat}{ix:TM}{g:TG}{tt:TT}{te:TE}{σ:St}{H:Hp}{Q:VK}(Pv:Nat->List V->St->Hp->Prop)(hz:xs.length<sizeLine)(h0:Pv 0 [] (gU own ix σ) H)(hl:∀i ys ae H',i<=xs.length->Pv i ys ae H'->SqL K H' a xs/\ys.length<=i)(hs:∀i x ys ae H',xs[i]?=!x->Pv i ys ae H'->g x ae H' λaV H3=>tt aV H3 λb H4=>if b=true then te aV H4 λv H5=>Pv (i+1) (ys++[v]) aV H5 else Pv (i+1) ys aV H4)(hd:∀ys ae H',Pv xs.length ys ae H'->∀D,H' D=none->Q (.ref D) (af H' D (.lst ys))) :
  ng own ix g tt te (oZ K a) σ H Q:=by
 show⟨λi m ys σ H=>m=xs.length-i/\i<=xs.length/\Pv i ys σ H,⟨xs.length,∅,rS _,h0⟩,?_⟩;ext i m ys σ H ⟨rfl,hi,p⟩;let⟨q,hy⟩:=hl i ys σ H hi p;show⟨(),?_⟩
 by_cases aX:i<xs.length
 .show .inr ⟨⟨xs,xs[i],q,by simp[aX]⟩,Pv (i+1),λzs ae H' p'=>⟨xs.length-(i+1),(),O,aX,p'⟩,λx H' y=>?_⟩;let⟨e,y⟩:=y;subst e;show hs i x ys σ _ (y xs q) p
 .have e:i=xs.length:=()
  subst e;show .inl ⟨⟨xs,q,qF _⟩,hd ys σ H p⟩
def ObjOk.at(x:ObjOk P w H h a o):∃u,h.get? a=!u:=by
 cases o with
 | lst xs=>let⟨_,_,_,_,e⟩:=x;show⟨_,e⟩
 | tup xs=>let⟨_,_,_,o,e,_⟩:=x;show⟨_,e⟩
 | dK ah=>let⟨_,_,_,_,o,_,_,e,_⟩:=x;show⟨_,e⟩
 | dT ah=>let⟨_,_,_,_,o,_,_,e,_⟩:=x;show⟨_,e⟩
 | set S n=>let⟨o,_,_,_,e,_⟩:=x;show⟨_,e⟩
 | ins C dx fs=>let⟨_,_,_,e,_⟩:=x;show⟨_,e⟩
 | own y=>show x
 | xd fs=>let⟨_,⟨_,_,_,e,_⟩,_⟩:=x;show⟨_,e⟩
 | rng lo hi=>let⟨_,_,_,e⟩:=x;show⟨_,e⟩
 | frz ob u=>let⟨e,_⟩:=x;show⟨_,e⟩
 | tbl ps=>show⟨_,x⟩
 | met f y=>show⟨_,x⟩
 | ext φ=>show x.2.1
section
variable{X:Cx}{aa:TF}{σ:St}{H:Hp}{s:Shared}{D:Addr}{o:HO}
def Inv.track(I:Inv X aa σ H s)(h0:X.s₀.heap.get? D=none)(hn:H D=none)(hL:D≠X.env.locals)(hc:∀x c,X.env.cells.lookup x=!c->c≠D)(hp:∀p∈X.pn++aa,p.1≠D)(new:ObjOk X.prog X.w (af H D o) s.heap D o):Inv X aa σ (af H D o) s:=by
 show⟨I.ok,I.os,I.bare,⟨I.base.keep,I.base.slot,λb ob q n hx=>?_,I.base.there,λb xs q=>?_,λb ob xs q=>?_,λb ps q=>?_⟩,I.loc,I.cell,?_,λx c e=>?_,λp z=>?_,HOk.track I.hok hn new,I.len⟩
 .rw[aE (λz=>by rw[z,h0]at q;cases q)];show I.base.free b ob q n hx
 .have r:=I.base.tups b xs q;rw[aE (λz=>by rw[z,hn]at r;cases r)];show r
 .have r:=I.base.frzs b ob xs q;rw[aE (λz=>by rw[z,hn]at r;cases r)];show r
 .let⟨more,r⟩:=I.base.tbls b ps q;show⟨more,by rw[aE (λz=>by rw[z,hn]at r;cases r)];show r⟩
 .rw[aE (Ne.symm hL)];show I.free
 .rw[aE (hc x c e)];show I.freeC x c e
 .let⟨q1,q2,q3,q4,q5⟩:=I.pin p z;show⟨q1,by rw[aE (hp p z)];show q2,q3,q4,q5⟩
end
mutual
inductive dq(H:Hp):V->W.Dat->Prop
 | non:dq H .non .none
 | int (i):dq H (.int i) (.int i)
 | str (x):dq H (.str x) (.str x)
 | tup {a xs ds}:H a=!.tup xs->fj H xs ds->dq H (.ref a) (.tuple ds)
 | lst {a xs ds}:H a=!.lst xs->fj H xs ds->dq H (.ref a) (.list ds)
inductive fj(H:Hp):List V->List W.Dat->Prop
 | nil:fj H [] []
 | cons {x d xs ds}:dq H x d->fj H xs ds->fj H (x::xs) (d::ds)
end
section
variable{P:Program}{w:World}{H:Hp}{h:Heap}
mutual
theorem tu(ok:HOk P w H h):∀{v:V} {d:W.Dat} {u:Value} (n:Nat),dq H v d->RelV v u->W.kqdOk n d=true->∃as,Reads h u (W.kqdP d) as
 | _,_,_,_,.non,r,_=>by cases r;show⟨_,Reads.none⟩
 | _,_,_,_,.int i,r,_=>by let⟨t,rfl⟩:=r;show⟨_,Reads.int i t⟩
 | _,_,_,_,.str x,r,_=>by let⟨t,rfl⟩:=r;show⟨_,Reads.str x t⟩
 | _,_,_,0,.tup _ _,_,hk=>by simp[W.kqdOk]at hk
 | _,_,_,0,.lst _ _,_,hk=>by simp[W.kqdOk]at hk
 | _, _, _, n + 1, .tup (a := a) e q, r, hk => by
   cases r
   let⟨_,ag,rv,o,e1,e2,k,e3⟩:=ok a _ e
   let⟨as,z⟩:=DO ok n q rv (by simpa[W.kqdOk]using hk)
   rw[W.kqdP]
   show⟨as,reads_tuple_at e1 e2 e3 ‹z›⟩
 | _, _, _, n + 1, .lst (a := a) e q, r, hk => by
   cases r
   let⟨_,ag,k,rv,e1⟩:=ok a _ e
   let⟨as,z⟩:=DO ok n q rv (by simpa[W.kqdOk]using hk)
   rw[W.kqdP]
   show⟨_,reads_list_at e1 O O ‹z›⟩
theorem DO(ok:HOk P w H h):∀{vs:List V} {ds:List W.Dat} {us:TU} (n:Nat),fj H vs ds->Vals vs us->(∀d∈ds,W.kqdOk n d=true)->∃as,ReadsAll h us (W.kqdPs ds) as
 | _,_,_,_,.nil,r,_=>by cases r;show⟨_,ReadsAll.nil⟩
 | _, _, _, n, .cons q qs, r, hk => by
   cases r with
   | cons r1 r2 =>
     let⟨as,z⟩:=tu ok n q r1 (hk _ (.head _))
     let⟨bs,y⟩:=DO ok n qs r2 λd hd=>hk d (.tail _ hd)
     rw[W.kqdPs]
     show⟨_,ReadsAll.cons z y⟩
end
end
def Kq{n k:Nat}(h1:W.kqdOk n d=true)(h2:W.kqdOk k e=true)[Decidable (d=e)]:PyData.eqv (W.kqdP d) (W.kqdP e)=decide (d=e):=by
 have q:=W.kqd_eqv n d e k h1 h2
 by_cases z:d=e
 .rw[qJ z];show q.mpr z
 .rw[qP z];show Bool.eq_false_iff.mpr λx=>z (q.mp x)
def Az(h:W.kqdOk 9 d=true):SeqAt.shaped (W.kqdP d)=true:=by
 have q:=W.kqd_lay 9 d h;unfold SeqAt.shaped;rw[q.1,Bool.true_and];show qJ (rF q.2 {})
section
variable{X:Cx}
open Classical in
inductive DP(neg:Bool):V->V->Hp->VK->Prop
|m d e:dq H x d->dq H y e->W.kqdOk 9 d=true->W.kqdOk 9 e=true->Q (.bl (if neg=true then (Bool.not (decide (d=e)))else decide (d=e))) H->DP neg x y H Q
open Classical in
def Vn(hu:X.A.units+64<cLine):bQ X (compareOp .Eq) (DP false):=by
 intro aa s σ H x y v u Q I rx ry h;let⟨d,e,h1,h2,k1,k2,q⟩:=h;let⟨as,r1⟩:=tu I.hok 9 h1 rx k1;let⟨bs,r2⟩:=tu I.hok 9 h2 ry k2;show eq_dataH r1 r2 (Az k1) (Az k2) hu (bR I q (by rw[Kq k1 k2];simp))
open Classical in
def Vo(hu:X.A.units+64<cLine):bQ X (compareOp .NotEq) (DP true):=by
 intro aa s σ H x y v u Q I rx ry h;let⟨d,e,h1,h2,k1,k2,q⟩:=h;let⟨as,r1⟩:=tu I.hok 9 h1 rx k1;let⟨bs,r2⟩:=tu I.hok 9 h2 ry k2;show ne_dataH r1 r2 (Az k1) (Az k2) hu (bR I q (by rw[Kq k1 k2];simp))
def Vp(i j:Int):=0<j/\j<18446744073709551616
def tz:bQ X (binaryOp .FloorDiv) (rI Vp λi j=>.int (i / j)):=si λi j _ _ _ _ _ hc q=>by
 have h1:(0:Int)<j:=hc.1;have h2:j<18446744073709551616:=hc.2;show floordiv_int () ?_ (.inl (PyProof.noPylong_of_log2 ?_))
 .rw[Int.fdiv_eq_ediv_of_nonneg i ()];show q
 .have h3:j.natAbs<2 ^ 64:=()
  show rE ((Nat.log2_lt ()).mpr h3) {}
def Vq:dy X (.builtin "isinstance") (λxs H Q=>∃x c t b,xs=[x,c]/\gh X.K H x t/\(∃cv,(∀u,RelV c u->u=cv)/\W.kitOne X.K t cv=!b)/\Q (.bl b) H):=by
 intro aa s σ H xs us Q I r h;let⟨x,c,t,b,rfl,ty,⟨cv,Vr,e⟩,q⟩:=h;let⟨u,w',rfl,r1,r2⟩:=vals2 r;obtain rfl:=Vr _ r2;show UE I r1 ty e λtk=>⟨.bl b,H,I.tok _,O,q⟩
end
end L2
namespace Bk
inductive Kd
 | body | case | shelf | grid | text | head | picture | aside | note | leaf | no
 deriving DecidableEq
def Kd.s:Kd->Str
 | .body=>s!"body"
 | .case=>s!"case"
 | .shelf=>s!"shelf"
 | .grid=>s!"grid"
 | .text=>s!"text"
 | .head=>s!"head"
 | .picture=>s!"picture"
 | .aside=>s!"aside"
 | .note=>s!"note"
 | .leaf=>s!"leaf"
 | .no=>s!""
abbrev DQ:List Kd:=[.body,.case,.shelf,.grid,.text,.head,.picture,.aside,.note,.leaf,.no]
def Kd.inj(a b:Kd):(a.s=b.s)=(a=b):=by
 have m:∀a,a∈DQ:=by intro a;cases a<;>ac_rfl
 show propext ⟨λh=>(show∀a∈DQ,∀b∈DQ,a.s=b.s->a=b by ac_rfl) a (m a) b (m b) h,λh=>by rw[h]⟩
inductive So
 | word | page | note | sign
 deriving DecidableEq
def So.s:So->Str
 | .word=>s!"word"
 | .page=>s!"page"
 | .note=>s!"note"
 | .sign=>s!"sign"
def So.inj(a b:So):(a.s=b.s)=(a=b):=by
 cases a<;>cases b<;>first | show propext ⟨λ_=>rfl,λ_=>rfl⟩ | show propext ⟨λh=>absurd h (by ac_rfl),λh=>by cases h⟩
inductive Th
 | int (n:Int) | tri (s:So) (x:Sum Str Int) (t:Int)
structure Nd where
 e:Int
 k:Kd
 nm:Str
 mks:TV
 st:List Th
def pF:TM:=[97,98,99,100,101,102,103,104,105,106,107,108,109,110,111,112,113,114,115,116,117,118,119,120,121,122,
 65,66,67,68,69,70,71,72,73,74,75,76,77,78,79,80,81,82,83,84,85,86,87,88,89,90,48,49,50,51,52,53,54,55,56,57,46,44,45,59,58,39,40,41,33,63]
def tD(c:Nat):=97<=c/\c<=122
def AA(w:Str):=1<=w.length/\w.length<=20/\∀c∈w.cps.toList,c∈pF
def Name(n:Str):=1<=n.length/\n.length<=8/\∀c∈n.cps.toList,tD c
def gV:Th->Bool
 | .tri .note _ _=>true
 | _=>false
def gq:Th->Prop
 | .tri .word (.inl w) t=>AA w/\0<=t/\t<=3
 | .tri .page (.inl n) t=>Name n/\0<=t/\t<=3
 | .tri .note (.inr k) t=>0<=k/\k<=60/\t=0
 | _=>False
def DR:Th->Option Int
 | .tri .note (.inr k) _=>!k
 | _=>none
def fT(l:List Th):TN:=l.filterMap DR
def c8(n:Nat):TN:=(List.range n).map λ(i:Nat)=>(i:Int)
def DS(n:Nat):c8 (n+1)=c8 n++[(n:Int)]:=by unfold c8;rw[uD,qD];rfl
structure tF(n:Nat)(l:List Th):Prop where
 ok:∀x∈l,gq x
 ne:∃x r,l=x::r/\gV x=false
 nn:fT l=c8 n
 le:l.length<=60
def gX:Kd->Kd->Bool
 | .body,.case | .body,.shelf | .body,.grid | .body,.text | .body,.head | .body,.picture | .body,.aside=>true
 | .case,.case | .case,.shelf | .case,.grid | .case,.text | .case,.head | .case,.picture | .case,.aside=>true
 | .shelf,.case | .shelf,.shelf | .shelf,.grid | .shelf,.text | .shelf,.picture=>true
 | .grid,.case | .grid,.shelf | .grid,.grid | .grid,.text | .grid,.picture=>true
 | .text,.note | .head,.note=>true
 | .aside,.case | .aside,.shelf | .aside,.grid | .aside,.text | .aside,.head | .aside,.picture=>true
 | _,_=>false
def Vs:Kd->Bool
 | .body | .shelf | .grid | .aside=>true
 | _=>false
def Vt:Kd->Bool
 | .text | .head | .note=>true
 | _=>false
def Nexts:List Kd->Prop
 | []=>True
 | .aside :: .text::r=>Nexts r
 | .aside::_=>False
 | _::r=>Nexts r
def Holds(k:Kd)(ks:List Kd)(st:List Th):=(∀c∈ks,gX k c=true)/\(Vs k=true->ks≠[])/\Nexts ks/\(Vt k=true->fT st=c8 ks.length)
def j8(l:TV):Prop:=l.length<=4/\(∀m∈l,Name m)/\l.Pairwise λa b=>a.cps.toList<b.cps.toList
def Kr:Kd->List Th->Prop
 | .picture,l=>∃a b:Int,l=[.int a,.int b]/\1<=a/\a<=2000/\1<=b/\b<=2000
 | .text,l | .head,l | .note,l=>(∀x∈l,gq x)/\(∃x r,l=x::r/\gV x=false)/\l.length<=60
 | _,l=>l=[]
def cA:Str:=s!""
structure pG(d:Nd):Prop where
 nm:d.nm=cA\/Name d.nm
 mks:j8 d.mks
 st:Kr d.k d.st
inductive Forest:Nat->Nat->Nat->List Nd->List Kd->Prop
 | nil {e i lv:Nat}:Forest e i lv [] []
 | cons {e i lv:Nat} {d:Nd} {sub rest:List Nd} {ks bV:List Kd}:d.e=(e:Int)->lv<=6->d.k≠.body->Forest i (i+1) (lv+1) sub ks->Holds d.k ks d.st->Forest e (i+1+sub.length) lv rest bV->Forest e i lv (d::(sub++rest)) (d.k::bV)
theorem Forest.append{e lv:Nat}{i:Nat}(x:Forest e i lv a ks):Forest e (i+a.length) lv b bV->Forest e i lv (a++b) (ks++bV):=by
 induction x with
 | nil=>intro y;show y
 | @cons e i lv d sub rest ks ks1 h1 h2 h3 f1 h4 f2 js gt =>
   intro y
   have y':Forest e (i+1+sub.length+rest.length) lv b bV:=by
     have:i+(d::(sub++rest)).length=i+1+sub.length+rest.length:=by simp;omega
     rw[<-this];show y
   have:=gt y'
   rw[uT,rZ,uT]
   show .cons h1 h2 h3 f1 h4 this
def Forest.one{e i lv:Nat}(h1:d.e=(e:Int))(h2:lv<=6)(h3:d.k≠.body)(f:Forest i (i+1) (lv+1) sub ks)(h4:Holds d.k ks d.st):Forest e i lv (d::sub) [d.k]:=by
 have:=Forest.cons (rest:=[]) h1 h2 h3 f h4 .nil
 rwa [rQ]at this
def ItemKs(ke:Kd)(ks:List Kd):=(∃k,ks=[k]/\k≠.aside/\gX ke k=true)\/(ks=[.aside,.text]/\gX ke .aside=true/\gX ke .text=true)
theorem Nexts.append:∀{a b:List Kd},Nexts a->Nexts b->Nexts (a++b)
 | [],b,_,h=>h
 | [.aside],b,h,_=>by cases h
 | .aside :: k :: r, b, h, h' => by
   cases k<;>first | (show Nexts.append (a:=r) h h') | cases h
 | .body::r,b,h,h'=>Nexts.append (a:=r) h h'
 | .case::r,b,h,h'=>Nexts.append (a:=r) h h'
 | .shelf::r,b,h,h'=>Nexts.append (a:=r) h h'
 | .grid::r,b,h,h'=>Nexts.append (a:=r) h h'
 | .text::r,b,h,h'=>Nexts.append (a:=r) h h'
 | .head::r,b,h,h'=>Nexts.append (a:=r) h h'
 | .picture::r,b,h,h'=>Nexts.append (a:=r) h h'
 | .note::r,b,h,h'=>Nexts.append (a:=r) h h'
 | .leaf::r,b,h,h'=>Nexts.append (a:=r) h h'
 | .no::r,b,h,h'=>Nexts.append (a:=r) h h'
def ItemKs.nexts(h:ItemKs ke ks):Nexts ks:=by
 rcases h with⟨k,rfl,n,_⟩ | ⟨rfl,_⟩
 .cases k<;>first | trivial | show absurd rfl n
 .trivial
theorem ItemKs.may(h:ItemKs ke ks):∀k∈ks,gX ke k=true:=by
 rcases h with⟨k,rfl,_,m⟩ | ⟨rfl,m1,m2⟩
 .intro k' hk;have:k'=k:=‹hk›
  rw[this];show m
 .intro k' hk;rcases qO.mp hk with rfl | hk
  .show m1
  .have:k'=.text:=‹hk›
   rw[this];show m2
def ItemKs.ne(h:ItemKs ke ks):ks≠[]:=by
 rcases h with⟨k,rfl,_⟩ | ⟨rfl,_⟩<;>simp
def Names(l:List Nd):=(l.filter λd=>d.nm≠cA).map (·.nm) |>.Nodup
structure Book(l:List Nd):Prop where
 tree:∃d sub ks,l=d::sub/\d.e=-1/\d.k=.body/\Forest 0 1 1 sub ks/\Holds .body ks d.st
 form:∀d∈l,pG d
 names:Names l
def iB(R lv:Nat):Nat:=R+(if 4<=lv then 2 else if lv=3 then 12 else if lv=2 then 21 else 30)
end Bk
namespace L2
def ao(h:H p=none)(o:HO):Same H (af H p o):=λb u q=>by rw[aE (cH q h)];show q
def KeepN(N:Addr->Prop)(H H':Hp):=∀b o,N b->H b=!o->H' b=!o
def KeepN.trans{N:Addr->Prop}(a:KeepN N H H1)(b:KeepN N H1 H2):KeepN N H H2:=λc o n h=>b c o n (a c o n h)
def KeepN.mono{N N':Addr->Prop}(a:KeepN N H H1)(h:∀b,N' b->N b):KeepN N' H H1:=λc o n e=>a c o (h c n) e
def Same.keep{N:Addr->Prop}(s:Same H H'):KeepN N H H':=λb o _ e=>s b o e
def KeepN.refl{N:Addr->Prop}:KeepN N H H:=λ_ _ _ e=>e
end L2
namespace Bk
open L2
def Vu:Sum Str Int->V
 | .inl x=>.str x
 | .inr k=>.int k
def ItAt(N:Addr->Prop)(H:Hp)(v:V):Th->Prop
 | .int n=>v=.int n
 | .tri s x t=>∃a,v=.ref a/\N a/\H a=!.tup [.str s.s,Vu x,.int t]
theorem ItAt.keep{N N':Addr->Prop}(h:ItAt N H v x)(k:KeepN N H H')(sub:∀b,N b->(H b).isSome=true->N' b):ItAt N' H' v x:=by
 cases x with
 | int n=>show h
 | tri s x t =>
   let⟨a,e,n,g⟩:=h
   show⟨a,e,sub a n (by rw[g];rfl),k _ _ n g⟩
def StAt(N:Addr->Prop)(H:Hp)(s:Addr)(l:List Th):=N s/\∃vs,H s=!.lst vs/\Paired (ItAt N H) vs l
structure NdAt(N:Addr->Prop)(H:Hp)(a:Addr)(d:Nd):Prop where
 na:N a
 ex:∃m s,H a=!.tup [.int d.e,.str d.k.s,.str d.nm,.ref m,.ref s]/\N m/\H m=!.lst (d.mks.map V.str)/\StAt N H s d.st
def StAt.keep{N N':Addr->Prop}(h:StAt N H s l)(k:KeepN N H H')(sub:∀b,N b->(H b).isSome=true->N' b):StAt N' H' s l:=by
 let⟨n,vs,g,p⟩:=h;show⟨sub s n (by rw[g];rfl),vs,k _ _ n g,p.mono λv x q=>q.keep k sub⟩
def NdAt.keep{N N':Addr->Prop}(h:NdAt N H a d)(k:KeepN N H H')(sub:∀b,N b->(H b).isSome=true->N' b):NdAt N' H' a d:=by
 let⟨na,m,s,g,nm,gm,st⟩:=h;show⟨sub a na (by rw[g];rfl),m,s,k _ _ na g,sub m nm (by rw[gm];rfl),k _ _ nm gm,st.keep k sub⟩
abbrev NdsAt(N:Addr->Prop)(H:Hp)(as:TQ)(ds:List Nd):Prop:=Paired (NdAt N H) as ds
def NdsAt.keep{N N':Addr->Prop}(h:NdsAt N H as ds)(k:KeepN N H H')(sub:∀b,N b->(H b).isSome=true->N' b):NdsAt N' H' as ds:=h.mono λa d q=>q.keep k sub
theorem NdsAt.get{N:Addr->Prop}(h:NdsAt N H as ds){i:Nat}(e:ds[i]?=!d):∃a,as[i]?=!a/\NdAt N H a d:=by
 induction h generalizing i with
 | nil=>cases e
 | @cons a b l1 l2 q t ih =>
   cases i with
   | zero=>cases e;show⟨a,O,q⟩
   | succ i=>show ih ‹e›
theorem NdsAt.at{N:Addr->Prop}(h:NdsAt N H as ds){i:Nat}(e:as[i]?=!a):∃d,ds[i]?=!d/\NdAt N H a d:=by
 induction h generalizing i with
 | nil=>cases e
 | @cons a b l1 l2 q t ih =>
   cases i with
   | zero=>cases e;show⟨b,O,q⟩
   | succ i=>show ih ‹e›
def NdsAt.append{N:Addr->Prop}(p:NdsAt N H as ds)(h:NdsAt N H bs es):NdsAt N H (as++bs) (ds++es):=by
 induction p with
 | nil=>show h
 | cons q t ih=>show .cons q ih
def cB(N:Addr->Prop)(H:Hp)(p:Addr)(ds:List Nd):=∃as,H p=!.lst (as.map V.ref)/\NdsAt N H as ds
def aU{as:TQ}{i:Nat}{a:Addr}(e:as[i]?=!a):bD (as.map V.ref) ((i:Nat):Int)=!.ref a:=eG (by rw[qK,e];rfl)
end Bk
namespace L2
open PyProof.Rows
def Vv:bootBuiltins "enumerate" = !.type "enumerate":=by ac_rfl
section
variable{X:Cx}{aa:TF}{σ:St}{H:Hp}{s:Shared}{h':Heap}{fp:TQ}
def Inv.moved{t':Nat}(I:Inv X aa σ H s)(hf:∀b∈fp,iu X aa H b)(k:∀b o,b∉fp->s.heap.get? b=!o->h'.get? b=!o):Inv X aa σ H {s with heap:=h',toks:=t'}:=by
 show I.step (g':=s.gens) (d':=s.drawn) (ch:=fp) (λb hb=>?_) (λb o _ _ hc e _=>k b o hc e) (λb o _ _ hc e _=>⟨o.slots,k b o hc e⟩) (λ_ _ _ _ n=>n) (λb o hc e=>⟨o,k b o hc e⟩) (λ_ _ q=>q) (λ_ _ _ q=>q) (λb ps q=>⟨#[],by rw[q];simp⟩) (λm hn=>?_) (λa u q=>?_) I.bare
 .let⟨_,f1,_,f3,f4,f5⟩:=hf b hb;show⟨f3,f1,f4,f5⟩
 .let⟨o,es,ep,e,r⟩:=hn;show⟨o,es,ep,k _ _ (λz=>(hf _ z).2.1 O) e,r⟩
 .show(I.hok a u q).stay (λb v hb e=>k b v (λz=>?_) e) (λ_ z=>z) λ_ _ z=>z
  have:=(hf b z).1;rcases hb with rfl | hb
  .rw[q]at this;cases this
  .rw[hb]at this;cases this
end
def pH(K:W.Frag)(a:Addr):It :=
 ⟨λi H=>∃xs x,SqL K H a xs/\xs[i]?=!x,λi H x H'=>∃T y,H T=none/\x=.ref T/\H'=af H T (.tup [.int (i:Nat),y])/\∀xs,SqL K H a xs->xs[i]?=!y,λi H=>∃xs,SqL K H a xs/\xs.length<=i⟩
theorem Vw{P:Program}{w:World}{K:W.Frag}{iZ:TW}{k1:Nat}{tp:Pos}(a e it:Addr)(Ks:e≠it):iU P w K (.Tuple iZ k1 tp) (pH K a) [e,it] e (λi h=>(∃old,IsEnum h e it ((i:Nat):Int) old)/\h.IsListIter it a i) where
 mem:=∅
 obj:=λi h st b hb=>by
  let⟨⟨old,x⟩,o,e1,c,d⟩:=st;rcases qO.mp hb with rfl | hb
  .show⟨_,x,λv z=>by cases z⟩
  .have:b=it:=‹hb›
   subst this;show⟨o,e1,λv z=>by rw[d]at z;cases z⟩
 keep:=λi h h' st k=>by
  let⟨⟨old,x⟩,y⟩:=st;show⟨⟨old,k e ∅ _ x⟩,y.at λo z=>k it ∅ o z⟩
 item:=by
  intro X hP hw hK hc i aa s σ H E I hf st hg;subst hP hw hK;let⟨xs,x,hq,hx⟩:=hg;let⟨⟨old,cL⟩,gP⟩:=st;let⟨ag,rv,p,hz⟩:=I.list hq;let⟨u,hu,ru⟩:=rv.get hx;show wpAny_pyNext_enum_item cL gP p.isList (x:=u) ‹hu› Ks λh' ho Vx hT hsz hk=>?_
  show⟨_,O,wpAny_letOwnedTupleGo_enum ho λh2 DT sb=>?_⟩;have k2:∀b o,b∉[e,it]->s.heap.get? b=!o->h2.get? b=!o:=λb o hb z=>(sb.2 b (λq=>hb (by simp[q]))).trans (hk b o (λq=>hb (by simp[q])) (λq=>hb (by simp[q])) z)
  have dA:e< ~~~s:=qL cL;have DU:it< ~~~s:=by let⟨o,z,_⟩:=gP;show qL z
  have gT:h2.get? (~~~s)=!{cls:=.type "tuple",data:=.seq #[.int i s.toks,u]}:=(sb.2 _ (xV dA)).trans hT;have I1:Inv X aa σ H {s with heap:=h2,toks:=s.toks+1}:=I.moved hf k2;have hn:H (~~~s)=none:=I.hok.fresh (qF _);show⟨.ref (~~~s),af H (~~~s) (.tup [.int (i:Nat),x]),I1.track ?_ hn (xV I.lt) (λy c ec z=>?_) (λq hq z=>?_) ?_,O,⟨~~~s,x,hn,O,O,λys hy=>by rw[I.list_inj hy hq];show hx⟩,⟨⟨u,?_⟩,Vx.at λo z=>(sb.2 it (Ne.symm Ks)).trans z⟩,λb hb=>?_⟩
  .cases z:X.s₀.heap.get? (~~~s) with
   | none=>rfl
   | some u=>show absurd (rE (qL z) I.sz) (rP _)
  .let⟨v,q⟩:=I.cell y c ec;show absurd q.lt (by rw[z];show rP _)
  .show absurd (qL (I.pin q hq).1) (by rw[z];show rP _)
  .show⟨by show 2<=sizeLine;decide,[.int i s.toks,u],.cons ⟨_,O⟩ (.cons ru .nil),_,gT,O,_,O⟩
  .simpa using DT
  .rw[aE (λz=>by
    have:=hb;rw[z]at this;rcases qO.mp this with q | q
    .show absurd dA (by rw[<-q];show rP _)
    .have q': ~~~s=it:=‹q›
     show absurd DU (by rw[<-q'];show rP _))]
   show(hf b hb).1
 done:=by
  intro X hP hw hK hc i aa s σ H E I hf st hg;subst hP hw hK;let⟨xs,hq,hx⟩:=hg;let⟨⟨old,cL⟩,gP⟩:=st;let⟨ag,rv,p,hz⟩:=I.list hq;have hl:=rv.length;show wpAny_pyNext_enum_end (I.ok.hd hc) cL gP p.isList (by simp;omega) λh' eb=>⟨O,I.moved (t':=s.toks) hf λb o hb z=>eb b o (λq=>hb (by simp[q])) z⟩
 self:=λ_ _ _ _ _ st h=>by
  let⟨⟨old,x⟩,_⟩:=st;show wpAny_pyIter_enum x h
def DV(x:Str):It:=⟨λi _=>i<x.cps.size,λi H v H'=>H'=H/\∃c,x.cps[i]?=!c/\v=.str ⟨#[c]⟩,λi _=>x.cps.size<=i⟩
section
variable{X:Cx}{tg:Expr}
inductive Kt(K:W.Frag)(R:It->Hp->Prop):List V->Hp->Prop
|m {vs H1} a:vs=[.ref a]->(∃xs,SqL K H1 a xs)->R (pH K a) H1->Kt K R vs H1
def Vy(K:W.Frag)(ta:TA):TI:=λσ H R=>ta σ H (Kt K R)
theorem tG{iZ:TW}{k1:Nat}(hg:Gl X "enumerate")(hm:X.mg "enumerate" = none)(ha:PA X [a] ta)(hs:starEach [a] X.env=[(false,eval a X.env)]:=by rfl):PI X (.Tuple iZ k1 tp) (.Call (.Name "enumerate" p) [a] [] pos) (Vy X.K ta):=by
 intro aa s σ H R I h;show Call_ (iQ I hg hm Vv (xK (aN (ha pos aa s σ H _ I h) λus s1 ⟨vs,H1,I1,r1,q1⟩=>?_) hs O));let⟨l,e,⟨xs,hq⟩,q⟩:=q1;subst e;cases r1 with
 | cons r rr =>
   cases rr
   cases r
   let⟨ag,rv,pl,hz⟩:=I1.list hq
   show call_enumerate_list pl.isList λh' he tI hsz kp=>?_
   show wpAny_pyIter_enum he ?_
   have I2:Inv X aa σ H1 {s1 with heap:=h'}:=I1.kept (t':=s1.toks) kp
   show⟨~~~s1+1,[~~~s1+1,~~~s1],_,_,H1,O,I2,Vw l _ _ (xV (rX _)),⟨⟨_,‹he›⟩,tI⟩,λb hb=>?_,q⟩
   rcases qO.mp hb with rfl | hb
   · show I1.fpOk (yD _) (I1.hok.fresh (yD _))
   · have:b= ~~~s1:=‹hb›
     subst this
     show I1.fpOk (qF _) (I1.hok.fresh (qF _))
end
end L2
namespace L2
section
variable{κ:Type}[DecidableEq κ]
def cI(l:List κ)(v:κ):List κ:=if v∈l then l else l++[v]
def met(val:Nat->κ)(i:Nat):List κ:=((List.range i).map val).foldl cI []
def DW(val:Nat->κ)(i:Nat):met val (i+1)=cI (met val i) (val i):=by
 unfold met;rw[uD,qD,List.foldl_append];rfl
theorem Ku(val:Nat->κ):∀i,(met val i).length<=i
 | 0=>qF _
 | i + 1 => by
   rw[DW]
   unfold cI
   have:=Ku val i
   split
   · omega
   · rw[qG,yJ];omega
def Kv(l:List κ)(v k:κ):decide (k∈cI l v)=(decide (k∈l) || decide (k=v)):=by
 unfold cI
 by_cases z:v∈l
 .rw[if_pos z]
  by_cases e:k=v
  .subst e;simp[z]
  .simp[e]
 .rw[if_neg z];simp
def DX(l:List κ)(v:κ):(cI l v).length=if decide (v∈l)=true then l.length else l.length+1:=by
 unfold cI
 by_cases z:v∈l
 .simp[z]
 .simp[z]
def Kw{prog:Program}{w:World}{knd:KeyKind prog w κ}{h:Heap}{a:Addr}{S S':κ->Bool}{n n':Nat}(x:h.SetOf knd a S n)(e:∀k,S k=S' k)(en:n=n'):h.SetOf knd a S' n':=by
 obtain rfl:S=S':=funext e;show en ▸ x
end
section
variable{prog:Program}{w:World}{A:Around}{E:TH}{s:Shared}{κ:Type}[DecidableEq κ]{knd:KeyKind prog w κ}
abbrev jt(led:Bool):Obj:={cls:=.type "set",dict:=none,data:=.set #[] 0 (.fresh 0 0 led)}
def NotPlain(w:World)(h:Heap)(a:Addr):=∃o es ep t,h.get? a=!o/\o.data=.set es ep t/\(t.plain=false\/es.size=0)/\t.led=(Bool.not ((w.params.followText "set-order")))
def Vz(t:SetTable)(n:Nat):(t.orStandIn n).led=t.led:=by
 unfold SetTable.orStandIn
 split<;>rfl
def VA(t:SetTable)(es:Array (Int×Value))(h:Int)(x:Value):(layNew t es h x).2.1.led=t.led:=by
 unfold layNew
 split
 .show Vz _ _
 .rfl
theorem VB(t:SetTable)(es:Array (Int×Value))(n:Nat):(relayAll t es n).2.1.led=t.led:=by
 unfold relayAll;cases e:t.relaid (es.map (·.1)) n with
 | none=>rfl
 | some r =>
   let⟨t',order⟩:=r
   dsimp only
   split
   · unfold SetTable.relaid SetTable.laid at e
     cases e1:SetTable.layClean (SetTable.sizeAbove n-1) (es.map (·.1))with
     | none=>rw[e1]at e;cases e
     | some ow =>
       rw[e1]at e
       cases e
       rfl
   · rfl
theorem VC(t:SetTable)(es:Array (Int×Value))(n:Nat)(h:t.plain=false):(relayAll t es n).2.1.plain=false:=by
 unfold relayAll;cases e:t.relaid (es.map (·.1)) n with
 | none=>rfl
 | some r =>
   let⟨t',order⟩:=r
   dsimp only
   split
   · unfold SetTable.relaid SetTable.laid at e
     cases e1:SetTable.layClean (SetTable.sizeAbove n-1) (es.map (·.1))with
     | none=>rw[e1]at e;cases e
     | some ow =>
       rw[e1]at e
       cases e
       show h
   · rfl
theorem Kx{g:Bool->Sem Unit}(hg:∀ (b:Bool) (s1:Shared) (Q1:Unit->Shared->Prop),Q1 Unit.unit s1->wpAny (model prog w) A (g b) Q1 E s1){es:Array (Int × Value)}{ep:Nat}(ho:s.heap.get? a=!o)(hex:o.ExactSet)(hd:o.data=.set es ep t){bK:Array (Int × Value)}{S':κ->Bool}(ka:ElemsOf knd bK.toList)(nj:∀ k',S' k'=true↔∃ e∈bK.toList,knd.is k' e.2=true)(hb:bK.size < scanBound)(hf:t2.fits bK.size=true)(fu:t2.plain=false)(fi:t2.led=(Bool.not ((w.params.followText "set-order")))){dm:Bool}{R:Option Bool->Shared->Prop}(fin:∀ h',Heap.SameBut a s.heap h'->h'.SetOf knd a S' bK.size->NotPlain w h' a->R (!true) { s with heap:=h' }) :
  wpAny (model prog w) A (do
   storeSet a bK t2
   if ((Bool.not (dm)) && t2.tooFull)=true then do
       g (relayAll t2 bK (SetTable.grown bK.size)).2.2
       storeSet a (relayAll t2 bK (SetTable.grown bK.size)).1 (relayAll t2 bK (SetTable.grown bK.size)).2.1
       pure (!true)
    else pure (!true)) R E s:=by
 let⟨g1,x1⟩:=SetOf_store (knd:=knd) ho hex hd ka nj hb hf
 have b1:=Heap.SameBut.update s.heap a (Obj.putSet bK t2)
 show qC (wpAny_storeSet_of ho hd ?_ (fits_of_scanBound hb))
 by_cases Ky:((Bool.not (dm)) && t2.tooFull)=true
 .rw [if_pos Ky]
  have pm:=relayAll_perm t2 bK (SetTable.grown bK.size)
  have ft:=relayAll_fits t2 bK (SetTable.grown bK.size)
  have pl:=VC t2 bK (SetTable.grown bK.size) fu
  have ld:=VB t2 bK (SetTable.grown bK.size)
  generalize relayAll t2 bK (SetTable.grown bK.size)=Z at pm ft pl ld ⊢
  let⟨pI,t3,gv⟩:=Z
  dsimp only at pm ft pl ld ⊢
  have sz:pI.size=bK.size:=‹pm.length_eq›
  have AB:pI.size < scanBound:=()
  show qC (hg gv _ _ ?_)
  show qC (wpAny_storeSet_of g1 O ?_ (fits_of_scanBound AB))
  let⟨g2,x2⟩:=SetOf_store (knd:=knd) (S':=S') g1 hex O (ka.perm pm) (λk'=>(nj k').trans ⟨λz=>⟨z.choose,pm.mem_iff.mpr z.choose_spec.1,z.choose_spec.2⟩,λz=>⟨z.choose,pm.mem_iff.mp z.choose_spec.1,z.choose_spec.2⟩⟩) AB ft
  rw [sz] at x2
  show qM (fin _ (b1.trans (Heap.SameBut.update _ a _)) x2 ⟨_,_,_,_,g2,O,.inl pl,ld.trans fi⟩)
 .rw [if_neg Ky]
  show qM (fin _ b1 x1 ⟨_,_,_,_,g1,O,.inl fu,fi⟩)
theorem VD{S:κ->Bool}{n:Nat}{k:κ}{Q:Bool->Shared->Prop}(su:knd.is k (.str x tk)=true)(hS:s.heap.SetOf knd a S n)(hP:NotPlain w s.heap a)(room:n+1<scanBound)(fin:∀h',Heap.SameBut a s.heap h'->h'.SetOf knd a (λk'=>S k' || decide (k'=k)) (if S k then n else n+1)->NotPlain w h' a->Q ((Bool.not (S k))) {s with heap:=h'}) :
  wpAny (model prog w) A (setAddHashed a (.str x tk) (knd.hash k)) Q E s:=by
 let⟨o,es,ep,t,ho,hex,hd,ka,nj,hb,hf,hn⟩:=hS;unfold setAddHashed setAddHashedIn;show xQ (qC (xW ho hd hf ?_));dsimp only;rw[byScan_of (x:=.str x tk) O hb ka,if_pos O];unfold setAddByScan;show qC (qC (wpAny_rule (qC (wpAny_setScan_of su ho hd hf ka ?_))));cases there:List.findIdx? (λe=>knd.is k e.2) es.toList with
 | some j =>
   dsimp only
   let⟨hj,VE,_⟩:=List.findIdx?_eq_some_iff_getElem.mp there
   have DY:S k=true:=(nj k).mpr ⟨_,rL hj,VE⟩
   show qM (qM ?_)
   have q:=fin s.heap (Heap.SameBut.refl a s.heap) ⟨o,es,ep,t,ho,hex,hd,ka,λk'=>?_,hb,hf,by rw[if_pos DY];show hn⟩ hP
   · rw[DY]at q
     show q
   · rw[<-nj k',Bool.or_eq_true,decide_eq_true_eq]
     constructor
     · ext(z | rfl)
       · show z
       · show DY
     · show .inl
 | none =>
   dsimp only
   have no:S k=false:=Bool.eq_false_iff.mpr λz=>by
     let⟨e,he,hp⟩:=(nj k).mp z
     show absurd hp (by rw[List.findIdx?_eq_none_iff.mp there e he];show qZ)
   have pm:=layNew_perm t es (knd.hash k) (.str x tk)
   have ft:=layNew_fits t es (knd.hash k) (.str x tk)
   have ld:=VA t es (knd.hash k) (.str x tk)
   have VF:t.led=(Bool.not ((w.params.followText "set-order"))):=by
     let⟨o',mS,lA,t',e1,e2,_,e3⟩:=hP
     rw[ho]at e1
     cases e1
     rw[hd]at e2
     cases e2
     show e3
   rw[VF]at ld
   generalize layNew t es (knd.hash k) (.str x tk)=Z at pm ft ld⊢
   let⟨bK,t1,dm,gv⟩:=Z
   dsimp only at pm ft ld⊢
   rw[Array.toList_push]at pm
   have sz:bK.size=n+1:=by
     have:=pm.length_eq
     rw[qG,xI,xI,hn]at this
     show this
   have quiet:∀(b:Bool) (s1:Shared) (Q1:Unit->Shared->Prop),Q1 Unit.unit s1->wpAny (model prog w) A (match b with | true=>rule "set.scan.the-table-gave-way" | false=>pure Unit.unit) Q1 E s1:=λb s1 Q1 q=>by
     cases b with
     | true=>show wpAny_rule q
     | false=>show qM q
   have tJ:∀h',Heap.SameBut a s.heap h'->h'.SetOf knd a (λk'=>S k' || decide (k'=k)) bK.size->NotPlain w h' a->Q true {s with heap:=h'}:=λh' sb x' np=>by
     have q:=fin h' sb
     rw[no,if_neg qZ,<-sz]at q
     show q x' np
   show qC (quiet _ _ _ ?_)
   have tM:ElemsOf knd bK.toList:=(ka.push su O).perm pm
   have Kz:=λk'=>mem_push_iff su nj pm k'
   have AC:bK.size<scanBound:=()
   cases pl:t1.plain with
   | true =>
     rw[if_pos O,hashByValue_scannable 8 (x:=.str x tk) O]
     show qC (qM ?_)
     show Kx quiet ho hex hd tM Kz AC (t2:={t1 with plain:=false}) (SetTable.fits_plain_off ft) O ld λh' sb x' np=>?_
     show qM (tJ h' sb x' np)
   | false =>
     rw[if_neg qZ]
     show qC (qM ?_)
     show Kx quiet ho hex hd tM Kz AC (t2:=t1) ft pl ld λh' sb x' np=>?_
     show qM (tJ h' sb x' np)
end
def NotPlain.at(x:NotPlain w h a)(k:∀o,h.get? a=!o->h'.get? a=!o):NotPlain w h' a:=by
 let⟨o,es,ep,t,e,r⟩:=x;show⟨o,es,ep,t,k _ e,r⟩
section
variable{prog:Program}{w:World}{A:Around}{E:TH}{s:Shared}
def VG(a:Value){Q1:TH}(q:Q1 (.ref (~~~s)) {s with heap:=s.heap.push (jt ((Bool.not ((w.params.followText "set-order")))))}) :
  codeAny (model prog w) A (.call (.builtin "set.__new__") ⟨[.type "set",a],[]⟩) (wants Q1 E) s:=by
 show codeAny_of_tree ?_;show wpAny _ A.in1 (checkBuiltinCall "set.__new__" ⟨[.type "set",a],[]⟩>>=λ_=>again (.builtin "set.__new__" ⟨[.type "set",a],[]⟩)) _ _ s;show qC (wpAny_of_eq (F.newCall_set_1 a) (qM ⟨yA F.plain_set_new _,xM F.entry_set_new ?_⟩));rw[xD F.plain_set_new _];unfold Builtin.«set.__new__» Builtin.Frozenset.newClass;have e1:=sub_set_self;let⟨h0,g0,d0,t0,o0⟩:=s;dsimp only
 wp_walk
 show yE (qM ?_);dsimp only;simp only[newObj];show qC (wpAny_alloc (qM (qM q)))
end
section
variable{prog:Program}{w:World}{A:Around}{R:Result->Shared->Prop}{J:Addr}{fp wr:TQ}{G:Array GenState->Array GenState->Prop}{n:Nat}{P:Nat->Value->Prop}{St:Nat->Shared->Prop}{κ:Type}[DecidableEq κ]{knd:KeyKind prog w κ}
theorem VH(W:WalksS prog w A.in1 J fp wr G n P St)(S:Addr)(nS:S∉fp)(val:Nat->κ)(hv:∀i v,P i v->∃x t,v=.str x t/\knd.is (val i) (.str x t)=true)(hb:n+1<scanBound) :
  ∀(k i:Nat) (s:Shared),n-i=k->i<=n->St i s->s.heap.SetOf knd S (λq=>decide (q∈met val i)) (met val i).length->NotPlain w s.heap S ->
   (∀s',Moved (S::wr) G s s'->s'.heap.SetOf knd S (λq=>decide (q∈met val n)) (met val n).length->NotPlain w s'.heap S->R (.ok (.ret .none)) s') ->
   codeAny (model prog w) A (.builtin "set.update.loop" ⟨[.ref S,.ref J],[]⟩) R s:=by
 have AD:S∉wr:=λq=>nS (W.sub _ q)
 have sub:∀b∈wr,b∈S::wr:=λb q=>qU _ q
 intro k
 induction k with
 | zero =>
   intro i s hk hi st x np fin
   obtain rfl:i=n:=()
   show xM PyProof.Rows.F.entry_set_update_loop ?_
   rw[xD yR _]
   show wpAny (model prog w) A.in1 (pyNext (.ref J)>>=_) _ _ s
   show qC (W.done s _ _ st λs1 mv=>?_)
   show wpAny (model prog w) A.in1 (ret Value.none) _ _ s1
   show qM (fin s1 (mv.mono sub) ?_ (np.at λo e=>mv.heap S _ AD e))
   let⟨o,es,ep,tb,ho,r⟩:=x
   show⟨o,es,ep,tb,mv.heap S _ AD ho,r⟩
 | succ k ih =>
   intro i s hk hi st x np fin
   have lt:i<n:=()
   show xM PyProof.Rows.F.entry_set_update_loop ?_
   rw[xD yR _]
   show wpAny (model prog w) A.in1 (pyNext (.ref J)>>=_) _ _ s
   show qC (W.item i s _ _ lt st λv s1 hP cL mv=>?_)
   let⟨tx,tt,rfl,kv⟩:=hv i v hP
   have VI:NotPlain w s1.heap S:=np.at λo e=>mv.heap S _ AD e
   have x1:s1.heap.SetOf knd S (λq=>decide (q∈met val i)) (met val i).length:=by
     let⟨o,es,ep,tb,ho,r⟩:=x
     show⟨o,es,ep,tb,mv.heap S _ AD ho,r⟩
   show wpAny (model prog w) A.in1 (holding [Value.str tx tt] (setAdd S (Value.str tx tt))>>=_) _ _ s1
   show qC (xQ ?_)
   unfold setAdd
   show xQ ?_
   show qC (knd.pyHash kv ?_)
   have room:(met val i).length+1<scanBound:=by have:=Ku val i;omega
   show VD (knd:=knd) (s:={s1 with toks:=s1.toks+1}) kv x1 VI room λh' sb x2 VJ=>?_
   have x3:h'.SetOf knd S (λq=>decide (q∈met val (i+1))) (met val (i+1)).length :=
     Kw x2 (λq=>by rw[DW,Kv]) (by rw[DW,DX])
   show qM ⟨yA yR _,ih (i+1) _ () lt (W.frame _ s1 _ _ cL (yD _) λb hb o e=>?_) x3 VJ λs2 DZ x4 VL=>?_⟩
   · rw[sb.2 b (λz:b=S=>nS (by rw[<-z];show hb))];show e
   · show fin s2 (Moved.trans W.gtrans ((mv.mono sub).then_heap (yD _) λb o hb e=>?_) DZ) x4 VL
     rw[sb.2 b (λz:b=S=>hb (by rw[z];show rB))];show e
end
section
variable{prog:Program}{w:World}{A:Around}{E:TH}{s:Shared}{κ:Type}[DecidableEq κ]{knd:KeyKind prog w κ}
theorem VM{val:Nat->κ}{Q:TH}(hh:A.handled=none)(hl:s.heap.IsList l ag)(hv:∀(i:Nat) (v:Value),ag[i]?=!v->∃x t,v=.str x t/\knd.is (val i) (.str x t)=true)(hb:ag.size+1<scanBound)(fin:∀(h':Heap) (tk:Nat),h'.SetOf knd (~~~s) (λq=>decide (q∈met val ag.size)) (met val ag.size).length->NotPlain w h' (~~~s)->(∀b o,b< ~~~s->s.heap.get? b=!o->h'.get? b=!o) ->
   Q (.ref (~~~s)) {s with heap:=h',toks:=tk}) :
  wpAny (model prog w) A (call (.type "set") [.ref l]) Q E s:=by
 let⟨c1,c2,m1⟩:=F.called_set.mro;have m2:=F.called_set.made;have m3:=F.called_set.sub;show wpAny_call (codeAny_of_tree ?_);show wpAny (model prog w) _ (callAny (.type "set") _) _ _ _;show qM ⟨Code.quiet_builtin _ (by ac_rfl),xM F.entry_type_call ?_⟩;rw[Around.under_plain (weight_type_call_type "set" [.ref l] []) O];have m4:=F.called_set.notType;have m5:=F.called_set.canCreate;have m6:=F.typeCall_set_1 (.ref l)
 repeat (any_goals (first | assumption | wp_step))
 show yY (VG (.ref l) (E:=E) (Q1:=λob s1=>∃led:Bool,ob=.ref (~~~s)/\s1={s with heap:=s.heap.push (jt led)}/\led=(Bool.not ((w.params.followText "set-order")))) ⟨_,O,O,O⟩) λr s1 hr=>?_
 rcases r with e | fl
 .show hr
 rcases fl with _ | _ | _ | ob<;>first | show hr.elim | skip
 let⟨led,rfl,rfl,VN⟩:=hr;have gS:(s.heap.push (jt led)).get? (~~~s)=!jt led:=qT _ O;have tS:Shared.TypeIs {s with heap:=s.heap.push (jt led)} (.ref (~~~s)) "set":=⟨_,gS,O⟩;have q1:=F.called_set.init.lookup;have q2:=F.called_set.init.bind (.ref (~~~s))
 repeat (any_goals (first | assumption | wp_step))
 show yY (codeAny_call_builtin (R:=wants (λr s2=>r=.none/\∃h' tk,s2={s with heap:=h',toks:=tk}/\h'.SetOf knd (~~~s) (λq=>decide (q∈met val ag.size)) (met val ag.size).length/\NotPlain w h' (~~~s) /\
   (∀b o,b< ~~~s->s.heap.get? b=!o->h'.get? b=!o)) E) F.called_set.init.plain F.entry_set_init (check_set_init_1 tS ?_)) λr2 s2 D1=>?_
 .obtain⟨ol,KD,eI,nl,KF⟩:=hl;let⟨z1,z2,z3,z4⟩:=ol;simp only at eI KF;subst eI KF;have VO:(s.heap.push (jt led)).get? l=!⟨.type "list",z2,.seq ag nl,z4⟩:=qE _ KD;have e1:=F.sub_list_set;have e2:=F.sub_list_frozenset;have e3:(Value.type "list" == Value.type "dict")=false:={}
  have il:(s.heap.push (jt led)).IsList l ag:=⟨_,VO,O,nl,O⟩;unfold Builtin.«set.__init__» noKeywords Builtin.Frozenset.updateFrom;generalize D3:pyIter=PI
  wp_walk
  subst D3;show xJ il ?_;show qC (wpAny_runValue ?_);have lS:l< ~~~s:=qL KD;have h3:A.in1.in1.in1.handled=none:=by simp[hh]
  have nI:l≠(s.heap.push (jt led)).objs.size:=by rw[rM];show rA (xP lS)
  have nS: ~~~s∉[(s.heap.push (jt led)).objs.size,l]:=by
   rw[rM];intro z;rcases qO.mp z with z | z
   .show absurd z (rA (rX _))
   .rcases qO.mp z with z | z
    .show absurd z.symm (rA lS)
    .cases z
  show VH (knd:=knd) ((Walks.list h3 _ l nI ag).toS) (~~~s) nS val hv hb (ag.size-0) 0 _ () (rS _) ⟨⟨_,qT _ O,O,O⟩,(il.push _)⟩ ?x0 ⟨_,_,_,_,qE _ gS,O,.inr O,VN⟩ ?xR
  case x0 =>
   show Kw ((PyProof.Rows.setObjOf_fresh (knd:=knd) led).setOf (qE _ gS) (by unfold scanBound;omega)) (λq=>by simp[met]) O
  case xR =>
   intro s' mv x np;let⟨h',g',d',kf,jW⟩:=s';obtain rfl:g'=s.gens:=mv.gens;obtain rfl:d'=s.drawn:=mv.drawn;obtain rfl:jW=s.os:=mv.os;show wpAny (model prog w) _ _ _ _ _;show qM ?_;show wpAny (model prog w) _ (ret Value.none) _ _ _;show qM ⟨O,h',kf,O,x,np,λb o hb e=>?_⟩;show mv.heap b o (λz=>?_) (qE _ (qE _ e));rcases qO.mp z with z | z
   .show absurd z (rA hb)
   .have z':b=(s.heap.push (jt led)).objs.size:=‹z›
    rw[rM]at z';show absurd z' (rA (xP hb))
 .rcases r2 with e | fl2
  .show D1
  rcases fl2 with _ | _ | _ | r<;>first | show D1.elim | skip
  let⟨rfl,h',tk,rfl,x,np,kp⟩:=D1
  repeat (any_goals (first | assumption | wp_step))
  show fin _ _ x np kp
end
def tO:Slot "set_iterator" "__next__" "set_iterator.__next__" :=
 .of (owner := "set_iterator") (n := "__next__") (by rw[typeLookup_type,builtinLookup_eq_fast];kernel_rfl) (by ac_rfl) (by ac_rfl) (by ac_rfl) (by first | show .inl (by ac_rfl) | show .inr (by ac_rfl)) (by rw[vM];kernel_rfl)
def KH:Slot "set_iterator" "__iter__" "set_iterator.__iter__" :=
 .of (owner := "set_iterator") (n := "__iter__") (by rw[typeLookup_type,builtinLookup_eq_fast];kernel_rfl) (by ac_rfl) (by ac_rfl) (by ac_rfl) (by first | show .inl (by ac_rfl) | show .inr (by ac_rfl)) (by rw[vM];kernel_rfl)
def VP:entryFor table "set_iterator.__next__" = some Builtin.«set_iterator.__next__»:=entryFor_of_tree (by kernel_rfl)
def VQ:entryFor table "set_iterator.__iter__" = some Builtin.«dict_keyiterator.__iter__» :=
 entryFor_alias (id' := "dict_keyiterator.__iter__") (by kernel_rfl) (by first | rfl | ac_rfl) (by ac_rfl) (by kernel_rfl)
def VR:entryFor table "set.__iter__" = some Builtin.«frozenset.__iter__» :=
 entryFor_alias (id' := "frozenset.__iter__") (by kernel_rfl) (by first | rfl | ac_rfl) (by ac_rfl) (by kernel_rfl)
def VS(a:Value):argsOk "set_iterator.__next__" ⟨[a],[]⟩:=by unfold argsOk;kernel_rfl
def VT(a:Value):argsOk "set_iterator.__iter__" ⟨[a],[]⟩:=by unfold argsOk;kernel_rfl
def SIt(h:Heap)(it:Addr)(f:Value)(i:Nat)(d:Addr)(n ep:Nat):Prop:=h.get? it=!{cls:=.type "set_iterator",data:=.fields #[f,.int i 0,.ref d,.int n 0,.int ep 0]}
def SAt(h:Heap)(d:Addr)(es:Array (Int×Value))(ep:Nat)(t:SetTable):=∃o,h.get? d=!o/\o.data=.set es ep t/\t.fits es.size=true
theorem D4{α:Type}:∀(l:List α) (i:Nat) (h:i<l.length),List.Perm (l[i]::l.eraseIdx i) l
 | x::l,0,h=>uZ _
 | x :: l, i + 1, h => by
   have hi:i<l.length:=‹h›
   show List.Perm (l[i]::x::l.eraseIdx i) (x::l)
   show(List.Perm.swap _ _ _).trans (List.Perm.cons _ (D4 l i hi))
theorem KI{α:Type}(next:Nat->Nat):∀(fuel k:Nat) (left:List α) (out:Array α),left.length<=fuel->List.Perm (pickOrder.go next fuel k left out).toList (out.toList++left)
 | 0, k, left, out, h => by
   have:left=[]:=uP.mp ()
   subst this
   simp[pickOrder.go]
 | fuel + 1, k, left, out, h => by
   unfold pickOrder.go
   cases left with
   | nil=>simp
   | cons y ys =>
     have aX:next k % (y::ys).length<(y::ys).length:=Nat.mod_lt _ ∅
     rw[qB aX]
     dsimp only
     show(KI next fuel (k+1) _ _ (by rw[List.length_eraseIdx_of_lt aX];omega)).trans ?_
     rw[Array.toList_push,rZ]
     show List.Perm.append_left _ ?_
     show D4 _ _ aX
def D5{α:Type}(next:Nat->Nat)(xs:Array α):List.Perm (pickOrder next xs).toList xs.toList:=by
 have:=KI next xs.size 0 xs.toList #[] ∅
 simpa[pickOrder]using this
section
variable{prog:Program}{w:World}{A:Around}{E:TH}{s:Shared}
def VU{n:Nat}{Q:Nat->Shared->Prop}(hn:n≠0)(q:∀k d',k<n->Q k {s with drawn:=d'}):wpAny (model prog w) A (choose src n) Q E s:=λΓ p hΓ=>by
 show Sem.wp _ _ (Sem.choose _ _ Sem.pure) _ _ _ _;rw[Sem.wp_choose];show⟨hn,q _ _ (Nat.mod_lt _ (Nat.pos_of_ne_zero hn))⟩
theorem KJ{α:Type}:∀(n:Nat) (xs:List α) (s:Shared) (Q:List α->Shared->Prop),xs.length<=n->(∀ys d',ys.Perm xs->Q ys {s with drawn:=d'})->wpAny (model prog w) A (drawOrder n xs) Q E s
 | 0, xs, s, Q, h, q => by
   have:xs=[]:=uP.mp ()
   subst this
   show qM (q [] s.drawn (uZ _))
 | n+1,[],s,Q,h,q=>qM (q [] s.drawn (uZ _))
 | n + 1, x :: xs, s, Q, h, q => by
   unfold drawOrder
   show qC (VU ∅ λk d' aX=>?_)
   rw[qB aX]
   dsimp only
   show qC (KJ n _ _ _ (by rw[List.length_eraseIdx_of_lt aX];omega) λys d' pm=>qM ?_)
   show q _ _ ((List.Perm.cons _ pm).trans (D4 _ _ aX))
def pJ{i d n ep:Nat}{Q:Option Value->Shared->Prop}(tI:SIt s.heap it f i d n ep)(h:wpAny (model prog w) A.in1 (Builtin.«set_iterator.__next__» ⟨[.ref it],[]⟩) (λfin s'=>∃v,fin=.done (.ret v)/\Q (!v) s') (λe s'=>wpAny (model prog w) A (isInstance e (.type "StopIteration")) (λb s2=>b=true/\Q none s2) E s') s) :
  wpAny (model prog w) A (pyNext (.ref it)) Q E s:=by
 have hT:s.TypeIs (.ref it) "set_iterator":=⟨_,tI,O⟩;unfold pyNext;show qC (wpAny_attempt (wpAny_callSpecial?_slot (name:=s!"__next__") hT tO (yT tO hT VP ?_ (VS _))));show xB h (λfin s' q=>?_) λe s' q=>?_
 .let⟨v,rfl,q⟩:=q;show⟨v,O,qM q⟩
 .show qC (xB q (λb s2 z=>?_) λ_ _ z=>z);let⟨rfl,z⟩:=z;show qM z
def D6{Q:Option Value->Shared->Prop}{R:Fin->Shared->Prop}(hh:A.handled=none)(s':Shared)(hQ:∀h',(∀b o,s'.heap.get? b=!o->h'.get? b=!o)->Q none {s' with heap:=h'}) :
  wpAny (model prog w) A.in1 (newExc (.type "StopIteration") []>>=raiseNew) R (λe s'=>wpAny (model prog w) A (isInstance e (.type "StopIteration")) (λb s2=>b=true/\Q none s2) E s') s':=by
 show qC ?_;simp only[newExc,newTuple];show qC (yH ?_ (by size_fits));show qC (m:=firstArgMember _ _) (wpAny_of_eq (a:=Value.none) (by first | rfl | (simp only[firstArgMember];rfl)) ?_);show yH ?_ (by size_fits);simp only[raiseNew];show qC (wpAny_handled ?_);rw[show A.in1.handled=none from hh];show qC (qM (wpAny_throw ?_));show vG (T := "StopIteration") (b:=true) ⟨_,qT _ O,O⟩ isSubtype_stop ?_;show⟨O,hQ _ λb o e=>qE _ (qE _ e)⟩
theorem pK{i d n ep:Nat}{es:Array (Int × Value)}{R:Fin->Shared->Prop}{Ex:TH}(tI:SIt s.heap it f i d n ep)(hs:SAt s.heap d es ep t)(hn:es.size=n)(h:wpAny (model prog w) A (match f with
   | .int slot _ => do
     match <- setNext d slot.toNat i ep with
     | some (x, next) => do
       setField (.ref it) 0 (rawInt next)
       setField (.ref it) 1 (rawInt ((i:Int)+1))
       ret x
     | none=>do setField (.ref it) 2 .none; (newExc (.type "StopIteration") [] >>= raiseNew)
   | first => do
     let some VW <- seqItems? first | unsupported "internal:set_iterator"
     match VW[i]? with
     | some (.int place _) => do
       let x <- setNextDrawn d place.toNat ep
       setField (.ref it) 1 (rawInt ((i:Int)+1))
       ret x
     | some _=>unsupported "internal:set_iterator"
     | none=>do setField (.ref it) 0 (rawInt 0); setField (.ref it) 2 .none; (newExc (.type "StopIteration") [] >>= raiseNew)) R Ex s) :
  wpAny (model prog w) A (Builtin.«set_iterator.__next__» ⟨[.ref it],[]⟩) R Ex s:=by
 let⟨o,ho,hd,hf⟩:=hs
 unfold Builtin.«set_iterator.__next__»
 show qC (qM ?_)
 show qC (wpAny_fieldsOf tI O ?_)
 dsimp only
 show qC (wpAny_setEntries_of ho hd hf ?_)
 rw [hn,if_neg ∅]
 cases f with
 | int slot tk=>show h
 | _=>show h
end
def SIt.turn{i d n ep:Nat}(x:SIt h it f i d n ep):SIt (h.update it (Obj.mapFields (·.setIfInBounds 1 (rawInt ((i:Int)+1))))) it f (i+1) d n ep:=by
 unfold SIt;rw[xT _ x O];rfl
def SIt.slot{i d n ep:Nat}(x:SIt h it f i d n ep)(k:Nat):SIt (h.update it (Obj.mapFields (·.setIfInBounds 0 (rawInt k)))) it (.int k 0) i d n ep:=by
 unfold SIt;rw[xT _ x O];rfl
def SIt.at{i d n ep:Nat}(x:SIt h it f i d n ep)(k:∀o,h.get? it=!o->h'.get? it=!o):SIt h' it f i d n ep:=k _ x
def SAt.at{es:Array (Int×Value)}{ep:Nat}(x:SAt h d es ep t)(k:∀o,h.get? d=!o->h'.get? d=!o):SAt h' d es ep t:=by
 let⟨o,e,r⟩:=x;show⟨o,k _ e,r⟩
def dS{h:Heap}{it b:Addr}{f:Obj->Obj}{o:Obj}(hb:b≠it)(e:h.get? b=!o):(h.update it f).get? b=!o:=(xS _ _ (Ne.symm hb)).trans e
def KM(h:Heap)(T:Addr)(pl:TM):Prop:=h.get? T=!{cls:=.type "tuple",data:=.seq (pl.map λp:Nat=>rawInt p).toArray}
def tP(a b:Array GenState):Prop:=b=a
section
variable{prog:Program}{w:World}{A:Around}
def D7{i d n ep:Nat}{Q:TH}{E:TH}(x:SIt s.heap it f i d n ep)(q:Q (.ref it) s):wpAny (model prog w) A (pyIter (.ref it)) Q E s:=by
 have hT:s.TypeIs (.ref it) "set_iterator":=⟨_,x,O⟩;show wpAny_pyIter_slot hT KH (yT KH hT VQ ?_ (VT _));show wpAny _ _ (ret (.ref it)) _ _ s;show qM ⟨_,O, "set_iterator",_,hT,tO.lookup,q⟩
def pL(k:∀b o,b≠it->s.heap.get? b=!o->h'.get? b=!o):Moved [it] tP s {s with heap:=h'} :=
 ⟨λb o hb e=>k b o ‹hb› e,O,O,O,qF _⟩
def VX(hh:A.handled=none)(n1:d≠it)(n2:T≠it){es:Array (Int×Value)}{ep:Nat}{pl:TM}{ord:List (Int×Value)}(hl:ord.length=es.size)(hp:∀i,i<es.size->∃p e,pl[i]?=!p/\es[p]?=!e/\ord[i]?=!e)(dJ:pl.length=es.size) :
  WalksS prog w A it [it,d,T] [it] tP es.size (λi v=>∃e,ord[i]?=!e/\e.2=v) (λi s=>SIt s.heap it (.ref T) i d es.size ep/\SAt s.heap d es ep t/\KM s.heap T pl) where
 sub:=λb hb=>by simp at hb;simp[hb]
 grefl:=λ_=>rfl
 gtrans:=λ_ _ _ h1 h2=>h2.trans h1
 frame:=λi s h' tk st _ k=>⟨st.1.at λo e=>k it ∅ o e,st.2.1.at λo e=>k d ∅ o e,k T ∅ _ st.2.2⟩
 item:=λi s Q E hi st q=>by
  let⟨x1,x2,x3⟩:=st;let⟨p,e,e1,e2,e3⟩:=hp i hi;show pJ x1 (pK x1 x2 O ?_);show qC (xY x3 O ?_);dsimp only;have tQ:((pl.map λp:Nat=>rawInt p).toArray)[i]?=!.int p 0:=by simp[e1,rawInt]
  rw[tQ];dsimp only;let⟨o,ho,hd,hf⟩:=id x2;show qC ?_;unfold setNextDrawn;show qC (xW ho hd hf ?_);dsimp only;rw[if_neg ∅,yF,e2];show qM ?_;show qC (yN x1 O ∅ ?_);show qM ⟨_,O,q _ _ ⟨e,e3,O⟩ ⟨x1.turn,x2.at λo z=>dS n1 z,dS n2 x3⟩ (pL λb o hb z=>dS hb z)⟩
 done:=λs Q E st q=>by
  let⟨x1,x2,x3⟩:=st;show pJ x1 (pK x1 x2 O ?_);show qC (xY x3 O ?_);dsimp only;have tQ:((pl.map λp:Nat=>rawInt p).toArray)[es.size]?=none:=by simp[dJ]
  rw[tQ];dsimp only;show qC (yN x1 O ∅ ?_);show qC (yN (x1.slot 0) O ∅ ?_);show D6 hh _ λh' k=>q _ (pL λb o hb z=>k b o (dS hb (dS hb z)))
 self:=λi s Q E st q=>D7 st.1 q
def VY(hh:A.handled=none)(hT:w.params.followText "set-order" = true)(n1:d≠it){es:Array (Int×Value)}{ep:Nat} :
  WalksS prog w A it [it,d] [it] tP es.size (λi v=>∃e,(pickOrder (w.params.setOrder d ep) es).toList[i]?=!e/\e.2=v) (λi s=>(∃k:Nat,SIt s.heap it (.int k 0) i d es.size ep)/\SAt s.heap d es ep t) where
 sub:=λb hb=>by simp at hb;simp[hb]
 grefl:=λ_=>rfl
 gtrans:=λ_ _ _ h1 h2=>h2.trans h1
 frame:=λi s h' tk st _ k=>⟨st.1.imp λ_ z=>z.at λo e=>k it ∅ o e,st.2.at λo e=>k d ∅ o e⟩
 item:=λi s Q E hi st q=>by
  let⟨⟨k,x1⟩,x2⟩:=st;have sz:(pickOrder (w.params.setOrder d ep) es).size=es.size:=by simpa using(D5 (w.params.setOrder d ep) es).length_eq
  have ci:i<(pickOrder (w.params.setOrder d ep) es).size:=by rw[sz];show hi
  show pJ x1 (pK x1 x2 O ?_);dsimp only;let⟨o,ho,hd,hf⟩:=id x2;show qC ?_;unfold setNext setsByText;show qC (xW ho hd hf ?_);show qC (qC (yE (qM ?_)));show wpAny _ _ (if(w.params.followText "set-order")=true then _ else _) _ _ _;rw[if_pos hT,if_neg ∅];show qC ?_;unfold setWalk setsByText;show qC (xW ho hd hf ?_);show qC (qC (yE (qM ?_)));show wpAny _ _ (if(w.params.followText "set-order")=true then _ else _) _ _ _;rw[if_pos hT];show qC (yE (qM ?_));show qM ?_;have eg:(pickOrder ((model prog w).w.params.setOrder d ep) es)[i]?=!(pickOrder (w.params.setOrder d ep) es)[i]:=uJ ci;rw[eg];dsimp only[Option.map_some];show qC (yN x1 O ∅ ?_);show qC (yN (x1.slot _) O ∅ ?_);show qM ⟨_,O,q _ _ ⟨_,by rw[uF,uJ ci],O⟩ ⟨⟨_,(x1.slot _).turn⟩,x2.at λo z=>dS n1 (dS n1 z)⟩ (pL λb o hb z=>dS hb (dS hb z))⟩
 done:=λs Q E st q=>by
  let⟨⟨k,x1⟩,x2⟩:=st;have sz:(pickOrder (w.params.setOrder d ep) es).size=es.size:=by simpa using(D5 (w.params.setOrder d ep) es).length_eq
  show pJ x1 (pK x1 x2 O ?_);dsimp only;let⟨o,ho,hd,hf⟩:=id x2;show qC ?_;unfold setNext setsByText;show qC (xW ho hd hf ?_);show qC (qC (yE (qM ?_)));show wpAny _ _ (if(w.params.followText "set-order")=true then _ else _) _ _ _;rw[if_pos hT,if_neg ∅];show qC ?_;unfold setWalk setsByText;show qC (xW ho hd hf ?_);show qC (qC (yE (qM ?_)));show wpAny _ _ (if(w.params.followText "set-order")=true then _ else _) _ _ _;rw[if_pos hT];show qC (yE (qM ?_));show qM ?_;have eg:(pickOrder ((model prog w).w.params.setOrder d ep) es)[es.size]?=none:=uQ (by show(pickOrder (w.params.setOrder d ep) es).size<=es.size;omega);rw[eg];dsimp only[Option.map_none];show qC (yN x1 O ∅ ?_);show D6 hh _ λh' k=>q _ (pL λb o hb z=>k b o (dS hb z))
 self:=λi s Q E st q=>by
  let⟨k,x1⟩:=st.1;show D7 x1 q
end
def KN{xs:Array Nat}{j:Nat}(h:xs.size=1):SetTable.below xs j=if xs.getD 0 j<j then 1 else 0:=by
 unfold SetTable.below;rw[h];show(if 0<1 then if xs.getD ((0+1) / 2) j<j then SetTable.below.go xs j 0 ((0+1) / 2+1) 1 else SetTable.below.go xs j 0 0 ((0+1) / 2)else 0)=_;rw[if_pos {}];rfl
section
variable{prog:Program}{w:World}{A:Around}{E:TH}{s:Shared}
def KO(hT:w.params.followText "set-order" = false){es:Array (Int×Value)}{ep k i:Nat}(x:SAt s.heap d es ep t)(h1:es.size<=1)(hL:t.led=true){Q:Option (Value×Nat)->Shared->Prop}(q:Q (match es[SetTable.below t.place k]?,t.place[SetTable.below t.place k]? with | some (_,x),!j=>!(x,j+1) | _,_=>none) s):wpAny (model prog w) A (setNext d k i ep) Q E s:=by
 let⟨o,ho,hd,hf⟩:=x;unfold setNext setsByText;show qC (xW ho hd hf ?_);show qC (qC (yE (qM ?_)));show wpAny _ _ (if(w.params.followText "set-order")=true then _ else _) _ _ _;rw[hT,if_neg qZ];have e1:((Bool.not (t.plain)) && decide (es.size>1))=false:=by rw[qP (),Bool.and_false]
 show wpAny _ _ (if((Bool.not (t.plain)) && decide (es.size>1))=true then _ else _) _ _ _;rw[e1,if_neg qZ];show qC ?_;show wpAny _ _ (if((Bool.not (t.led)) && (Bool.not (es.isEmpty)))=true then _ else _) _ _ _;rw[hL,if_neg ∅];show qM (qM q)
theorem VZ(hh:A.handled=none)(hT:w.params.followText "set-order" = false)(n1:d≠it){es:Array (Int×Value)}{ep:Nat}(h1:es.size<=1)(hL:t.led=true) :
  WalksS prog w A it [it,d] [it] tP es.size (λi v=>∃e,es.toList[i]?=!e/\e.2=v)
   (λi s=>((i=0/\SIt s.heap it (.int ((0:Nat):Int) 0) 0 d es.size ep)\/(i=1/\∃j:Nat,t.place[0]?=!j/\SIt s.heap it (.int ((j+1:Nat):Int) 0) 1 d es.size ep))/\SAt s.heap d es ep t) where
 sub:=λb hb=>by simp at hb;simp[hb]
 grefl:=λ_=>rfl
 gtrans:=λ_ _ _ h1 h2=>h2.trans h1
 frame:=λi s h' tk st _ k=>by
  show⟨?_,st.2.at λo e=>k d ∅ o e⟩;rcases st.1 with⟨z,x⟩ | ⟨z,j,zj,x⟩
  .show .inl ⟨z,x.at λo e=>k it ∅ o e⟩
  .show .inr ⟨z,j,zj,x.at λo e=>k it ∅ o e⟩
 item:=λi s Q E hi st q=>by
  let⟨st,x2⟩:=st;have sz:es.size=1:=()
  rcases st with⟨rfl,x1⟩ | ⟨rfl,_⟩
  case inr=>omega
  let⟨o,ho,hd,hf⟩:=id x2;have ps:t.place.size=1:=by
   have:=hf;simp only[SetTable.fits,Bool.and_eq_true,beq_iff_eq]at this;omega
  have b0:SetTable.below t.place 0=0:=by rw[KN ps,if_neg (yO _)]
  obtain⟨e,ee⟩:∃e,es[0]?=!e:=⟨es[0],by simp[sz]⟩;obtain⟨j,ej⟩:∃j,t.place[0]?=!j:=⟨t.place[0],by simp[ps]⟩;show pJ x1 (pK x1 x2 O ?_);dsimp only;show qC (KO hT x2 h1 hL ?_);rw[yF,b0,ee,ej];dsimp only;show qC (yN x1 O ∅ ?_);show qC (yN (x1.slot _) O ∅ ?_);show qM ⟨_,O,q _ _ ⟨e,by rw[uF,ee],O⟩ ⟨.inr ⟨O,j,ej,(x1.slot _).turn⟩,x2.at λo z=>dS n1 (dS n1 z)⟩ (pL λb o hb z=>dS hb (dS hb z))⟩
 done:=λs Q E st q=>by
  let⟨st,x2⟩:=st;let⟨o,ho,hd,hf⟩:=id x2;have ps:t.place.size=es.size:=by
   have:=hf;simp only[SetTable.fits,Bool.and_eq_true,beq_iff_eq]at this;omega
  have fin:∀(k:Nat),SIt s.heap it (.int (k:Int) 0) es.size d es.size ep->es[SetTable.below t.place k]?=none->wpAny (model prog w) A (pyNext (.ref it)) Q E s:=λk x1 en=>by
   show pJ x1 (pK x1 x2 O ?_);dsimp only;show qC (KO hT x2 h1 hL ?_);rw[yF,en];dsimp only;show qC (yN x1 O ∅ ?_);show D6 hh _ λh' k=>q _ (pL λb o hb z=>k b o (dS hb z))
  rcases st with⟨z,x1⟩ | ⟨z,j,ej,x1⟩
  .have D8:SIt s.heap it (.int ((0:Nat):Int) 0) es.size d es.size ep:=by rw[z]at x1⊢;show x1
   show fin 0 D8 ?_;rw[uQ ()]
  .have D8:SIt s.heap it (.int ((j+1:Nat):Int) 0) es.size d es.size ep:=by rw[z]at x1⊢;show x1
   show fin (j+1) D8 ?_;have lt:t.place.getD 0 (j+1)<j+1:=by
    rw[Array.getD_eq_getD_getElem?,ej];show rX _
   rw[KN (),if_pos lt,uQ ()]
 self:=λi s Q E st q=>by
  rcases st.1 with⟨_,x⟩ | ⟨_,_,_,x⟩<;>show D7 x q
theorem V0{es:Array (Int×Value)}{ep:Nat}(hh:A.handled=none)(ho:s.heap.get? d=!o)(hex:o.ExactSet)(hd:o.data=.set es ep t)(hf:t.fits es.size=true)(hb:es.size<=sizeLine)(hp:t.plain=false\/es.size=0)(hL:t.led=(Bool.not ((w.params.followText "set-order")))){Q:TH}(q:∀(it:Addr) (fp:TQ) (h':Heap) (d':Drawn) (ord:List (Int×Value)) (St:Nat->Shared->Prop),~~~s<=it->it<h'.objs.size->(∀b o,s.heap.get? b=!o->h'.get? b=!o)->(∀b∈fp,b=d\/(~~~s<=b/\b<h'.objs.size))->ord.Perm es.toList ->
   (∀A':Around,A'.handled=none->WalksS prog w A' it fp [it] tP es.size (λi v=>∃e,ord[i]?=!e/\e.2=v) St)->St 0 {s with heap:=h',drawn:=d'}->Q (.ref it) {s with heap:=h',drawn:=d'}) :
  wpAny (model prog w) A (pyIter (.ref d)) Q E s:=by
 have hT:s.TypeIs (.ref d) "set":=⟨o,ho,hex.1⟩;have tV:=qL ho;have xd:SAt s.heap d es ep t:=⟨o,ho,hd,hf⟩;show wpAny_pyIter_slot hT F.slot_set_iter (yT F.slot_set_iter hT VR ?_ (F.args_set_iter_1 _));unfold Builtin.«frozenset.__iter__»;show qC (qM ?_);unfold Builtin.Frozenset.sizeOf setDrawn setsByText setEpoch;show qC (qC (wpAny_setEntries_of ho hd hf (qM ?_)));show qC (qC (xW ho hd hf (qC (qC (yE (qM (qM ?_)))))));show wpAny _ _ (if((Bool.not ((w.params.followText "set-order"))) && ((Bool.not (t.plain)) && decide (es.size>1)))=true then _ else _) _ _ _;have KQ:∀{h:Heap} {o1:Obj},h.objs.size<(h.push o1).objs.size:=λ{h o1}=>by rw[rM];show rX _
 by_cases dr:((Bool.not ((w.params.followText "set-order"))) && ((Bool.not (t.plain)) && decide (es.size>1)))=true
 .rw[if_pos dr];show qC (KJ _ _ _ _ ∅ λpl d' pm=>?_);have KR:pl.length=es.size:=‹pm.length_eq›
  show qC (yH ?_ ?zz)
  case zz=>show(List.map _ pl).toArray.size<=sizeLine;rw[qY,qA];omega
  show qC (qC (xW (s:={s with heap:=_,drawn:=d'}) (qE _ ho) hd hf (qM ?_)));show qC (yH (qM ⟨_,O, "set_iterator",_,⟨_,qT _ O,O⟩,tO.lookup,?_⟩));have V1:∀p∈pl,p<es.size:=λp hp=>by simpa using pm.mem_iff.mp hp
  have e0:(pl.map λp=>es.toList.getD p (0,.none)).Perm es.toList:=by
   show(pm.map _).trans (List.Perm.of_eq ?_);apply uR;intro i;rw[qK]
   by_cases hi:i<es.size
   .rw[rV hi];simp[hi]
   .rw[xG ‹hi›,xG ‹hi›];rfl
  rw[rM];show q (~~~s+1) [~~~s+1,d,~~~s] _ d' (pl.map λp=>es.toList.getD p (0,.none)) (λi s1=>SIt s1.heap (~~~s+1) (.ref (~~~s)) i d es.size ep/\SAt s1.heap d es ep t/\KM s1.heap (~~~s) pl) (yD _) ?_ (λb o e=>qE _ (qE _ e)) (λb hb=>?_) e0 (λA' hA=>?_) ⟨?_,(xd.at λo e=>qE _ (qE _ e)),qE _ (qT _ O)⟩
  .rw[rM,rM];show rX _
  .rcases qO.mp hb with rfl | hb
   .show .inr ⟨yD _,by rw[rM,rM];show rX _⟩
   .rcases qO.mp hb with rfl | hb
    .show .inl O
    .have:b= ~~~s:=‹hb›
     subst this;show .inr ⟨qF _,by rw[rM,rM];show xP (rX _)⟩
  .show VX hA (rA (xP tV)) (rA (rX _)) (by rw[qA,KR]) (λi hi=>?_) KR;have ci:i<pl.length:=()
   have hp:=V1 pl[i] (rL ci);show⟨pl[i],es[pl[i]],by simp[ci],by simp[hp],by simp[ci,hp]⟩
  .have ez: ~~~s+1=(s.heap.push {cls:=.type "tuple",data:=.seq (pl.map λi:Nat=>rawInt i).toArray}).objs.size:=by rw[rM]
   unfold SIt;rw[ez];show qT _ O
 .rw[if_neg dr];show qC (qM ?_);show qC (qC (xW ho hd hf (qM ?_)));show qC (yH (qM ⟨_,O, "set_iterator",_,⟨_,qT _ O,O⟩,tO.lookup,?_⟩));have AE:∀{h':Heap},h'.objs.size= ~~~s+1->∀b∈[~~~s,d],b=d\/(~~~s<=b/\b<h'.objs.size):=λ{h'} hz b hb=>by
   rcases qO.mp hb with rfl | hb
   .show .inr ⟨qF _,by rw[hz];show rX _⟩
   .show .inl ‹hb›
  cases AF:w.params.followText "set-order" with
  | true =>
    show q _ [~~~s,d] _ s.drawn (pickOrder (w.params.setOrder d ep) es).toList (λi s1=>(∃k:Nat,SIt s1.heap (~~~s) (.int k 0) i d es.size ep)/\SAt s1.heap d es ep t) (qF _) KQ (λb o e=>qE _ e) (AE (by rw[rM])) (D5 _ _) (λA' hA=>VY hA AF (rA tV)) ⟨⟨0,qT _ O⟩,xd.at λo e=>qE _ e⟩
  | false =>
    have h1:es.size<=1:=by
      rw[AF]at dr
      rcases hp with hp | hp
      · rw[hp]at dr
        simp at dr
        omega
      · omega
    show q _ [~~~s,d] _ s.drawn es.toList _ (qF _) KQ (λb o e=>qE _ e) (AE (by rw[rM])) (uZ _) (λA' hA=>VZ hA AF (t:=t) (ep:=ep) (rA tV) h1 (by rw[hL,AF];rfl)) ⟨.inl ⟨O,qT _ O⟩,xd.at λo e=>qE _ e⟩
end
end L2
namespace L2
open PyProof.Rows
section
variable{prog:Program}{w:World}{A:Around}{E:TH}{s:Shared}
def V2{Q:Bool->Shared->Prop}(hT:s.TypeIs (.ref r) "set")(h:Q false s):wpAny (model prog w) A (Builtin.List.listLengthHint (.ref r)) Q E s:=by
 unfold Builtin.List.listLengthHint;show qC (wpAny_specialOf hT PySem.F.slot_set_len.lookup ?_);generalize KU:("set.__len__" : String)=nm
 wp_delta
 rw[show splitId nm=!("set", "__len__")from by subst KU;ac_rfl];subst KU;show qC (vG (T := "set") (b:=true) hT (by rw[vM];kernel_rfl) ?_);show vK (λz=>absurd z {}) (λ_=>?_);show vK (λ_=>?_) (λz=>absurd (by ac_rfl) z);show qC (wpAny_typeOf hT (qM h))
theorem V3{es:Array (Int×Value)}{ep:Nat}(hh:A.handled=none)(ho:s.heap.get? d=!o)(hex:o.ExactSet)(hd:o.data=.set es ep t)(hf:t.fits es.size=true)(hb:es.size<=sizeLine)(hp:t.plain=false\/es.size=0)(hL:t.led=(Bool.not ((w.params.followText "set-order")))){R:TU->Shared->Prop}(fin:∀(h':Heap) (tk:Nat) (d':Drawn) (ord:List (Int×Value)),(∀b o,s.heap.get? b=!o->h'.get? b=!o)->ord.Perm es.toList->R (ord.map (·.2)) {s with heap:=h',toks:=tk,drawn:=d'}) :
  wpAny (model prog w) A (collect (.ref d)) R E s:=by
 have tV:=qL ho;unfold collect;show qC (wpAny_runValue (xM entry_proto_collect' ?_));rw[xD PySem.F.plain_proto_collect _];show wpAny _ A.in1 (newList []>>=λl=>again (.builtin "list.__iadd__" ⟨[l,.ref d],[]⟩)) _ _ s;show qC (yH ?_);show qM ⟨yA PySem.F.plain_list_iadd _,xM entry_list_iadd' ?_⟩;rw[xD PySem.F.plain_list_iadd _];show wpAny _ A.in1 (Builtin.List.listExtendWith (.ref (~~~s)) (.ref d) (.ref (~~~s))) _ _ {s with heap:=s.heap.push {cls:=.type "list",data:=.seq ([]:TU).toArray}};have g0:(s.heap.push {cls:=.type "list",data:=.seq ([]:TU).toArray}).get? (~~~s)=!{cls:=.type "list",data:=.seq #[]}:=qT _ O;have D9:(s.heap.push {cls:=.type "list",data:=.seq ([]:TU).toArray}).get? d=!o:=qE _ ho;have KW: ~~~s≠d:=xV tV;unfold Builtin.List.listExtendWith;have hT:Shared.TypeIs {s with heap:=s.heap.push {cls:=.type "list",data:=.seq ([]:TU).toArray}} (.ref d) "set":=⟨o,D9,hex.1⟩;show qC (wpAny_typeOf hT ?_);have e1:Builtin.List.listSameRef (.ref (~~~s)) (.ref d)=false:=by simp[Builtin.List.listSameRef,KW]
 have e2:(Value.type "set" == Value.type "list")=false:={}
 have e3:(Value.type "set" == Value.type "tuple")=false:={}
 simp only[e1,e2,e3,Bool.or_false,Bool.false_eq_true,if_false];show qC (V0 (A:=A.in1) hh D9 hex hd hf hb hp hL λit fp h2 d2 ord St l1 l2 k2 AE pm W st=>?_);have g2:=k2 _ _ g0;have KY: ~~~s∉fp:=λz=>by
  rcases AE _ z with e | ⟨e,_⟩
  .show KW e
  .rw[rM]at e;show absurd e (Nat.not_succ_le_self _)
 have loop:∀(h3:Heap) (c:Nat),St 0 {s with heap:=h3,drawn:=d2}->(∀b o,s.heap.get? b=!o->h3.get? b=!o)->h3.get? (~~~s)=!{cls:=.type "list",data:=.seq #[] c} ->
   codeAny (model prog w) A (.builtin "list.extend.loop" ⟨[.ref (~~~s),.ref it,.ref (~~~s)],[]⟩) (λr s'=>∃acc h' tk,r=.ok (.ret (.ref (~~~s)))/\s'={s with heap:=h',toks:=tk,drawn:=d2} /\
    (∀b o,s.heap.get? b=!o->h'.get? b=!o)/\(∃c',h'.get? (~~~s)=!{cls:=.type "list",dict:=none,data:=.seq acc c',slots:=#[]})/\acc.toList=ord.map (·.2)) {s with heap:=h3,drawn:=d2}:=by
  intro h3 c Al k3 g3;show codeAny_extend_loopS (W A.in1 hh) hb (~~~s) KY _ es.size 0 _ #[] c O (rS _) Al g3 (ItemsOf.nil _) λs' acc c' mv g4 items=>?_
  let⟨h',g',dd,kf,jW⟩:=s';obtain rfl:g'=s.gens:=mv.gens;obtain rfl:dd=d2:=mv.drawn;obtain rfl:jW=s.os:=mv.os;show⟨acc,h',kf,O,O,λb o e=>mv.heap b o (λz=>?_) (k3 b o e),⟨c',g4⟩,?_⟩
  .have lb:=qL e;rcases qO.mp z with z | z
   .show absurd lb (by rw[z];show rP _)
   .have z':b=it:=‹z›
    rw[rM]at l1;show absurd lb (by rw[z'];show Nat.not_lt_of_le (Nat.le_of_succ_le l1))
  .have lo:ord.length=es.size:=‹pm.length_eq›
   apply uR;intro j;rw[qK]
   by_cases hj:j<acc.size
   .let⟨e,z1,z2⟩:=items.2 j acc[j] (by simp[hj]);rw[z1,uF,uJ hj,<-z2];rfl
   .have ha:acc.size=es.size:=items.1;rw[xG ‹yM hj›,xG ()];rfl
 show qC (xQ (V2 ⟨o,k2 _ _ D9,hex.1⟩ ?_));show vK (λ_=>?_) (λ_=>?_)
 .refine qC (wpAny_rule (qC ?_));show wpAny _ _ (updateSeq (~~~s) (·.push .none)>>=λ_=>updateSeq (~~~s) (·.pop)) _ _ _;show qC (uE g2 O ?_);have g3:=xT (Obj.mapSeq (·.push Value.none)) g2 O;show uE (hz:=by seq_fits) g3 O ?_;have g4:=xT (Obj.mapSeq (·.pop)) g3 O;show qM ⟨yA PySem.F.plain_extend_loop _,yY (loop _ _ ?_ (λb o e=>dS ?_ (dS ?_ (k2 _ _ (qE _ e)))) g4) λr s' x=>?_⟩
  .show(W A.in1 hh).frame 0 _ _ _ st (qF _) λb hb o e=>by
    have nb:b≠~~~s:=λz=>KY (z ▸ hb)
    show dS nb (dS nb e)
  .show rA (qL e)
  .show rA (qL e)
  .let⟨acc,h',tk,rfl,rfl,k,⟨c',g⟩,ea⟩:=x;show wpAny _ A (load (~~~s)>>=_) _ _ _;show qC (wpAny_load g ?_);show wpAny _ _ (pure acc.toList) _ _ _;rw[ea];show qM (fin h' tk d2 ord k pm)
 .show qM ⟨yA PySem.F.plain_extend_loop _,yY (loop _ _ st (λb o e=>k2 _ _ (qE _ e)) g2) λr s' x=>?_⟩;let⟨acc,h',tk,rfl,rfl,k,⟨c',g⟩,ea⟩:=x;show wpAny _ A (load (~~~s)>>=_) _ _ _;show qC (wpAny_load g ?_);show wpAny _ _ (pure acc.toList) _ _ _;rw[ea];show qM (fin h' tk d2 ord k pm)
def V4{es:Array (Int×Value)}{ep:Nat}(hh:A.handled=none)(ho:s.heap.get? d=!o)(hex:o.ExactSet)(hd:o.data=.set es ep t)(hf:t.fits es.size=true)(hb:es.size<64)(hp:t.plain=false\/es.size=0)(hL:t.led=(Bool.not ((w.params.followText "set-order"))))(hS:StrsAre (es.toList.map (·.2)) ks){Q:TH}(fin:∀(D:Addr) (h':Heap) (tk:Nat) (d':Drawn) (out:TU) (ss:TV) (c:Nat),s.heap.get? D=none->(∀b o,s.heap.get? b=!o->h'.get? b=!o)->h'.get? D=!{cls:=.type "list",data:=.seq out.toArray c}->StrsAre out ss->ss.Perm ks->sortedS ss=true->Q (.ref D) {s with heap:=h',toks:=tk,drawn:=d'}) :
  wpAny (model prog w) A (call (.builtin "sorted") [.ref d]) Q E s:=by
 have hb':es.size<=sizeLine:=by rw[sizeLine_eq];omega
 show Calls.call_function_entry kind_sorted plain_sorted entry_sorted (args_sorted1 _) ?_;unfold Builtin.«sorted»;show qC (m:=checkCount "sorted" 1 1 _) (qM ?_);show qC (V3 (A:=A.in1) hh ho hex hd hf hb' hp hL λh1 tk d1 ord k1 pm=>?_);have ln:(ord.map (·.2)).length=es.size:=by rw[qA];simpa using pm.length_eq
 show qC (wpAny_newList ?_ (by rw[ln];show hb'));have gD:(h1.push {cls:=.type "list",data:=.seq (ord.map (·.2)).toArray}).get? h1.objs.size=!seqObj "list" (ord.map (·.2)).toArray 0:=qT _ O;obtain⟨bV,sk,pk⟩:∃bV,StrsAre (ord.map (·.2)) bV/\bV.Perm ks:=by
  show⟨(ord.map (·.2)).map strOf,strsAre_map _ λv hv=>?_,?_⟩
  .let⟨e,he,rfl⟩:=qW.mp hv;show hS.all _ (qW.mpr ⟨e,pm.mem_iff.mp he,O⟩)
  .rw[<-hS.strs];show(pm.map _).map _
 show qC (xQ (yT slot_list_sort ⟨_,gD,O⟩ entry_list_sort (list_sort_treeK strKind_oneLt gD sk.keysOf (λv1 v2 rest e=>keyKind_strs (by rw[<-e];show sk)) (by rw[ln];show hb) λcK a1 a2=>⟨_,O,?_⟩) (args_list_sort _)));let⟨ss,h3,h4,h5⟩:=sorted_out_str sk a1 a2;show qM ⟨_,O,?_⟩;obtain⟨c,gc⟩:∃c,(sortedHeap (h1.push {cls:=.type "list",data:=.seq (ord.map (·.2)).toArray}) h1.objs.size (ord.map (·.2)) ((arrOf cK).map (·.2))).get? h1.objs.size=!seqObj "list" ((arrOf cK).map (·.2)) c:=by
  have:=sortedHeap_at (out:=(arrOf cK).map (·.2)) gD;show this
 have lS:s.heap.get? h1.objs.size=none:=by
  cases z:s.heap.get? h1.objs.size with
  | none=>rfl
  | some o=>show absurd (qL (k1 _ _ z)) (rP _)
 show fin h1.objs.size _ tk d1 ((arrOf cK).map (·.2)).toList ss c lS (λb o e=>?_) ?_ h3 (h4.trans pk) h5
 .have lb:=qL (k1 b o e);rw[sortedHeap_old (rA lb) (by rw[rM];show xP lb)];show qE _ (k1 b o e)
 .rw[gc]
end
def Inv.dr{aa:TF}(I:Inv X aa σ H s)(d':Drawn):Inv X aa σ H {s with drawn:=d'}:=⟨I.ok,I.os,I.bare,I.base,I.loc,I.cell,I.free,I.freeC,I.pin,I.hok,I.len⟩
def KZ{κ:Type}[DecidableEq κ]{k:κ}{l:List κ}:decide (k∈l)=true↔k∈l:=decide_eq_true_iff
def c9(ks:TV):TV:=ks.foldl cI []
def V5{κ:Type}[DecidableEq κ]{l:List κ}{v:κ}(h:l.Nodup):(cI l v).Nodup:=by
 unfold cI
 split
 .show h
 .rename_i n;rw[uS];show⟨h,∅,λa ha b hb=>?_⟩;have:b=v:=‹hb›
  subst this;show λz=>n (z ▸ ha)
def K'{κ:Type}[DecidableEq κ]:∀(ks l:List κ),l.Nodup->(ks.foldl cI l).Nodup
 | [],l,h=>h
 | k::ks,l,h=>K' ks (cI l k) (V5 h)
theorem La{κ:Type}[DecidableEq κ](x:κ):∀(ks l:List κ),x∈ks.foldl cI l↔x∈l\/x∈ks
 | [],l=>∅
 | k :: ks, l => by
   rw[xE,La x ks]
   have:x∈cI l k↔x∈l\/x=k:=by
     have:=Kv l k x
     rw[yI]at this
     simpa using this
   rw[this,qO,or_assoc]
def Lb(ks:TV):(c9 ks).Nodup:=K' ks [] u6
def V6(ks:TV)(x:Str):x∈c9 ks↔x∈ks:=by unfold c9;rw[La];simp
theorem Lc{κ ρ:Type}[DecidableEq κ][DecidableEq ρ](f:κ->ρ)(inj:∀a b,f a=f b->a=b):∀(ks l:List κ),(ks.map f).foldl cI (l.map f)=(ks.foldl cI l).map f
 | [],l=>rfl
 | k :: ks, l => by
   rw[xO,xE,xE,<-Lc f inj ks (cI l k)]
   congr 1
   unfold cI
   by_cases z:k∈l
   · rw[if_pos z,if_pos (yQ z)]
   · rw[if_neg z,if_neg (λq=>by
       let⟨a,ha,e⟩:=qW.mp q
       show z (inj _ _ e ▸ ha))]
     simp
theorem Ld{κ:Type}[DecidableEq κ]:∀(m l:List κ),m.Nodup->(∀x∈m,x∈l)->l.length=m.length->l.Perm m
 | [], l, _, _, h => by
   have:l=[]:=uP.mp h
   rw[this]
 | x :: m, l, nd, sub, h => by
   have hx:=sub x rB
   let⟨nx,nm⟩:=yV.mp nd
   have p:=List.perm_cons_erase hx
   show p.trans (List.Perm.cons _ (Ld m (l.erase x) nm (λy hy=>?_) ?_))
   · show(List.mem_erase_of_ne (λz:y=x=>nx (z ▸ hy))).mpr (sub y (qU _ hy))
   · rw[List.length_erase_of_mem hx,h]
     rfl
def i4(w:World)(d:Addr)(ks:TV):HO:=.ext λh=>∃o es ep t,h.get? d=!o/\o.ExactSet/\o.data=.set es ep t/\t.fits es.size=true/\(t.plain=false\/es.size=0)/\t.led=(Bool.not ((w.params.followText "set-order"))) /\
 es.size<scanBound/\∃us,StrsAre (es.toList.map (·.2)) us/\us.Perm ks
section
variable{X:Cx}
theorem V7(hc:X.calm=true):dy X (.type "set") (λxs H Q=>∃(p:Addr) (ks:TV),xs=[.ref p]/\SqL X.K H p (ks.map V.str)/\ks.length+1<scanBound/\∀d,H d=none->Q (.ref d) (af H d (i4 X.w d (c9 ks)))):=by
 intro aa s σ H xs us Q I r h;let⟨p,ks,rfl,hp,hb,q⟩:=h;let⟨u,rfl,rx⟩:=vals1 r;cases rx;let⟨ag,rv,pl,hz⟩:=I.list hp;have bE:ag.toArray.size=ks.length:=by rw[qY,<-rv.length,qA]
 show VM (knd:=eB X.prog X.w) (val:=λi=>Sum.inr (ks.getD i Str.empty)) (I.ok.hd hc) pl.isList (λi v e=>?_) (by rw[bE];show hb) λh' tk x np kp=>?_
 .have e':ag[i]?=!v:=‹e›
  have hi:i<ks.length:=by rw[<-bE,qY];show(qI.mp e').1
  let⟨u,e2,r2⟩:=rv.get (i:=i) (x:=.str ks[i]) (by rw[qK,qB hi];rfl);rw[e']at e2;cases e2;let⟨t,rfl⟩:=r2;have eg:ks.getD i Str.empty=ks[i]:=by simp[hi]
  show⟨_,t,O,by rw[eg];show IM _ _ _ _⟩
 .have em:met (λi=>(Sum.inr (ks.getD i Str.empty):aQ)) ag.toArray.size=(c9 ks).map (Sum.inr:Str->aQ):=by
   unfold met c9;rw[bE,<-Lc (Sum.inr:Str->aQ) (λa b e=>Sum.inr.inj e) ks []]
   congr 1
   apply uR;intro i;rw[qK,qK]
   by_cases h:i<ks.length
   .rw[rV h,qB h];simp[h]
   .rw[xG ‹yM h›,xG (yM h)];rfl
  rw[em]at x;have keep:∀b o,s.heap.get? b=!o->h'.get? b=!o:=λb o e=>kp b o (qL e) e
  have hn:H (~~~s)=none:=I.hok.fresh (qF _);show⟨.ref (~~~s),_,I.laid (o:=i4 X.w (~~~s) (c9 ks)) keep (qF _) ?_,O,q _ hn⟩;let⟨o,es,ep,t,ho,hex,hd,ka,Le,AG,hf,hsz⟩:=x;let⟨o',mS,lA,t',e1,e2,e3,e4⟩:=np;rw[ho]at e1;cases e1;rw[hd]at e2;cases e2;have all:∀e∈es.toList,∃y tk,e.2=.str y tk/\y∈c9 ks:=λe he=>by
   let⟨⟨k,hk,_⟩,_⟩:=ka e he;have t0:=(Le k).mpr ⟨e,he,hk⟩;have this:k∈(c9 ks).map (Sum.inr:Str->aQ):=KZ.mp t0;let⟨y,hy,rfl⟩:=qW.mp this;rcases iP (show lq (Sum.inr y) e.2=true from hk)with⟨i,t,z,_⟩ | ⟨z,t,zz,ez⟩
   .cases z
   .cases zz;show⟨y,t,ez,hy⟩
  have V8:StrsAre (es.toList.map (·.2)) ((es.toList.map (·.2)).map strOf):=strsAre_map _ λv hv=>by
   let⟨e,he,rfl⟩:=qW.mp hv;let⟨y,tk,e1,_⟩:=all e he;show⟨y,tk,e1⟩
  show⟨⟨o,es,ep,t,ho,hex,hd,hf,e3,e4,AG,_,V8,?_⟩,⟨o,ho⟩,λg1 g2 y k=>?_⟩
  .show Ld _ _ (Lb ks) (λy hy=>?_) ?_
   .let⟨e,he,hk⟩:=(Le (Sum.inr y)).mp (KZ.mpr (yQ hy));rcases iP (show lq (Sum.inr y) e.2=true from hk)with⟨i,t,z,_⟩ | ⟨z,t,zz,ez⟩
    .cases z
    .cases zz;rw[xH];show qW.mpr ⟨e,he,by show strOf e.2=y;rw[ez];rfl⟩
   .rw[qA,qA,xI,hsz,qA]
  .let⟨o1,bK,tQ,t1,z1,z2⟩:=y;show⟨o1,bK,tQ,t1,k _ z1,z2⟩
theorem V9(hc:X.calm=true)(hex:X.ex=[]):dy X (.builtin "sorted") (λxs H Q=>∃(d:Addr) (ks:TV),xs=[.ref d]/\H d=!i4 X.w d ks/\ks.length<64/\∀D ss,H D=none->ss.Perm ks->sortedS ss=true->Q (.ref D) (af H D (.lst (ss.map V.str)))):=by
 intro aa s σ H xs us Q I r h;let⟨d,ks,rfl,hd,gu,q⟩:=h;let⟨u,rfl,rx⟩:=vals1 r;cases rx;let⟨⟨o,es,ep,t,ho,V',Wa,hf,hp,hL,hb,bV,st,pm⟩,_⟩:=I.hok d _ hd;have ls:es.size=ks.length:=by
  have h1:=st.length;rw[qA,xI]at h1;rw[h1,pm.length_eq]
 show V4 (I.ok.hd hc) ho V' Wa hf () hp hL st λD h' tk d' out ss c hD kp hg hs ps so=>?_
 have HD:H D=none:=by
  cases z:H D with
  | none=>rfl
  | some v =>
    let⟨o,e⟩:=(I.hok D v z).at
    rw[hD]at e
    cases e
 have pk:=ps.trans pm;have I2:=(I.kept (t':=tk) kp).dr d';have DL:D≠X.env.locals:=λz=>by
  have:=qL (Classical.choose_spec (let⟨m,⟨o,_,_,e,_⟩,_⟩:=I.loc;⟨o,e⟩:∃o,s.heap.get? X.env.locals=!o));let⟨m,⟨o,_,_,e,_⟩,_⟩:=I.loc;rw[z,e]at hD;cases hD
 show⟨.ref D,_,I2.track (o:=.lst (ss.map V.str)) ?_ HD DL (λz c e w'=>?_) (λz hz w'=>?_) ?_,O,q D ss HD pk so⟩
 .cases z:X.s₀.heap.get? D with
  | none=>rfl
  | some o =>
    let⟨o',e⟩:=I.base.there D o z (by rw[hex];simp)
    rw[hD]at e
    cases e
 .let⟨v,o,e1,_⟩:=I.cell z c e;rw[w',hD]at e1;cases e1
 .have e:=(I.pin z hz).1;rw[w',hD]at e;cases e
 .have vs:∀{out:TU} {ss:TV},StrsAre out ss->Vals (ss.map V.str) out:=λ{out ss} h=>by
   induction h with
   | nil=>show .nil
   | cons x t _ ih=>show .cons ⟨t,O⟩ ih
  show⟨?_,out,c,vs hs,hg⟩;rw[qA,pk.length_eq];show xA (aR ())
end
structure Fx(P:Program)(w:World)(K:W.Frag)(mg:TJ)(base:Heap)(CX:cZ)(k:Nat)(x:Str)(ps:TV)(sp:Sp):Prop where
 ex:∃f fd,aK P w K mg base CX k f fd ps sp/\Binds K fd ps []/\W.keepIn K (.ref f)=true/\mg x=!.ref f
section
variable{X:Cx}{CX:cZ}{k:Nat}{ps:TV}{sp:Sp}{E:XK}{x:Str}{p pos:Pos}{e:Expr}{es:TW}{t:TA}
def Lg(F:Fx X.prog X.w X.K X.mg X.base CX k x ps sp)(hr:Room k X.A)(hg:Gl X x)(hx:sw CX X E)(ha:PA X (e::es) t)(gQ:(x == ("__debug__" : Str))=false:=by decide)(he:starEach (e::es) X.env=(false,eval e X.env)::starEach es X.env:=by rfl)(dJ:(backTo pos (starEach es X.env)).any (·.1)=false:=by rfl):PE X (.Call (.Name x p) (e::es) [] pos) (Ao sp [] E t):=by
 let⟨f,fd,G,b,kp,m⟩:=F.ex;show JL G hr hg m kp b .nil hx ha gQ he dJ
end
def CompScope.frees{X:Cx}{scope:Scope}{own fr:TV}{ix:TM}(h1:scope.kind=.function)(h2:∀y∈scope.names,y.2≠.cell)(h3:∀y∈scope.names,y.2=.local->scope.names.lookup y.1=!.local)(h4:∀y∈scope.names,y.2=.free->y.1∈fr)(h5:ix.map (λj=>X.N[j]?)=fr.map some)(h6:∀x∈fr,scope.names.lookup x=!.free)(h7:∀x∈fr,X.env.scope.names.lookup x=!.cell\/X.env.scope.names.lookup x=!.free):CompScope X scope own fr ix :=
 ⟨h1,h2,h3,λy hy hf=>h7 _ (h4 y hy hf),h5,h6⟩
def kg{lo:Int}{n own:Nat}{ix:TM}(Pv:Nat->List V->St->Hp->Prop)(hz:n<sizeLine)(h0:Pv 0 [] (gU own ix σ) H)(hl:∀i ys ae H',i<=n->Pv i ys ae H'->ys.length<=i)(hs:∀i ys ae H',i<n->Pv i ys ae H'->g (.int (lo+i)) ae H' λaV H3=>tt aV H3 λb H4=>if b=true then te aV H4 λv H5=>Pv (i+1) (ys++[v]) aV H5 else Pv (i+1) ys aV H4)(hd:∀ys ae H',Pv n ys ae H'->∀D,H' D=none->Q (.ref D) (af H' D (.lst ys))):ng own ix g tt te (lE lo n) σ H Q:=by
 show⟨λi m ys σ H=>m=n-i/\i<=n/\Pv i ys σ H,⟨n,∅,rS _,h0⟩,?_⟩;ext i m ys σ H ⟨rfl,hi,p⟩;have hy:=hl i ys σ H hi p;show⟨(),?_⟩
 by_cases aX:i<n
 .show .inr ⟨aX,Pv (i+1),λzs ae H' p'=>⟨n-(i+1),(),O,aX,p'⟩,λx H' y=>?_⟩;let⟨e,y⟩:=y;subst e y;show hs i ys σ _ aX p
 .have e:i=n:=()
  subst e;show .inl ⟨qF _,hd ys σ H p⟩
def Lh{K:W.Frag}{a:Addr}{xs:List V}{own:Nat}{ix:TM}{g:TG}{tt:TT}{te:TE}{σ:St}{H:Hp}{Q:VK}(Pv:Nat->List V->St->Hp->Prop)(hz:xs.length<sizeLine)(h0:Pv 0 [] (gU own ix σ) H)(hl:∀i ys ae H',i<=xs.length->Pv i ys ae H'->SqL K H' a xs/\ys.length<=i)(hs:∀i x ys ae H' T,xs[i]?=!x->H' T=none->Pv i ys ae H'->g (.ref T) ae (af H' T (.tup [.int (i:Nat),x])) λaV H3=>tt aV H3 λb H4=>if b=true then te aV H4 λv H5=>Pv (i+1) (ys++[v]) aV H5 else Pv (i+1) ys aV H4)(hd:∀ys ae H',Pv xs.length ys ae H'->∀D,H' D=none->Q (.ref D) (af H' D (.lst ys))):ng own ix g tt te (pH K a) σ H Q:=by
 show⟨λi m ys σ H=>m=xs.length-i/\i<=xs.length/\Pv i ys σ H,⟨xs.length,∅,rS _,h0⟩,?_⟩;ext i m ys σ H ⟨rfl,hi,p⟩;let⟨q,hy⟩:=hl i ys σ H hi p;show⟨(),?_⟩
 by_cases aX:i<xs.length
 .show .inr ⟨⟨xs,xs[i],q,by simp[aX]⟩,Pv (i+1),λzs ae H' p'=>⟨xs.length-(i+1),(),O,aX,p'⟩,λx H' y=>?_⟩;let⟨T,z,hT,e1,e2,y⟩:=y;subst e1 e2;show hs i z ys σ _ T (y xs q) hT p
 .have e:i=xs.length:=()
  subst e;show .inl ⟨⟨xs,q,qF _⟩,hd ys σ H p⟩
inductive Ea(neg:Bool):V->V->Hp->VK->Prop
|m d e:dq H x d->dq H y e->W.kqdOk 9 d=true->W.kqdOk 9 e=true->(d=e->Q (.bl ((Bool.not (neg)))) H)->(d≠e->Q (.bl neg) H)->Ea neg x y H Q
section
variable{X:Cx}
open Classical in
def Wb(hu:X.A.units+64<cLine):bQ X (compareOp .Eq) (Ea false):=by
 intro aa s σ H x y v u Q I rx ry h;let⟨d,e,h1,h2,k1,k2,q1,q2⟩:=h;show Vn hu aa s σ H x y v u Q I rx ry ⟨d,e,h1,h2,k1,k2,?_⟩;rw[if_neg qZ]
 by_cases z:d=e
 .rw[qJ z];show q1 z
 .rw[qP z];show q2 z
open Classical in
def Wc(hu:X.A.units+64<cLine):bQ X (compareOp .NotEq) (Ea true):=by
 intro aa s σ H x y v u Q I rx ry h;let⟨d,e,h1,h2,k1,k2,q1,q2⟩:=h;show Vo hu aa s σ H x y v u Q I rx ry ⟨d,e,h1,h2,k1,k2,?_⟩;rw[if_pos O]
 by_cases z:d=e
 .rw[qJ z];show q1 z
 .rw[qP z];show q2 z
end
def Li:∀(nms:TV),fj H (nms.map V.str) (nms.map W.Dat.str)
 | []=>.nil
 | x::l=>.cons (.str x) (Li l)
end L2
namespace Gen
open L2 Bk
def We:bootBuiltins "isinstance" = !.builtin "isinstance":=by ac_rfl
def b_len:bootBuiltins "len" = !.builtin "len":=by ac_rfl
def Lj:bootBuiltins "sorted" = !.builtin "sorted":=by ac_rfl
def pN:bootBuiltins "int" = !.type "int":=by ac_rfl
def Wf:bootBuiltins "bool" = !.type "bool":=by ac_rfl
def Wg:bootBuiltins "str" = !.type "str":=by ac_rfl
def lO:bootBuiltins "list" = !.type "list":=by ac_rfl
def Wh:bootBuiltins "tuple" = !.type "tuple":=by ac_rfl
def Wi:bootBuiltins "set" = !.type "set":=by ac_rfl
structure Bn(mg:TJ):Prop where
 isinstance:mg "isinstance" = none
 len:mg "len" = none
 range:mg "range" = none
 sorted:mg "sorted" = none
 int:mg "int" = none
 bool:mg "bool" = none
 list:mg "list" = none
 tuple:mg "tuple" = none
 str:mg "str" = none
 set:mg "set" = none
 enumerate:mg "enumerate" = none
 all:mg "all" = none
 ver:mg "ValueError" = none
def StOk(H:Hp)(st:Addr):=∃x y:Int,H st=!.lst [.int x,.int y]/\0<=y/\y<4294967296
abbrev Keep1(st:Addr)(H H':Hp):Prop:=KeepN (λb=>b≠st) H H'
abbrev fU(st p:Addr)(H H':Hp):Prop:=KeepN (λb=>b≠st/\b≠p) H H'
def Keep1.two(k:Keep1 st H H'):fU st p H H':=k.mono λ_ n=>n.1
def StOk.same(h:StOk H st)(s:Same H H'):StOk H' st:=by
 let⟨x,y,e,z⟩:=h;show⟨x,y,s _ _ e,z⟩
def StOk.some(h:StOk H st):∃o,H st=!o:=by
 let⟨x,y,e,z⟩:=h;show⟨_,e⟩
def bO{H:Hp}{a b:Addr}(h:∃o,H a=!o)(n:H b=none):b≠a:=by
 let⟨o,e⟩:=h;show Ne.symm (cH e n)
inductive AH(K:W.Frag):List V->Hp->VK->XK->Prop
|m (a:Addr) (ns:TN) (k:Int):vs=[.ref a,.int k]->SqL K H a (ns.map V.int)->0<=k->k<=100->(∀(st:Addr) (H':Hp),H st=none->StOk H' st->Same H H'->Q (.ref st) H')->AH K vs H Q E
inductive gY:List V->Hp->VK->XK->Prop
|m (st:Addr) (m:Int):vs=[.ref st,.int m]->StOk H st->0<m->m<=1000000000000->(∀(r:Int) (H':Hp),0<=r->r<m->StOk H' st->Keep1 st H H'->Q (.int r) H')->gY vs H Q E
inductive Eb:List V->Hp->VK->XK->Prop
|m (st:Addr) (m:Int):vs=[.ref st,.int m]->StOk H st->1<=m->m<=20->(∀(x:Str) (H':Hp),AA x->(x.length:Int)<=m->StOk H' st->Keep1 st H H'->Q (.str x) H')->Eb vs H Q E
def Wj(H:Hp):Addr->Prop:=λb=>H b=none
inductive Ec:List V->Hp->VK->XK->Prop
|m (st p:Addr) (n:Nat) (nms:TV):vs=[.ref st,.int n,.ref p]->StOk H st->n<=2->p≠st->H p=!.lst (nms.map V.str)->nms≠[]->nms.length<=1000->(∀x∈nms,Name x)->(∀(s:Addr) (ag:List Th) (H':Hp),tF n ag->StAt (Wj H) H' s ag->StOk H' st->Keep1 st H H'->Q (.ref s) H')->Ec vs H Q E
def gw(H0:Hp)(p:Addr):Addr->Prop:=λb=>H0 b=none/\b≠p
structure Gs(H0:Hp)(st p:Addr)(H:Hp)(ds:List Nd):Prop where
 so:StOk H st
 s0:∃o,H0 st=!o
 p0:H0 p=none
 old:Keep1 st H0 H
 bk:cB (gw H0 p) H p ds
section
variable{H0 H H':Hp}{st p:Addr}{ds:List Nd}
def Gs.pne(g:Gs H0 st p H ds):p≠st:=by
 let⟨o,e⟩:=g.s0;show Ne.symm (cH e g.p0)
def Gs.nst(g:Gs H0 st p H ds)(h:gw H0 p b):b≠st:=by
 let⟨o,e⟩:=g.s0;show Ne.symm (cH e h.1)
def Gs.psome(g:Gs H0 st p H ds):∃o,H p=!o:=by
 let⟨as,e,_⟩:=g.bk;show⟨_,e⟩
theorem Gs.fresh(g:Gs H0 st p H ds){b:Addr}(h:H b=none):gw H0 p b:=by
 show⟨?_,bO g.psome h⟩;cases e:H0 b with
 | none=>rfl
 | some o =>
   have:=g.old b o (bO g.so.some h) e
   rw[h]at this
   cases this
def Gs.keep1(g:Gs H0 st p H ds)(k:Keep1 st H H')(so:StOk H' st):Gs H0 st p H' ds:=by
 let⟨as,e,q⟩:=g.bk;show⟨so,g.s0,g.p0,g.old.trans k,as,k _ _ g.pne e,q.keep (k.mono λb n=>g.nst n) λ_ n _=>n⟩
def Gs.same(g:Gs H0 st p H ds)(s:Same H H'):Gs H0 st p H' ds:=g.keep1 s.keep (g.so.same s)
def Gs.push(g:Gs H0 st p H ds)(e:H p=!.lst (as.map V.ref))(q:NdsAt (gw H0 p) H as ds)(x:NdAt (gw H0 p) H a d):Gs H0 st p (af H p (.lst (as.map V.ref++[.ref a]))) (ds++[d]):=by
 have k:KeepN (gw H0 p) H (af H p (.lst (as.map V.ref++[.ref a]))):=λb o n e=>by rw[aE n.2];show e
 show⟨?_,g.s0,g.p0,λb o n e=>?_,as++[a],by rw[aj];simp,(q.keep k λ_ n _=>n).append (.cons (x.keep k λ_ n _=>n) .nil)⟩
 .let⟨x,y,z,w⟩:=g.so;show⟨x,y,by rw[aE (Ne.symm g.pne)];show z,w⟩
 .rw[aE (λz=>by rw[z,g.p0]at e;cases e)];show g.old b o n e
end
def ny(ds:List Nd):=∀d∈ds,d.nm=cA\/Name d.nm
def lQ(k:Kd):Prop:=k=.body\/k=.case\/k=.shelf\/k=.grid\/k=.aside
def int_at{ns:TN}{k:Int}(h0:0<=k)(h:k<(ns.length:Int)):∃v:Int,bD (ns.map V.int) k=!.int v:=by
 have hk:k.toNat<ns.length:=()
 have ek:k=((k.toNat:Nat):Int):=()
 have q:bD (ns.map V.int) ((k.toNat:Nat):Int)=!.int ns[k.toNat]:=eG (by rw[qK,qB hk]<;>rfl);rw[<-ek]at q;show⟨_,q⟩
def signs:Str:=s!"abcdefghijklmnopqrstuvwxyzABCDEFGHIJKLMNOPQRSTUVWXYZ0123456789.,-;:'()!?"
def small:Str:=s!"abcdefghijklmnopqrstuvwxyz"
def sg(c:Nat):Str:=⟨#[c]⟩
def Wk:signs.cps.toList=pF:=by ac_rfl
def Wl:signs.length<=sizeLine:=by ac_rfl
def Ll:small.length<=sizeLine:=by ac_rfl
def Lm{α:Type}{l:List α}{i:Int}(h0:0<=i)(h1:i<(l.length:Int)):∃c,bD l i=!c/\c∈l:=by
 have hi:i.toNat<l.length:=()
 have ei:i=((i.toNat:Nat):Int):=()
 have q:bD l ((i.toNat:Nat):Int)=!l[i.toNat]:=eG (qB hi);rw[<-ei]at q;show⟨_,q,rL hi⟩
def signs_at{i:Int}(h0:0<=i)(h1:i<72):∃c,bD signs.cps.toList i=!c/\c∈pF:=by
 rw[Wk];show Lm h0 h1
def Wm:cA.cps.toList=[]:=by ac_rfl
def Ed(x y:Str):(x++y).length=x.length+y.length:=by
 show(x.cps++y.cps).size=_;rw[Array.size_append];rfl
def tX(x y:Str):(x++y).cps.toList=x.cps.toList++y.cps.toList:=by
 show(x.cps++y.cps).toList=_;show Array.toList_append
def Wn{p:Nat->Prop}{c:Nat}(h:p c):∀d∈(sg c).cps.toList,p d:=λd hd=>by
 have:d=c:=by simpa[sg]using hd
 rw[this];show h
def Wo{p:Nat->Prop}{x y:Str}(h1:∀c∈x.cps.toList,p c)(h2:∀c∈y.cps.toList,p c):∀c∈(x++y).cps.toList,p c:=λc hc=>by
 rw[tX]at hc;rcases rG.mp hc with h | h
 .show h1 c h
 .show h2 c h
def Ee{p:Nat->Prop}{x:Str}{c:Nat}(h1:∀c∈x.cps.toList,p c)(h2:p c):∀d∈(x++sg c).cps.toList,p d:=Wo h1 (Wn h2)
def small_str(h:∀c∈x.cps.toList,tD c):PyData.strOk x=true:=by
 show(x.cps.all λc=>decide (c<0x110000))=true;rw[Array.all_eq_true'];intro c hc;have:=h c ‹hc›;unfold tD at this;show qJ ()
def Ef{nms:TV}{i:Int}(h0:0<=i)(h1:i<((nms.map V.str).length:Int)):∃y,bD (nms.map V.str) i=!.str y/\y∈nms:=by
 let⟨v,e,m⟩:=Lm h0 h1;let⟨y,my,rfl⟩:=qW.mp m;show⟨y,e,my⟩
theorem back(k:Keep1 st H H')(n:b≠st)(h:H' b=none):H b=none:=by
 cases e:H b with
 | none=>rfl
 | some o =>
   rw[k b o n e]at h
   cases h
def tY(a b:List Th):fT (a++b)=fT a++fT b:=List.filterMap_append
def Wp(l:TN):fT (l.map λk=>Th.tri .note (.inr k) 0)=l:=by
 unfold fT;rw[List.filterMap_map];show List.filterMap_some
def Wq{n m:Nat}(h:m<=n):c8 m=(c8 n).take m:=by
 unfold c8;rw[<-uV,List.take_range,yW h]
def Wr(dn i:Nat):((c8 (dn+(i+1))).drop dn).map (λk=>Th.tri .note (.inr k) 0)=((c8 (dn+i)).drop dn).map (λk=>Th.tri .note (.inr k) 0)++[Th.tri .note (.inr ((dn+i:Nat):Int)) 0]:=by
 rw[<-Nat.add_assoc,DS,List.drop_append_of_le_length (by simp[c8]),qD];rfl
def pO{α β:Type}{F:α->β->Prop}:∀{a b:List α} {c d:List β},Paired F a c->Paired F b d->Paired F (a++b) (c++d)
 | _,_,_,_,.nil,h=>h
 | _,_,_,_,.cons q t,h=>.cons q (pO t h)
end Gen
namespace L2
def KeepN.back(k:KeepN (λb=>b≠st) H H')(n:b≠st)(h:H' b=none):H b=none:=Gen.back k n h
end L2
namespace Gen
open L2 Bk PyProof.Rows
theorem Ln:∀(l:TV) (x:Str),risingS x l=true->(∀y∈l,¬y.cps.toList<x.cps.toList)/\l.Pairwise λa b=>¬b.cps.toList<a.cps.toList
 | [],x,_=>⟨(λy hy=>nomatch hy),List.Pairwise.nil⟩
 | y :: r, x, h => by
   have h':((Bool.not (ltCps y.cps.toList x.cps.toList)) && risingS y r)=true:=h
   rw[yK]at h'
   let⟨h1,h2⟩:=h'
   have n1:¬y.cps.toList<x.cps.toList:=by
     rw[ltCps_eq]at h1
     simpa using h1
   let⟨a,b⟩:=Ln r y h2
   show⟨λz hz=>?_,List.Pairwise.cons (λz hz=>a z hz) b⟩
   rcases qO.mp hz with rfl | hz
   · show n1
   · intro lt
     show a z hz (Std.lt_of_lt_of_le lt (vP.mp n1))
theorem Ws(h:sortedS l=true):l.Pairwise λa b=>¬b.cps.toList<a.cps.toList:=by
 cases l with
 | nil=>show List.Pairwise.nil
 | cons x r =>
   let⟨a,b⟩:=Ln r x h
   show List.Pairwise.cons a b
def Wt{x y:Str}(h:x.cps.toList=y.cps.toList):x=y:=by
 let⟨⟨x⟩⟩:=x;let⟨⟨y⟩⟩:=y;cases h;rfl
def Wu{l:TV}(h:sortedS l=true)(n:l.Nodup):l.Pairwise λa b=>a.cps.toList<b.cps.toList:=by
 have:=(Ws h).and n;show this.imp λ{a b} q=>?_
 by_cases z:a.cps.toList<b.cps.toList
 .show z
 .show absurd (Wt (List.le_antisymm (vP.mp q.1) (vP.mp z))) q.2
def tZ:TV:=[s!"big",s!"red",s!"far",s!"of"]
def Wv:∀x∈tZ,Name x:=by
 intro x hx;unfold Name tD;revert x hx;ac_rfl
theorem Ww(h:∀x∈ks,x∈tZ)(l:ks.length<=4)(pm:ms.Perm (c9 ks))(so:sortedS ms=true):j8 ms:=by
 have le:(c9 ks).length<=ks.length:=by
  have:∀(a b:TV),(a.foldl cI b).length<=a.length+b.length:=by
   intro a
   induction a with
   | nil=>intro b;simp
   | cons x a ih =>
     intro b
     rw[xE]
     have h1:=ih (cI b x)
     have h2:=DX b x
     have h3:(cI b x).length<=b.length+1:=by rw[h2];split<;>omega
     simp only[List.length_cons]
     omega
  simpa[c9]using this ks []
 show⟨by rw[pm.length_eq];omega,λm hm=>?_,Wu so (pm.nodup_iff.mpr (Lb ks))⟩;show Wv m (h m ((V6 ks m).mp (pm.mem_iff.mp hm)))
def ua(nms:TV):(nms.map V.str).all j5=true:=by
 rw[y9];intro v hv;let⟨x,_,rfl⟩:=qW.mp hv;rfl
def Wx{α β:Type}(f:α->β){ts:List α}{i:Nat}{t:α}(h:ts[i]?=!t):(ts.take (i+1)).map f=(ts.take i).map f++[f t]:=by
 rw[qS,h,qD];rfl
def cC{as:TQ}{i:Nat}{x:V}(h:(as.map V.ref)[i]?=!x):∃a,as[i]?=!a/\x=.ref a:=by
 rw[qK]at h;cases e:as[i]? with
 | none=>rw[e]at h;cases h
 | some t=>rw[e]at h;cases h;show⟨t,O,O⟩
theorem Wy(ks:TV):(c9 ks).length<=ks.length:=by
 have:∀(a b:TV),(a.foldl cI b).length<=a.length+b.length:=by
  intro a
  induction a with
  | nil=>intro b;simp
  | cons x a ih =>
    intro b
    rw[xE]
    have h1:=ih (cI b x)
    have h2:=DX b x
    have h3:(cI b x).length<=b.length+1:=by rw[h2];split<;>omega
    simp only[List.length_cons]
    omega
 simpa[c9]using this ks []
end Gen
namespace Gen
open L2 Bk
theorem Lo{e lv:Nat}(hl:lv<=6):∀(cT:List Nd) (i:Nat),(∀c∈cT,c.e=(e:Int)/\c.k=.note/\fT c.st=[])->Forest e i lv cT (List.replicate cT.length .note)
 | [],i,_=>.nil
 | c :: cT, i, h => by
   let⟨h1,h2,h3⟩:=h c rB
   have f:=Lo hl cT (i+1) λd hd=>h d (qU _ hd)
   have:=Forest.cons (d:=c) (sub:=[]) (ks:=[]) h1 hl (by rw[h2];decide) .nil ⟨(λc hc=>nomatch hc),(by rw[h2];intro z;cases z),trivial,(λ_=>h3)⟩ (show Forest e (i+1+([]:List Nd).length) lv cT _ from f)
   rw[h2,vI]at this
   show this
def Lp:∀n,Nexts (List.replicate n .note)
 | 0=>trivial
 | n+1=>Lp n
def Wz{n:Nat}(hk:k=.text\/k=.head)(h:fT st=c8 n):Holds k (List.replicate n .note) st:=by
 show⟨λc hc=>?_,λz=>?_,Lp n,λ_=>by rw[rY];show h⟩
 .rw[u9 hc];rcases hk with rfl | rfl<;>rfl
 .rcases hk with rfl | rfl<;>cases z
def Lq{n:Nat}(hk:d.k=.text\/d.k=.head\/d.k=.note)(p:tF n d.st)(m:j8 d.mks)(nm:d.nm=cA\/Name d.nm):pG d:=by
 show⟨nm,m,?_⟩;rcases hk with h | h | h<;>rw[h]<;>show⟨p.ok,p.ne,p.le⟩
def WA:Name (s!"nowhere"):=by unfold Name tD;ac_rfl
def WB{r:Int}(h0:0<=r)(h1:r<5):∃n:Nat,n<=2/\bD [V.int 0,V.int 0,V.int 1,V.int 0,V.int 2] r=!.int n:=by
 rcases(by omega:r=0\/r=1\/r=2\/r=3\/r=4)with rfl | rfl | rfl | rfl | rfl
 .show⟨0,{},O⟩
 .show⟨0,{},O⟩
 .show⟨1,{},O⟩
 .show⟨0,{},O⟩
 .show⟨2,{},O⟩
end Gen
namespace L2
def seq_post(P:St->Hp->Prop)(h:∀D':gO,(∀ae H',P ae H'->D'.nx ae H')->t D' σ H)(k:∀ae H',P ae H'->u D ae H'):rj t u D σ H:=h _ k
def Lr(P:Bool->Hp->Prop)(h:∀Q:Bool->Hp->Prop,(∀b H',P b H'->Q b H')->c σ H Q)(k:∀b H',P b H'->if b=true then t D σ H' else u D σ H'):Jm c t u D σ H:=h _ k
def WC(P:V->Hp->Prop)(h:∀Q:VK,(∀v H',P v H'->Q v H')->te σ H Q)(k:∀v H',P v H'->g v σ H' D.nx):lD te g D σ H:=h _ k
end L2
namespace Gen
open L2 Bk
def bY(k k':Kd):decide (V.str k.s=V.str k'.s)=decide (k=k'):=by
 by_cases h:k=k'
 .rw[qJ h,h];simp
 .rw[qP h];show qP λz=>h ((Kd.inj k k').mp (V.str.inj z))
def nD:List Kd:=[.text,.text,.picture,.case,.shelf,.grid,.head,.aside]
def WD{r:Int}(h0:0<=r)(h1:r<8):∃k:Kd,bD (nD.map λk=>V.str k.s) r=!.str k.s/\(k=.text\/k=.picture\/k=.case\/k=.shelf\/k=.grid\/(6<=r/\(k=.head\/k=.aside))):=by
 rcases(by omega:r=0\/r=1\/r=2\/r=3\/r=4\/r=5\/r=6\/r=7)with rfl | rfl | rfl | rfl | rfl | rfl | rfl | rfl
 .show⟨.text,O,.inl O⟩
 .show⟨.text,O,.inl O⟩
 .show⟨.picture,O,.inr (.inl O)⟩
 .show⟨.case,O,.inr (.inr (.inl O))⟩
 .show⟨.shelf,O,.inr (.inr (.inr (.inl O)))⟩
 .show⟨.grid,O,.inr (.inr (.inr (.inr (.inl O))))⟩
 .show⟨.head,O,.inr (.inr (.inr (.inr (.inr ⟨{},.inl O⟩))))⟩
 .show⟨.aside,O,.inr (.inr (.inr (.inr (.inr ⟨{},.inr O⟩))))⟩
def kh(k:Kd):Prop:=k=.text\/k=.head\/k=.picture
def Eg(ke k:Kd):=(gX ke k=true\/(k=.aside/\ke=.aside))/\(k=.text\/k=.picture\/k=.case\/k=.shelf\/k=.grid\/k=.head\/k=.aside)
def WE{sd:Bool}{r:Int}(hc:lQ ke)(hs:sd=true↔ke=.shelf\/ke=.grid)(hr:r<if sd=true then 6 else 8)(hk:k=.text\/k=.picture\/k=.case\/k=.shelf\/k=.grid\/(6<=r/\(k=.head\/k=.aside))):Eg ke k:=by
 unfold Eg;have Eh:6<=r->¬(ke=.shelf\/ke=.grid):=λh z=>by
  rw[if_pos (hs.mpr z)]at hr;omega
 rcases hc with rfl | rfl | rfl | rfl | rfl<;>rcases hk with rfl | rfl | rfl | rfl | rfl | ⟨h6,rfl | rfl⟩<;>first | show⟨.inl rfl,{}⟩ | show⟨.inr ⟨rfl,rfl⟩,{}⟩ | show absurd (show _\/_ by first | show .inl rfl | show .inr rfl) (Eh h6)
instance (k:Kd):Decidable (kh k):=inferInstanceAs (Decidable (k=.text\/k=.head\/k=.picture))
def AI:List Kd:=[.text,.head,.picture]
def Ls(k:Kd):lK (.str k.s) (AI.map λk=>V.str k.s)=decide (kh k):=by
 unfold lK AI kh;have e:∀a b:Kd,j6 (.str a.s) (.str b.s)=decide (a=b):=λa b=>by
  show(a.s == b.s)=_;rw[yI];simp[Kd.inj]
 simp only[List.map_cons,List.map_nil,List.any_cons,List.any_nil,e];cases k<;>rfl
def Lu(hc:lQ ke):gX ke .text=true:=by rcases hc with rfl | rfl | rfl | rfl | rfl<;>rfl
def WF(hc:lQ ke):gX ke .picture=true:=by rcases hc with rfl | rfl | rfl | rfl | rfl<;>rfl
structure WG(ke k:Kd)(lv R n:Nat):Prop where
 may:gX ke k=true
 lvl:3<lv->kh k
 room:R<=n->kh k
 one:k=.text\/k=.picture\/k=.case\/k=.shelf\/k=.grid\/k=.head\/k=.aside
def WH(sd:Bool):bD [V.int 8,V.int 6] (if sd=true then 1 else 0)=!.int (if sd=true then 6 else 8):=by cases sd<;>rfl
def Lw{R lv n:Nat}(h:n<R):n+3<=iB R lv:=by unfold iB;split<;>(try split)<;>(try split)<;>omega
def i5(R lv j n:Nat):Prop:=n<=R+3*j\/(1<=j/\n<=iB R (lv+1)+3*(j-1))
def Lx{R lv j n n':Nat}(h:i5 R lv j n)(h1:R<=n->n'<=n+3)(h2:n<R->n'<=iB R (lv+1)):i5 R lv (j+1) n':=by
 unfold i5 at *
 by_cases z:n<R
 .show .inr ⟨(),by have:=h2 z;omega⟩
 .have:=h1 ();rcases h with h | ⟨h,h'⟩
  .show .inl ()
  .show .inr ⟨(),()⟩
def WI{R lv j n:Nat}(h:i5 R lv j n)(hj:j<=3)(hl:1<=lv)(Ei:lv<=3):n+3<=iB R lv:=by
 unfold i5 iB at *;rcases(by omega:lv=1\/lv=2\/lv=3)with rfl | rfl | rfl<;>simp at*<;> omega
def Ly{R lv j n:Nat}(h:i5 R lv j n)(hj:j<=3)(hR:R<=12):n<=60:=by
 unfold i5 iB at h
 split at h<;>(try split at h)<;>(try split at h)<;>omega
end Gen
namespace Bk
open L2
open PySem.W (Dat kqdOk)
def AJ:Sum Str Int->Dat
 | .inl w=>.str w
 | .inr k=>.int k
def lR:Th->Dat
 | .int n=>.int n
 | .tri s x t=>.tuple [.str s.s,AJ x,.int t]
def AK(d:Nd):Dat:=.tuple [.int d.e,.str d.k.s,.str d.nm,.list (d.mks.map Dat.str),.list (d.st.map lR)]
def ud(ds:List Nd):Dat:=.list (ds.map AK)
section
variable{N:Addr->Prop}{H:Hp}
theorem WJ(h:ItAt N H v x):dq H v (lR x):=by
 cases x with
 | int n=>cases h;show .int n
 | tri s x t =>
   let⟨a,rfl,_,e⟩:=h
   show .tup e (.cons (.str _) (.cons ?_ (.cons (.int _) .nil)))
   cases x with
   | inl w=>show .str w
   | inr k=>show .int k
def WK(p:Paired (ItAt N H) vs l):fj H vs (l.map lR):=by
 induction p with
 | nil=>show .nil
 | cons q t ih=>show .cons (WJ q) ih
def WM(h:NdAt N H a d):dq H (.ref a) (AK d):=by
 let⟨_,m,s,e,_,em,_,vs,es,p⟩:=h;show .tup e (.cons (.int _) (.cons (.str _) (.cons (.str _) (.cons (.lst em (Li _)) (.cons (.lst es (WK p)) .nil)))))
def WN(p:NdsAt N H as ds):fj H (as.map V.ref) (ds.map AK):=by
 induction p with
 | nil=>show .nil
 | cons q t ih=>show .cons (WM q) ih
def WO(h:cB N H p ds):dq H (.ref p) (ud ds):=by
 let⟨as,e,q⟩:=h;show .lst e (WN q)
end
def WP(h:∀c∈x.cps.toList,c<128):PyData.strOk x=true:=by
 show(x.cps.all λc=>decide (c<0x110000))=true;rw[Array.all_eq_true'];intro c hc;have:=h c ‹hc›;show qJ ()
def WQ(k:Kd):PyData.strOk k.s=true:=by cases k<;>ac_rfl
def Ej(s:So):PyData.strOk s.s=true:=by cases s<;>ac_rfl
def WR:∀c∈pF,c<128:={}
def WS(h:AA w):PyData.strOk w=true:=WP λc hc=>WR c (h.2.2 c hc)
def Ek(h:n=cA\/Name n):PyData.strOk n=true:=by
 rcases h with rfl | h
 .ac_rfl
 .show Gen.small_str h.2.2
def bL:Nd:=⟨-1,.body,cA,[],[]⟩
end Bk
namespace Gen
open L2 Bk
end Gen
namespace L2
open PyProof.Rows
structure FunD(K:W.Frag)(x qual:Str)(st:Stmt)(f:Addr)(fd:FuncData):Prop where
 ex:∃(oc:Value) (od:Option Addr) (dV kV be pm:Value) (an:Option Addr) (aA ct:Value) (fh:Array (Option Value)),
  fd=W.fnOf x qual (c7 st) (b9 st) (bu st) dV kV be pm an aA ct/\K.lookup f=!⟨oc,od,.func fd,fh⟩/\W.codeIn K aA qual=true
 kp:W.keepIn K (.ref f)=true
theorem FunD.ok{P:Program}{w:World}{K:W.Frag}{mg:TJ}{base:Heap}{CX:cZ}{x qual:Str}{st:Stmt}{f:Addr}{fd:FuncData}{N ps:TV}{k:Nat}{sp:Sp}(F:FunD K x qual st f fd)(S:mX N ps (bu st))(len:∀vs H Q E,sp vs H Q E->vs.length=ps.length)(jY:∀(aA:Value) (A:Around) (outer:List Env) (s:Shared) (H:Hp) (vs:List V) (Q:VK) (E:XK),Room k (A.deeper (envOfC qual (bu st) (~~~s) f aA))->sp vs H Q E ->
   ∃t,PSs (fL CX P w K mg base N qual (bu st) f aA A outer s H E) (b9 st) t/\t {nx:=λ_ H'=>Q .non H',rt:=Q} (start N vs) H):aK P w K mg base CX (k+1) f fd ps sp:=by
 let⟨oc,od,dV,kV,be,pm,an,aA,ct,fh,rfl,lk,fI⟩:=F.ex;show Do lk fI S len λA outer s H vs Q E hr fM=>jY aA A outer s H vs Q E hr fM
def El{K:W.Frag}{x qual:Str}{st:Stmt}{f:Addr}{oc:Value}{od an:Option Addr}{fh:Array (Option Value)}{dV kV be pm aA ct:Value}(l:K.lookup f=!⟨oc,od,.func (W.fnOf x qual (c7 st) (b9 st) (bu st) dV kV be pm an aA ct),fh⟩)(c:W.codeIn K aA qual=true)(k:W.keepIn K (.ref f)=true):FunD K x qual st f (W.fnOf x qual (c7 st) (b9 st) (bu st) dV kV be pm an aA ct) :=
 ⟨⟨oc,od,dV,kV,be,pm,an,aA,ct,fh,O,l,c⟩,k⟩
def WT(K:W.Frag):List V->Hp->VK->Prop:=λxs H Q=>∃p ys,xs=[.ref p]/\(SqL K H p ys\/SqT K H p ys)/\∀l,H l=none->Q (.ref l) (af H l (.lst ys))
def WU(K:W.Frag)(hK:X.K=K):dy X (.type "list") (WT K):=by
 subst hK;show mZ
def Fx.none{P:Program}{w:World}{K:W.Frag}{mg:TJ}{base:Heap}{CX:cZ}{k:Nat}{x:Str}{ps:TV}{f:Addr}{fd:FuncData}{sp:Sp}(b:Binds K fd ps [])(kp:W.keepIn K (.ref f)=true)(m:mg x=!.ref f)(no:∀vs H Q E,¬sp vs H Q E):Fx P w K mg base CX k x ps sp :=
 ⟨f,fd,⟨λ_ _ _ _ h=>(no _ _ _ _ h).elim,λ_ _ _ _ _ _ _ _ _ _ _ _ _ h=>(no _ _ _ _ h).elim⟩,b,kp,m⟩
def kj{k:Nat}{n:Nat}(K:W.Frag)(hK:X.K=K)(hc:X.calm=true)(h:oW X es t)(hn:(assignEach es X.env).length=n:=by rfl)(b7:(assignEach es X.env).findIdx? (·.1)=none:=by rfl):PG X (.Tuple es k pos) (C8 K n t):=by
 subst hK;show jp hc h hn b7
end L2
namespace Gen
open L2 Bk
section
variable{X:Cx}
def AL{T':String}(hi:X.mg "isinstance" = none)(g1:Gl X "isinstance")(hT:X.mg T=none)(gT:Gl X T)(bT:bootBuiltins T=!.type T')(he:PE X e te)(hn:T ≠ "__name__":=by decide)(hd:(T == ("__debug__" : Str))=false:=by decide)(h1:starEach [e,.Name T p2] X.env=(false,eval e X.env)::starEach [.Name T p2] X.env:=by rfl)(h2:starEach [.Name T p2] X.env=(false,eval (.Name T p2) X.env)::starEach [] X.env:=by rfl)(h3:(backTo pos (starEach [.Name T p2] X.env)).any (·.1)=false:=by rfl) :
  PE X (.Call (.Name "isinstance" p1) [e,.Name T p2] [] pos) (sB (λxs H Q=>∃x c t b,xs=[x,c]/\gh X.K H x t/\(∃cv,(∀u,RelV c u->u=cv)/\W.kitOne X.K t cv=!b)/\Q (.bl b) H) (dz te (dz (tC (.ty T')) iz))) :=
 JS Vq g1 hi We (aI he (aI (Sy (v:=.ty T') gT hT bT O hn hd) bH h2) h1) {} {} h1 h3
end
section
variable{K:W.Frag}
def WV:W.kitOne K (.type "int") (.type "int")=!true:=by unfold W.kitOne;rw[if_pos {}]
def WW:W.kitOne K (.type "int") (.type "bool")=!false:=by
 unfold W.kitOne;rw[if_neg {}];show(if W.kitMeta "bool" = true then W.subIn K (.type "int") (.type "bool")else none)=_;rw[if_pos (by ac_rfl)];show(fastBuiltinMro "int").map (·.contains (Value.type "bool"))=!false;ac_rfl
def WX:W.kitOne K (.type "list") (.type "list")=!true:=by unfold W.kitOne;rw[if_pos {}]
def WY:W.kitOne K (.type "tuple") (.type "tuple")=!true:=by unfold W.kitOne;rw[if_pos {}]
end
end Gen
namespace L2
open PyProof.Rows
def aM{n:Nat}(h:Nat.ble n 1000=true:=by rfl):n<=sizeLine:=xA (aR (Nat.le_of_ble_eq_true h))
class Nd (N:TV):Prop where
 nd:N.Nodup
theorem Fun.go{P:Program}{w:World}{K:W.Frag}{mg:TJ}{base:Heap}{x qual:Str}{st:Stmt}{f:Addr}{fd:FuncData}{ps:TV}{k:Nat}{sp:Sp}(F:Fun K x qual st f fd)(N:TV)(jY:∀(aA:Value) (A:Around) (outer:List Env) (s:Shared) (H:Hp) (vs:List V) (Q:VK) (E:XK),Room k (A.deeper (envOfC qual (bu st) (~~~s) f aA))->sp vs H Q E->Nd (fL am P w K mg base N qual (bu st) f aA A outer s H E).nox.N ->
   ∃t,PSs (fL am P w K mg base N qual (bu st) f aA A outer s H E).nox (b9 st) t/\t {nx:=λ_ H'=>Q .non H',rt:=Q} (start N vs) H)(S:mX N ps (bu st):=by show⟨O,O,O,by ac_rfl,O,by ac_rfl,by ac_rfl⟩)(len:∀vs H Q E,sp vs H Q E->vs.length=ps.length:=by intro _ _ _ _ h;first | (cases h;subst_vars;rfl) | (cases h.2;subst_vars;rfl) | (repeat first | rfl | let⟨rfl,h⟩:=h | let⟨_,h⟩:=h)):aK P w K mg base am (k+1) f fd ps sp :=
 F.ok S len λaA A outer s H vs Q E hr h=>jY aA A outer s H vs Q E hr h ⟨S.nd⟩
theorem FunD.go{P:Program}{w:World}{K:W.Frag}{mg:TJ}{base:Heap}{CX:cZ}{x qual:Str}{st:Stmt}{f:Addr}{fd:FuncData}{ps:TV}{k:Nat}{sp:Sp}(F:FunD K x qual st f fd)(N:TV)(jY:∀(aA:Value) (A:Around) (outer:List Env) (s:Shared) (H:Hp) (vs:List V) (Q:VK) (E:XK),Room k (A.deeper (envOfC qual (bu st) (~~~s) f aA))->sp vs H Q E->Nd (fL CX P w K mg base N qual (bu st) f aA A outer s H E).N ->
   ∃t,PSs (fL CX P w K mg base N qual (bu st) f aA A outer s H E) (b9 st) t/\t {nx:=λ_ H'=>Q .non H',rt:=Q} (start N vs) H)(S:mX N ps (bu st):=by show⟨O,O,O,by ac_rfl,O,by ac_rfl,by ac_rfl⟩)(len:∀vs H Q E,sp vs H Q E->vs.length=ps.length:=by intro _ _ _ _ h;first | (cases h;subst_vars;rfl) | (cases h.2;subst_vars;rfl) | (repeat first | rfl | let⟨rfl,h⟩:=h | let⟨_,h⟩:=h)):aK P w K mg base CX (k+1) f fd ps sp :=
 F.ok S len λaA A outer s H vs Q E hr h=>jY aA A outer s H vs Q E hr h ⟨S.nd⟩
section
variable{X:Cx}{e a b o tg iter dA:Expr}{te ta tb to:TE}{x:Str}{pos p eE:Pos}{es di:TW}{t:TA}{u:TA}
def sv(i:Nat)[n:Nd X.N](he:PE X e te)(hi:X.N[i]?=!x:=by rfl)(hx:Loc X.env.scope x:=by first | show Or.inl (by rfl) | show Or.inr (by rfl))(hs:swapsWith e (!.Name x eE) pos.line X.env=pure false:=by rfl)(hf:X.fn x=true\/X.env.scope.names.lookup x=!.local:=by first | show .inl rfl | show .inr rfl | assumption):PS X (.Assign [.Name x eE] e pos) (lD te (a7 i)):=SW n.nd hi hx he hs hf
def av(i:Nat)[n:Nd X.N](he:PE X e te)(ho:rp X op ti)(hi:X.N[i]?=!x:=by rfl)(hx:Loc X.env.scope x:=by first | show Or.inl (by rfl) | show Or.inr (by rfl))(hf:X.fn x=true\/X.env.scope.names.lookup x=!.local:=by first | show .inl rfl | show .inr rfl | assumption):PS X (.AugAssign (.Name x eE) op e pos) (C9 i te ti):=SX n.nd hi hx he ho hf
def nv(i:Nat)[n:Nd X.N](hi:X.N[i]?=!x:=by rfl)(hx:Loc X.env.scope x:=by first | show Or.inl (by rfl) | show Or.inr (by rfl))(hf:X.fn x=true\/X.env.scope.names.lookup x=!.local:=by first | show .inl rfl | show .inr rfl | assumption):PG X (.Name x pos) (a7 i):=SV n.nd hi hx hf
def fv{body:List Stmt}{wi:TI}{g:TG}{tb:TS}(hi:PI X tg iter wi)(hg:PG X tg g)(hb:PSs X body tb)(hp:PassesOwn (model X.prog X.w) X.A X.env X.xe:=by show uO)(hc:X.calm=true:=by rfl)(hs:∀x,foldedSetIterable iter X.env x=pure x:=by intro _;rfl):PS X (.For tg iter body [] pos) (Jy wi g tb):=Uk hp hc hi hg hb hs
def a1(h1:PE X e te)(s1:starEach [e] X.env=(false,eval e X.env)::starEach [] X.env:=by rfl):PA X [e] (dz te iz):=aI h1 bH s1
def a2(h1:PE X e te)(h2:PE X e2 t2)(s1:starEach [e,e2] X.env=(false,eval e X.env)::starEach [e2] X.env:=by rfl)(s2:starEach [e2] X.env=(false,eval e2 X.env)::starEach [] X.env:=by rfl):PA X [e,e2] (dz te (dz t2 iz)):=aI h1 (a1 h2 s2) s1
def a3(h1:PE X e te)(h2:PE X e2 t2)(h3:PE X e3 t3)(s1:starEach [e,e2,e3] X.env=(false,eval e X.env)::starEach [e2,e3] X.env:=by rfl)(s2:starEach [e2,e3] X.env=(false,eval e2 X.env)::starEach [e3] X.env:=by rfl)(s3:starEach [e3] X.env=(false,eval e3 X.env)::starEach [] X.env:=by rfl):PA X [e,e2,e3] (dz te (dz t2 (dz t3 iz))):=aI h1 (a2 h2 h3 s2 s3) s1
def cF{k m:Nat}(F:Fx X.prog X.w X.K X.mg X.base am k x ps sp)(hr:Room m X.A)(ha:PA X (e::es) t)(hk:k<=m:=by first | decide | omega)(hg:Gl X x:=by rfl)(gQ:(x == ("__debug__" : Str))=false:=by decide)(he:starEach (e::es) X.env=(false,eval e X.env)::starEach es X.env:=by rfl)(dJ:(backTo pos (starEach es X.env)).any (·.1)=false:=by rfl):PE X (.Call (.Name x p) (e::es) [] pos) (Ao sp [] E0 t):=Lg F (hr.mono hk) hg DD ha gQ he dJ
def px(hr:sF X r)(ha:PE X a ta)(hb:PE X b tb)(hs:JV b:=by show λ_ _=>rfl):PE X (.Subscript a b pos) (eF r ta tb):=UP hr ha hb hs
def tc(ho:bQ X (compareOp op) r)(ha:PE X a ta)(hb:PE X b tb)(hm:behindInMarks op b=false:=by first | show JI _ | with_unfolding_all rfl):PT X (.Compare a [op] [b] pos) (sn (eF r ta tb)):=Uw ho ha hb hm
def ec(ho:bQ X (compareOp op) r)(ha:PE X a ta)(hb:PE X b tb)(hm:behindInMarks op b=false:=by first | show JI _ | with_unfolding_all rfl):PE X (.Compare a [op] [b] pos) (eF r ta tb):=Uv ho ha hb hm
def gi{n:Int}{y}(hm:X.mg x=!.int n y)(hg:Gl X x:=by rfl)(hd:(x == ("__debug__" : Str))=false:=by decide):PE X (.Name x pos) (tC (.int n)):=C4 hg hm ⟨_,O⟩ hd
def gs{y}(hm:X.mg x=!.str n y)(hg:Gl X x:=by rfl)(hd:(x == ("__debug__" : Str))=false:=by decide):PE X (.Name x pos) (tC (.str n)):=C4 hg hm ⟨_,O⟩ hd
def gr(hm:X.mg x=!.ref n)(hg:Gl X x:=by rfl)(hd:(x == ("__debug__" : Str))=false:=by decide):PE X (.Name x pos) (tC (.ref n)):=C4 hg hm O hd
def cb{id:String}{r}(hc:dy X (.builtin id) r)(hm:X.mg x=none)(hv:bootBuiltins x=!.builtin id)(ha:PA X (e::es) t)(hg:Gl X x:=by rfl)(hn:x ≠ "__name__":=by decide)(gQ:(x == ("__debug__" : Str))=false:=by decide)(he:starEach (e::es) X.env=(false,eval e X.env)::starEach es X.env:=by rfl)(dJ:(backTo pos (starEach es X.env)).any (·.1)=false:=by rfl):PE X (.Call (.Name x p) (e::es) [] pos) (sB r t):=JS hc hg hm hv ha hn gQ he dJ
def ln(hm:X.mg "len" = none)(he:PE X e te)(hg:Gl X "len":=by rfl)(hs:starEach [e] X.env=(false,eval e X.env)::starEach [] X.env:=by rfl)(dJ:(backTo pos (starEach [] X.env)).any (·.1)=false:=by rfl):PE X (.Call (.Name "len" p) [e] [] pos) (sB (Dv X.K) (dz te iz)):=cb UW hm Gen.b_len (a1 he hs) hg {} {} hs dJ
def r1(hm:X.mg "range" = none)(ha:PE X a ta)(hg:Gl X "range":=by rfl)(hs:starEach [a] X.env=[(false,eval a X.env)]:=by rfl)(h2:starEach [a] X.env=(false,eval a X.env)::starEach [] X.env:=by rfl):PI X tg (.Call (.Name "range" p) [a] [] pos) (Jw (dz ta iz)):=Uj hg hm (a1 ha h2) hs
variable{scope:Scope}{wi:TI}{g:TG}{tt:TT}
def Lz{ix:TM}(h1:scope.kind=.function)(h2:∀y∈scope.names,y.2≠.cell)(h3:∀y∈scope.names,y.2=.local->scope.names.lookup y.1=!.local)(h4:∀y∈scope.names,y.2=.free->y.1∈fr)(h5:ix.map (λj=>X.N[j]?)=fr.map some)(h6:∀x∈fr,scope.names.lookup x=!.free)(h7:fr.all (λx=>decide (X.env.scope.names.lookup x=!.cell))=true):CompScope X scope own fr ix :=
 .frees h1 h2 h3 h4 h5 h6 λx hx=>.inl (rH (y9.mp h7 x hx))
def cm(own fr:TV)(ix:TM)(hi:PI X tg iter wi)(hg:∀{cl C s2 H2 fp} [Nd (bU X (own++fr) scope cl C s2 H2 fp).N],PG (bU X (own++fr) scope cl C s2 H2 fp) tg g)(ht:∀{cl C s2 H2 fp},nh (bU X (own++fr) scope cl C s2 H2 fp) di tt)(he:∀{cl C s2 H2 fp} [Nd (bU X (own++fr) scope cl C s2 H2 fp).N],PE (bU X (own++fr) scope cl C s2 H2 fp) dA te)(nd:(own++fr).Nodup:=by ac_rfl)(hc:X.calm=true:=by rfl)(S:CompScope X scope own fr ix:=by show Lz (by rfl) (by ac_rfl) (by ac_rfl) (by ac_rfl) (by rfl) (by ac_rfl) (by rfl))(hs:∀x,foldedSetIterable iter X.env x=pure x:=by intro _;rfl):PE X (.ListComp dA [⟨tg,iter,di,0⟩] scope pos) (Av own.length ix wi g tt te) :=
 Vk hc S hi (λcl C s2 H2 fp=>@hg cl C s2 H2 fp ⟨nd⟩) (λcl C s2 H2 fp=>ht) (λcl C s2 H2 fp=>@he cl C s2 H2 fp ⟨nd⟩) hs
def sm(i:Nat)[n:Nd X.N](own fr:TV)(ix:TM)(hi:PI X tg iter wi)(hg:∀{cl C s2 H2 fp} [Nd (bU X (own++fr) scope cl C s2 H2 fp).N],PG (bU X (own++fr) scope cl C s2 H2 fp) tg g)(ht:∀{cl C s2 H2 fp},nh (bU X (own++fr) scope cl C s2 H2 fp) di tt)(he:∀{cl C s2 H2 fp} [Nd (bU X (own++fr) scope cl C s2 H2 fp).N],PE (bU X (own++fr) scope cl C s2 H2 fp) dA te)(nd:(own++fr).Nodup:=by ac_rfl)(hc:X.calm=true:=by rfl)(DK:X.N[i]?=!y:=by rfl)(hy:Loc X.env.scope y:=by first | show Or.inl (by rfl) | show Or.inr (by rfl))(S:CompScope X scope own fr ix:=by show Lz (by rfl) (by ac_rfl) (by ac_rfl) (by ac_rfl) (by rfl) (by ac_rfl) (by rfl))(hf:X.fn y=true\/X.env.scope.names.lookup y=!.local:=by first | show .inl rfl | show .inr rfl | assumption)(DM:swapsWith (.ListComp dA [⟨tg,iter,di,0⟩] scope pos) (!.Name y py) DN.line X.env=pure true:=by with_unfolding_all rfl)(hs:∀x,foldedSetIterable iter X.env x=pure x:=by intro _;rfl):PS X (.Assign [.Name y py] (.ListComp dA [⟨tg,iter,di,0⟩] scope pos) DN) (lD (Av own.length ix wi g tt te) (a7 i)) :=
 Vl hc n.nd DK hy S hi (λcl C s2 H2 fp=>@hg cl C s2 H2 fp ⟨nd⟩) (λcl C s2 H2 fp=>ht) (λcl C s2 H2 fp=>@he cl C s2 H2 fp ⟨nd⟩) hf DM hs
theorem ap(ho:PE X o to)(ha:PE X e te)(m7:attributeBase o "append" X.env (eval o X.env)=eval o X.env:=by rfl)(sP:((backTo dR (starEach [e] X.env)).all (λx=>(Bool.not (x.1))) && (backToKw dR (keywordEach [] X.env)).all (λx=>x.1.isSome)
   && decide ([e].length+([]:List Keyword).length+(if([]:List Keyword).isEmpty then 0 else 1)<30))=true:=by rfl)(m9:(jX.endLine == dR.line)=true:=by rfl)(hs:starEach [e] X.env=(false,eval e X.env)::starEach [] X.env:=by rfl)(sQ:(backTo dR (starEach [] X.env)).any (·.1)=false:=by rfl) :
  PE X (.Call (.Attribute o "append" jX) [e] [] dR) (Dx X.K "list" As to (dz te iz)):=jr xN vA vC JZ ho (a1 ha hs) m7 sP m9 hs sQ
end
end L2
namespace Gw
open L2
open Bk hiding Names
open Gen
def gZ(n:Nat):Str:=s!"n" ++ sg (97+n % 26)++sg (97+n / 26)
def NmOk(ds:List Nd)(x:Str):Prop:=x=cA\/(ds.length<=200/\x=gZ ds.length)
def Names(ds:List Nd):=∀(i:Nat) (d:Nd),ds[i]?=!d->d.nm=cA\/d.nm=gZ i
def LA{n:Nat}(h:n<26):bD small.cps.toList (n:Int)=!97+n:=by
 have all:∀m,m<26->bD small.cps.toList ((m:Nat):Int)=!97+m:=by ac_rfl
 show all n h
def WZ{n:Nat}(h:n<=200):Name (gZ n):=by
 have l:(gZ n).length=3:=by unfold gZ;rw[Ed,Ed];rfl
 show⟨by rw[l];decide,by rw[l];decide,Ee (Ee (λx hx=>?_) ⟨(),()⟩) ⟨(),()⟩⟩;have e:(s!"n").cps.toList=[110]:=by ac_rfl
 rw[e]at hx;have:x=110:=‹hx›
 subst this;show⟨{},{}⟩
def W0{n m:Nat}(h:gZ n=gZ m):n=m:=by
 have e:(s!"n").cps.toList=[110]:=by ac_rfl
 have h2:(gZ n).cps.toList=(gZ m).cps.toList:=by rw[h]
 unfold gZ at h2;rw[tX,tX,tX,tX,e]at h2;simp only[sg,List.cons_append,List.nil_append,List.cons.injEq,true_and,and_true]at h2;omega
def NmOk.or(h:NmOk ds x):x=cA\/Name x:=by
 rcases h with h | h
 .show .inl h
 .rw[h.2];show .inr (WZ h.1)
theorem ue(h:Names ds)(n:NmOk ds d.nm):Names (ds++[d]):=λi c hc=>by
 by_cases z:i<ds.length
 .rw[rW z]at hc;show h i c hc
 .rw[rJ ()]at hc;have i0:i-ds.length=0:=by
   have:=(qI.mp hc).1;simp at this;omega
  rw[i0]at hc;have:d=c:=‹hc›
  subst this;have ei:i=ds.length:=()
  rw[ei];rcases n with n | n
  .show .inl n
  .show .inr n.2
theorem names_nodup(h:Names ds):((ds.filter λd=>d.nm≠cA).map (·.nm)).Nodup:=by
 have all:∀(l:List Nd) (k:Nat),(∀(i:Nat) (d:Nd),l[i]?=!d->d.nm=cA\/d.nm=gZ (k+i))->((l.filter λd=>d.nm≠cA).map (·.nm)).Nodup/\∀x∈(l.filter λd=>d.nm≠cA).map (·.nm),∃j,k<=j/\x=gZ j:=by
  intro l
  induction l with
  | nil=>intro k _;show⟨u6,λx hx=>nomatch hx⟩
  | cons d l ih =>
    intro k hk
    let⟨n1,n2⟩:=ih (k+1) λi c hc=>by
      have:=hk (i+1) c (by rw[rN];show hc)
      rw[show k+1+i=k+(i+1) by omega]
      show this
    by_cases z:d.nm=cA
    · rw[List.filter_cons_of_neg (by simp[z])]
      show⟨n1,λx hx=>by let⟨j,h1,h2⟩:=n2 x hx;show⟨j,(),h2⟩⟩
    · rw[List.filter_cons_of_pos (by simp[z]),xO,yV]
      have ed:d.nm=gZ k:=by
        rcases hk 0 d O with q | q
        · show absurd q z
        · show q
      show⟨⟨λm=>?_,n1⟩,λx hx=>?_⟩
      · let⟨j,h1,h2⟩:=n2 _ m
        rw[ed]at h2
        have:=W0 h2
        omega
      · rcases qO.mp hx with rfl | hx
        · show⟨k,qF _,ed⟩
        · let⟨j,h1,h2⟩:=n2 x hx
          show⟨j,(),h2⟩
 show(all ds 0 λi d hd=>by rw[Nat.zero_add];show h i d hd).1
inductive uf:List V->Hp->VK->XK->Prop
|m (H0:Hp) (p st s:Addr) (e:Int) (k:Kd) (ag:List Th) (ds:List Nd):vs=[.ref p,.int e,.str k.s,.ref s,.ref st]->Gs H0 st p H ds->StAt (gw H0 p) H s ag->ds.length<=200->(∀(d:Nd) (H':Hp),d.e=e->d.k=k->d.st=ag->j8 d.mks->NmOk ds d.nm->Gs H0 st p H' (ds++[d])->fU st p H H'->Q (.int ds.length) H')->uf vs H Q E
structure More(e lv:Nat)(ds more:List Nd)(ks:List Kd):Prop where
 fo:Forest e ds.length lv more ks
 fm:∀d∈more,pG d
 nm:Names (ds++more)
inductive AM:List V->Hp->VK->XK->Prop
|m (H0:Hp) (p st:Addr) (e lv:Nat) (k:Kd) (ds:List Nd):vs=[.ref p,.int e,.str k.s,.ref st]->Gs H0 st p H ds->(k=.text\/k=.head)->ds.length<=190->lv<=5->ny ds->Names ds->(∀(more:List Nd) (H':Hp),More e lv ds more [k]->more.length<=3->Gs H0 st p H' (ds++more)->fU st p H H'->Q .non H')->AM vs H Q E
inductive spItem(n:Nat):List V->Hp->VK->XK->Prop
|m (H0:Hp) (p st:Addr) (e lv lw R:Nat) (de:Nd) (ds:List Nd):vs=[.ref p,.int e,.int lv,.int R,.ref st]->Gs H0 st p H ds->ds[e]?=!de->lQ de.k->1<=lv->lv<=4->lv<=lw->lw<=lv+1->5<=lv+n->R<=12->ds.length<=100->ny ds->Names ds->(∀(more:List Nd) (ks:List Kd) (H':Hp),More e lw ds more ks->ItemKs de.k ks->(R<=ds.length->more.length<=3)->(ds.length<R->ds.length+more.length<=iB R lv)->Gs H0 st p H' (ds++more)->fU st p H H'->Q .non H')->spItem n vs H Q E
def LB(h:ny ds)(n:NmOk ds d.nm):ny (ds++[d]):=λc hc=>by
 rcases rG.mp hc with hc | hc
 .show h c hc
 .have:c=d:=‹hc›
  subst this;show n.or
def W1{e lv n:Nat}(hk:k=.text\/k=.head)(hl:lv<=5)(he:d.e=(e:Int))(AN:d.k=k)(p:tF n d.st)(m:j8 d.mks)(nm:NmOk ds d.nm)(hn:cT.length=n)(hc:∀c∈cT,c.e=(ds.length:Int)/\c.k=.note/\tF 0 c.st/\j8 c.mks/\(c.nm=cA\/Name c.nm))(na:Names (ds++(d::cT))):More e lv ds (d::cT) [k]:=by
 show⟨?_,λc eD=>?_,na⟩
 .have f:=Lo (e:=ds.length) (lv:=lv+1) () cT (ds.length+1) λc h=>⟨(hc c h).1,(hc c h).2.1,(hc c h).2.2.1.nn⟩
  have:=Forest.one (d:=d) he () (by rw[AN];rcases hk with rfl | rfl<;>decide) f (by rw[AN];show Wz hk (by rw[hn];show p.nn));rw[AN]at this;show this
 .rcases qO.mp eD with rfl | h
  .show Lq (by rw[AN];rcases hk with rfl | rfl<;>simp) p m nm.or
  .let⟨_,h2,h3,h4,h5⟩:=hc c h;show Lq (by rw[h2];simp) h3 h4 h5
structure Kids(nE lv:Nat)(k:Kd)(pre sub:List Nd)(ks:List Kd):Prop where
 fo:Forest nE (nE+1) (lv+1) sub ks
 fm:∀d∈sub,pG d
 nm:Names (pre++sub)
 ok:ny (pre++sub)
 may:∀c∈ks,gX k c=true
 nx:Nexts ks
def Kids.more{nE lv:Nat}{k:Kd}{pre sub more:List Nd}{ks bV:List Kd}(x:Kids nE lv k pre sub ks)(hl:(pre++sub).length=nE+1+sub.length)(m:More nE (lv+1) (pre++sub) more bV)(i:ItemKs k bV):Kids nE lv k pre (sub++more) (ks++bV):=by
 show⟨x.fo.append (by have:=m.fo;rw[hl]at this;show this),λd hd=>?_,by rw[<-rZ];show m.nm,λd hd=>?_,λc hc=>?_,x.nx.append i.nexts⟩
 .rcases rG.mp hd with h | h
  .show x.fm d h
  .show m.fm d h
 .rw[<-rZ]at hd;rcases rG.mp hd with h | h
  .show x.ok d h
  .show(m.fm d h).nm
 .rcases rG.mp hc with h | h
  .show x.may c h
  .show i.may c h
def More.nms{e lv:Nat}(m:More e lv ds more ks)(h:ny ds):ny (ds++more):=λd hd=>by
 rcases rG.mp hd with z | z
 .show h d z
 .show(m.fm d z).nm
def LC{e lv:Nat}(he:d.e=(e:Int))(hl:lv<=6)(hk:d.k=.case\/d.k=.shelf\/d.k=.grid\/d.k=.aside)(b7:d.st=[])(hm:j8 d.mks)(nm:NmOk ds d.nm)(x:Kids ds.length lv d.k (ds++[d]) sub ks)(W2:d.k≠.case->ks≠[]):More e lv ds (d::sub) [d.k]:=by
 show⟨Forest.one he hl (by rcases hk with h | h | h | h<;>rw[h]<;>decide) x.fo ⟨x.may,λz=>?_,x.nx,λz=>?_⟩,λc hc=>?_,by have:=x.nm;simpa using this⟩
 .show W2 λq=>?_
  rw[q]at z;cases z
 .rcases hk with h | h | h | h<;>rw[h]at z<;>cases z
 .rcases qO.mp hc with rfl | h
  .show⟨nm.or,hm,?_⟩;rcases hk with h | h | h | h<;>rw[h]<;>show b7
  .show x.fm c h
def W3{e lv:Nat}{a b:Int}(he:d.e=(e:Int))(hl:lv<=6)(hk:d.k=.picture)(b7:d.st=[.int a,.int b])(ha:1<=a/\a<=2000)(hb:1<=b/\b<=2000)(hm:j8 d.mks)(nm:NmOk ds d.nm)(na:Names ds):More e lv ds [d] [.picture]:=by
 show⟨?_,λc hc=>?_,ue na nm⟩
 .have:=Forest.one (i:=ds.length) (lv:=lv) (sub:=[]) (ks:=[]) he hl (by rw[hk];decide) .nil ⟨(λc hc=>nomatch hc),(by rw[hk];intro z;cases z),trivial,(by rw[hk];intro z;cases z)⟩;rw[hk]at this;show this
 .have:c=d:=‹hc›
  subst this;show⟨nm.or,hm,?_⟩;rw[hk,b7];show⟨a,b,O,ha.1,ha.2,hb.1,hb.2⟩
def More.cat{e lv:Nat}(x:More e lv ds a ks)(y:More e lv (ds++a) b bV):More e lv ds (a++b) (ks++bV):=by
 show⟨x.fo.append (by have:=y.fo;rw[qG]at this;show this),λd hd=>?_,by rw[<-rZ];show y.nm⟩;rcases rG.mp hd with h | h
 .show x.fm d h
 .show y.fm d h
def W4:Kids 0 0 .body [bL] [] []:=⟨.nil,(λd hd=>nomatch hd),(λi d hd=>by
 have:d∈[bL]++[]:=qR hd;have:d=bL:=‹this›
 rw[this];show .inl O),λd hd=>by
 have:d=bL:=‹hd›
 rw[this];show .inl O,(λc hc=>nomatch hc),trivial⟩
def item_none:∀vs H Q E,¬spItem 0 vs H Q E:=by
 ext vs H Q E ⟨H0,p,st,e,lv,lw,R,de,ds,rfl,_,_,_,h1,h2,_,_,h3,_⟩;omega
inductive spBook:List V->Hp->VK->XK->Prop
|m (st:Addr) (m R:Nat):vs=[.ref st,.int m,.int R]->StOk H st->1<=m->m<=4->1<=R->R<=12->(∀(p:Addr) (sub:List Nd) (ks:List Kd) (H':Hp),Kids 0 0 .body [bL] sub ks->sub.length<=R+26+3*m->ks≠[]->Gs H st p H' (bL::sub)->Q (.ref p) H')->spBook vs H Q E
inductive spWide:List V->Hp->VK->XK->Prop
|m (H0:Hp) (p st:Addr) (sub:List Nd) (ks:List Kd):vs=[.ref p,.ref st]->Gs H0 st p H (bL::sub)->Kids 0 0 .body [bL] sub ks->sub.length<=50->(∀(more:List Nd) (bV:List Kd) (H':Hp),Kids 0 0 .body [bL] (sub++more) (ks++bV)->more.length<=28->Gs H0 st p H' (bL::(sub++more))->Q .non H')->spWide vs H Q E
end Gw
local macro_rules|`(⋯)=>do
 let a:=Lean.mkIdent `P;let b:=Lean.mkIdent `w;let c:=Lean.mkIdent `K;let d:=Lean.mkIdent `mg;let e:=Lean.mkIdent `base;let f:=Lean.mkIdent `am
 `(L2.Fx $a $b $c $d $e $f)
local macro_rules|`(~~~0)=>do
 let a:=Lean.mkIdent `P;let b:=Lean.mkIdent `w;let c:=Lean.mkIdent `K;let d:=Lean.mkIdent `mg;let e:=Lean.mkIdent `base;let f:=Lean.mkIdent `am
 `(L2.aK $a $b $c $d $e $f)
local macro_rules|`(tactic|rcases F.go $l with $p)=>do
 let a:=Lean.mkIdent `aA;let b:=Lean.mkIdent `A;let c:=Lean.mkIdent `outer;let d:=Lean.mkIdent `s;let e:=Lean.mkIdent `H;let f:=Lean.mkIdent `vs;let g:=Lean.mkIdent `Q;let h:=Lean.mkIdent `E;let i:=Lean.mkIdent `hr;let z:=Lean.mkIdent `F.go
 `(tactic|(refine $z $l ?_;intro $a:ident $b:ident $c:ident $d:ident $e:ident $f:ident $g:ident $h:ident $i:ident y;rcases y with $p;intro _))
namespace K32
open L2
open Bk hiding Names
open Gen
open Gw
def top(i:Nat):Stmt:=Challenge.pw_leafpress_k32_insides.main.body.getD i (.Pass ⟨0,0,0,0⟩)
abbrev LD:=top 112
abbrev LF:=top 113
abbrev LG:=top 115
abbrev LH:=top 116
abbrev LJ:=top 117
abbrev LK:=top 118
abbrev LL:=top 119
abbrev LN:=top 120
abbrev LP:=top 121
def W5(F:Fun K "_law_stream" "_law_stream" LD f fd)(T:Bn mg):(~~~0) 1 f fd ["_law_script", "_law_k"] (AH K):=by
 rcases F.go ["_law_script", "_law_k"] with⟨a,ns,k,rfl,hS,k0,k1,q⟩;show⟨_,(ar (ba (tc lI (pv 1) (ln T.len (pv 0))) (ax (aG (a0 (a2 (px aC (pv 0) (pv 1)) (aH bc (aH bc (aH lH (px aC (pv 0) (pv 1)) aw) (aH fK (pv 1) (pv 1))) aw))))) bj)
  (ax (aG (a0 (a2 (aH bc (aH fK (aH fK (pv 1) (pv 1)) aw) aw) (aH bc (pv 1) aw)))))),?_⟩
 have kk:0<=k*k/\k*k<=10000:=by
  have h1:=Int.mul_nonneg k0 k0;have h2:k*k<=100*100:=Int.mul_le_mul k1 k1 k0 {};omega
 show⟨_,O,_,O,a,_,O,.inl hS,_,_,O,O,_,O,?_⟩;show ca (λc=>?_) (λc=>?_)
 .have c':k<(((ns.map V.int).length:Nat):Int):=rH c;rw[qA]at c';let⟨v,hv⟩:=int_at (ns:=ns) k0 c';show⟨_,O,_,O,a,_,_,_,O,O,hS,hv,?_⟩;show⟨_,O,_,O,a,_,_,_,O,O,hS,hv,_,_,O,O,(by show(0:Int)<2147483629;decide),_,O,_,O,_,_,O,O,.inl ⟨(),()⟩,_,_,O,O,_,_,O,O,aM,λl hl=>?_⟩;have m1:=uM v (show(2147483629:Int)≠0 by decide);have m2:=uB v (show(0:Int)<2147483629 by decide);show q l _ hl ⟨v,_,aj,(),()⟩ (ao hl _)
 .show⟨_,O,_,O,_,_,O,O,.inl ⟨(),()⟩,_,_,O,O,.inl ⟨(),()⟩,_,_,O,O,_,O,_,_,O,O,aM,λl hl=>?_⟩;show q l _ hl ⟨_,_,aj,(),()⟩ (ao hl _)
theorem W6(F:Fun K "_law_take" "_law_take" LF f fd):(~~~0) 1 f fd ["_law_stream_here", "_law_most"] gY:=by
 rcases F.go ["_law_stream_here", "_law_most", "_law_digit"] with⟨st,m,rfl,⟨x,y,b7,y0,y1⟩,m0,m1,q0⟩;have q:∀r x' y':Int,0<=r->r<m->0<=y'->y'<4294967296->Q (.int r) (af H st (.lst [.int x',.int y'])):=λr x' y' r0 r1 z0 z1=>q0 r _ r0 r1 ⟨x',y',aj,z0,z1⟩ λb o n e=>by rw[aE n];show e
 show⟨_,(ar (ba (PW.pt (mT (tc bq (px aC (pv 0) aw) aw) (oV (tc bq (px aC (pv 0) aw) (dH dI aw))))) (ar (oY (aH lH (aH bc (aH fK (px aC (pv 0) aw) aw) aw) aw) (rq (pv 0) aw pA))
  (ax (aG (aH lH (aH lH (aH fK (px aC (pv 0) aw) (px aC (pv 0) aw)) aw) (pv 1))))) bj)
  (ar (sv 2 (aH lH (px aC (pv 0) aw) (pv 1)))
  (ar (oY (aH tz (px aC (pv 0) aw) (pv 1)) (rq (pv 0) aw pA))
  (ax (aG (pv 2)))))),?_⟩
 have mm:∀v:Int,0<=v % m/\v % m<m:=λv=>⟨uM v (),uB v m0⟩
 have empty:∀Q':VK,Q'=Q->rj (lD (eF (rI (λ_ j=>0<j) λi j=>.int (i % j)) (eF (iW λi j=>.int (i+j)) (eF (rI CMul λi j=>.int (i*j)) (eF (cz K) (jm 0) (tC (.int 1))) (tC (.int 48271))) (tC (.int 12345))) (tC (.int 2147483647))) (Jp (jm 0) (tC (.int 1)) Dt))
   (Jl (eF (rI (λ_ j=>0<j) λi j=>.int (i % j)) (eF (rI (λ_ j=>0<j) λi j=>.int (i % j)) (eF (rI CMul λi j=>.int (i*j)) (eF (cz K) (jm 0) (tC (.int 1))) (eF (cz K) (jm 0) (tC (.int 1)))) (tC (.int 2147483629))) (jm 1)))
   {nx:=λ_ _=>False,rt:=Q'} [!.ref st,!.int m,none] H:=by
  ext Q' rfl;show⟨_,O,st,_,_,_,O,O,SqL.of b7,O,_,_,O,O,.inl ⟨(),()⟩,_,_,O,O,_,_,O,O,(by show(0:Int)<2147483647;decide),_,O,st,_,1,1,O,O,b7,O,?_⟩;have z0:=uM (y*48271+12345) (show(2147483647:Int)≠0 by decide);have z1:=uB (y*48271+12345) (show(0:Int)<2147483647 by decide);have LQ:af H st (.lst [.int x,.int ((y*48271+12345) % 2147483647)]) st=!.lst [.int x,.int ((y*48271+12345) % 2147483647)]:=aj;show⟨_,O,st,_,_,_,O,O,SqL.of LQ,O,_,O,st,_,_,_,O,O,SqL.of LQ,O,_,_,O,O,.inl (show -(2 ^ 64)<(y*48271+12345) % 2147483647/\(y*48271+12345) % 2147483647<2 ^ 64 from⟨(),()⟩),_,_,O,O,(by show(0:Int)<2147483629;decide),_,O,_,_,O,O,m0,?_⟩;show q _ x _ (mm _).1 (mm _).2 z0 ()
 show⟨_,O,st,_,_,_,O,O,SqL.of b7,O,O,_,O,?_⟩
 by_cases x0:x=0
 .rw[qJ (show V.int x=V.int 0 by rw[x0])];show aY (aY ?_);show empty _ O
 .rw[qP (show¬V.int x=V.int 0 from λz=>x0 (V.int.inj z))];show aW ⟨_,O,st,_,_,_,O,O,SqL.of b7,O,_,O,O,_,O,?_⟩
  by_cases x1:x=-1
  .rw[qJ (show V.int x=V.int (-1) by rw[x1])];show aY ?_;show empty _ O
  .rw[qP (show¬V.int x=V.int (-1)from λz=>x1 (V.int.inj z))];show aW ?_;show⟨_,O,st,_,_,_,O,O,SqL.of b7,O,_,O,_,_,O,O,m0,?_⟩;show⟨_,O,st,_,_,_,O,O,SqL.of b7,O,_,O,_,_,O,O,⟨m0,()⟩,_,O,st,_,0,0,O,O,b7,O,?_⟩;show⟨_,O,?_⟩;show q _ (x / m) y (mm x).1 (mm x).2 y0 y1
def W7(F:Fun K "_law_word" "_law_word" LG f fd)(T:Bn mg)(bx:⋯ 1 "_law_take" ["_law_stream_here", "_law_most"] gY):(~~~0) 2 f fd ["_law_stream_here", "_law_most"] Eb:=by
 rcases F.go ["_law_stream_here", "_law_most", "_law_signs", "_law_word_here", "_law_k"] with⟨st,m,rfl,S,m1,m2,q⟩;show⟨_,(ar (sv 2 aO)
  (ar (sv 3 aO)
  (ar (fv (r1 T.range (aH bc aw (cF bx hr (a2 (pv 0) (pv 1))))) (nv 4)
  (ax (sv 3 (aH Dl (pv 3) (px Ds (pv 2) (cF bx hr (a2 (pv 0) aw)))))))
  (ax (aG (pv 3)))))),?_⟩
 show⟨_,O,_,O,st,m,O,S,(),(),λr H1 r0 r1 S1 K1=>⟨_,_,O,O,_,O,(),(),gg (λi σ H2=>∃(x:Str) (v:Option V),σ=[!.ref st,!.int m,!.str signs,!.str x,v]/\x.length=i/\(∀c∈x.cps.toList,c∈pF)/\StOk H2 st/\Keep1 st H H2)
  ⟨cA,none,O,O,(λc hc=>by rw[Wm]at hc;cases hc),S1,K1⟩ ?_ ?_⟩⟩
 .ext i σ H2 hi ⟨x,v,rfl,lx,cx,S2,K2⟩;show⟨_,O,_,O,_,O,st,72,O,S2,{},{},λr2 H3 Em En S3 K3=>?_⟩;let⟨c,ec,ic⟩:=signs_at Em En;show⟨_,_,_,O,O,Wl,ec,_,_,O,O,?_,?_⟩
  .show x.length+1<=sizeLine;show xA (aR ())
  show⟨x++sg c,_,O,by rw[Ed,lx];rfl,Ee cx ic,S3,K2.trans K3⟩
 .ext σ H2 ⟨x,v,rfl,lx,cx,S2,K2⟩;show⟨_,O,?_⟩;show q x H2 ⟨(),(),cx⟩ () S2 K2
theorem W8(F:Fun K "_law_pieces" "_law_pieces" LH f fd)(T:Bn mg)(bx:⋯ 1 "_law_take" ["_law_stream_here", "_law_most"] gY)(W9:⋯ 2 "_law_word" ["_law_stream_here", "_law_most"] Eb):(~~~0) 3 f fd ["_law_stream_here", "_law_notes", "_law_names"] Ec:=by
 rcases F.go ["_law_stream_here", "_law_notes", "_law_names", "_law_pieces_here", "_law_done", "_law_k"] with⟨st,p,n,nms,rfl,S,n2,pne,hp,W',nle,nG,q⟩;have hu:=hr.units;show⟨_,(ar (sv 3 (a0 bH))
  (ar (sv 4 aw)
  (ar (fv (r1 T.range (aH bc aw (cF bx hr (a2 (pv 0) aw)))) (nv 5)
  (ar (ba (tc bq (cF bx hr (a2 (pv 0) aw)) aw) (ax (bX (ap (pv 3) (br (a3 aO (px aC (pv 2) (cF bx hr (a2 (pv 0) (ln T.len (pv 2))))) (cF bx hr (a2 (pv 0) aw))))))) (ax (bX (ap (pv 3) (br (a3 aO (cF W9 hr (a2 (pv 0) aw)) (cF bx hr (a2 (pv 0) aw))))))))
  (ax (ba (PW.pt (iS (tc lI (pv 4) (pv 1)) (jV (tc bq (cF bx hr (a2 (pv 0) aw)) aw)))) (ar (bX (ap (pv 3) (br (a3 aO (pv 4) aw))))
  (ax (sv 4 (aH bc (pv 4) aw)))) bj))))
  (ax (aG (aH pB (pv 3) (cm ["_law_k"] [] [] (Ak (by rfl) T.range (a2 (pv 4) (pv 1))) (nv 0) bf (br (a3 aO (pv 0) aw))))))))),?_⟩
 show⟨aM,λl hl=>?_⟩;have lst:l≠st:=bO S.some hl;have s0:=ao hl (.lst []);show⟨_,O,st,7,O,S.same s0,{},{},λr H1 r0 r1 S1 K1=>⟨_,_,O,O,_,O,(),(),gg (λi σ H2=>∃(dn:Nat) (v:Option V) (vs:List V) (ag:List Th),σ=[!.ref st,!.int n,!.ref p,!.ref l,!.int dn,v]/\dn<=n/\H2 l=!.lst vs/\Paired (ItAt (λb=>H b=none/\b≠l) H2) vs ag/\(∀x∈ag,gq x) /\
  (i=0->ag=[])/\(0<i->∃x r,ag=x::r/\gV x=false)/\fT ag=c8 dn/\ag.length<=i+dn/\StOk H2 st/\Keep1 st H H2)
  ⟨0,none,[],[],O,rS _,K1 _ _ lst aj,.nil,(λx hx=>nomatch hx),(λ_=>rfl),(λz=>absurd z (rP 0)),O,rS _,S1,s0.keep.trans K1⟩ ?_ ?_⟩⟩
 .rintro i σ H2 hi ⟨dn,v,vs,ag,rfl,pP,fi,pr,ok,h0,h1,nn,le,S2,K2⟩;have tq:vs.length=ag.length:=pr.length;have fu:H2 p=!.lst (nms.map V.str):=K2 _ _ pne hp;show⟨_,O,st,5,O,S2,{},{},λr3 H3 r30 r31 S3 K3=>⟨O,_,O,?_⟩⟩;have K23:Keep1 st H2 H3:=K3;have Ei:=K23 _ _ lst fi;have nH:=K23 _ _ pne fu;show ca (λ_=>?_) (λ_=>?_)
  ·-- a name
   show⟨_,O,.inl ⟨O,_,SqL.of Ei⟩,_,O,_,O,_,O,p,_,O,.inl (SqL.of nH),?_⟩;have LR:0<nms.length:=List.length_pos_iff.mpr W';show⟨st,((nms.map V.str).length:Int),O,S3,by rw[qA];omega,by rw[qA];omega,λr4 H4 nM nN S4 K4=>?_⟩;let⟨y,ey,my⟩:=Ef nM nN;have Eo:=K4 _ _ pne nH;show⟨p,_,_,_,O,O,SqL.of Eo,ey,_,O,st,4,O,S4,{},{},λr5 H5 Ep Er S5 K5=>⟨aM,λt ht=>?_⟩⟩;have s5:=ao ht (.tup [.str (s!"page"),.str y,.int r5]);have km:Keep1 st H2 _:=((K23.trans K4).trans K5).trans s5.keep;have ug:=km _ _ lst fi;show⟨l,_,_,O,O,ug,aR (),?_⟩;have nO:ItAt (λb=>H b=none/\b≠l) (af H5 t (.tup [.str (s!"page"),.str y,.int r5])) (.ref t) (.tri .page (.inl y) r5):=⟨t,O,⟨(K2.trans ((K23.trans K4).trans K5)).back (bO S5.some ht) ht,bO ⟨_,((K23.trans K4).trans K5) _ _ lst fi⟩ ht⟩,aj⟩;have S6:=S5.same s5;have pk:gq (.tri .page (.inl y) r5):=⟨nG y my,(),()⟩;have nt:gV (.tri .page (.inl y) r5)=false:=rfl;have nu:DR (.tri .page (.inl y) r5)=none:=rfl;generalize (Th.tri .page (.inl y) r5)=x0 at nO pk nt nu;generalize af H5 t (.tup [.str (s!"page"),.str y,.int r5])=H6 at km ug nO S6⊢;have k6:KeepN (λb=>H b=none/\b≠l) H2 (af H6 l (.lst (vs++[.ref t]))):=λb o nb e=>by
    rw[aE nb.2];show km _ _ (λz=>by let⟨o',e'⟩:=S.some;rw[z,e']at nb;cases nb.1) e
   have uh:ItAt (λb=>H b=none/\b≠l) (af H6 l (.lst (vs++[.ref t]))) (.ref t) x0:=nO.keep (λb o nb e=>by rw[aE nb.2];show e) λ_ n _=>n
   have ju:=(pr.mono λv x q=>q.keep k6 λ_ n _=>n).snoc uh;have S7:StOk (af H6 l (.lst (vs++[.ref t]))) st:=by
    let⟨x,y,e,z⟩:=S6;show⟨x,y,by rw[aE (Ne.symm lst)];show e,z⟩
   have K7:Keep1 st H (af H6 l (.lst (vs++[.ref t]))):=λb o nb e=>by
    rw[aE (cH e hl)];show km _ _ nb (K2 _ _ nb e)
   have nQ:af H6 l (.lst (vs++[.ref t])) l=!.lst (vs++[.ref t]):=aj;have nR:∀x∈ag++[x0],gq x:=λx hx=>by
    rcases rG.mp hx with hx | hx
    .show ok x hx
    .have:x=x0:=‹hx›
     rw[this];show pk
   have nT:fT (ag++[x0])=c8 dn:=by
    rw[tY,nn];simp[fT,nu]
   have nU:∃x r,ag++[x0]=x::r/\gV x=false:=by
    cases ag with
    | nil=>show⟨x0,[],O,nt⟩
    | cons a b =>
      let⟨x,r,ex,nx⟩:=h1 (by
        rcases Nat.eq_zero_or_pos i with z | z
        · show absurd (h0 z) ∅
        · show z)
      cases ex
      show⟨a,b++[x0],O,nx⟩
   generalize af H6 l (.lst (vs++[.ref t]))=H7 at uh ju S7 K7 nQ k6⊢;show⟨_,O,_,O,_,_,O,O,_,O,?_⟩;show ca (λEs=>?_) (λ_=>?_)
   case' _ =>
    have Et:dn<n:=by
     have:=rH Es;omega
    show⟨_,O,st,2,O,S7,{},{},λr8 H8 LS LU S8 K8=>⟨O,_,O,?_⟩⟩;have g8:=K8 _ _ lst nQ;have ui:=ju.mono λv x q=>q.keep (K8.mono (N':=λb=>H b=none/\b≠l) λb nb z=>by let⟨o',e'⟩:=S.some;rw[z,e']at nb;cases nb.1) λ_ n _=>n
    show ca (λ_=>?_) (λ_=>?_)
    case' _ =>
     show⟨_,O,.inl ⟨O,_,SqL.of g8⟩,_,O,aM,λt9 kq=>?_⟩;have s9:=ao kq (.tup [.str (s!"note"),.int (dn:Int),.int 0]);show⟨l,_,_,O,O,s9 _ _ g8,aR (by rw[qG,tq];simp;omega),_,O,_,_,O,O,?_⟩;have uk:t9≠l:=bO ⟨_,g8⟩ kq;have Eu:ItAt (λb=>H b=none/\b≠l) (af (af H8 t9 (.tup [.str (s!"note"),.int (dn:Int),.int 0])) l (.lst (vs++[.ref t]++[.ref t9]))) (.ref t9) (.tri .note (.inr dn) 0):=⟨t9,O,⟨(K7.trans K8).back (bO S8.some kq) kq,uk⟩,by rw[aE uk];show aj⟩;show⟨dn+1,_,_,ag++[x0]++[.tri .note (.inr dn) 0],O,Et,aj,(ui.mono λv x q=>q.keep (λb o nb e=>by rw[aE nb.2];show s9 _ _ e) λ_ n _=>n).snoc Eu,?_,(λz=>absurd z (uA _)),?_,?_,?_,?_,?_⟩
     .intro x hx;rcases rG.mp hx with hx | hx
      .show nR x hx
      .have:x=.tri .note (.inr dn) 0:=‹hx›
       rw[this];show⟨(),(),O⟩
     .intro _;let⟨x,r,e,nx⟩:=nU;rw[e];show⟨x,_,O,nx⟩
     .rw[tY,nT,DS];rfl
     .rw[qG,qG];simp;omega
     .let⟨x,y,e,z⟩:=S8.same s9;show⟨x,y,by rw[aE (Ne.symm lst)];show e,z⟩
     .intro b o nb e;rw[aE (cH e hl)];show s9 _ _ (K8 _ _ nb (K7 _ _ nb e))
    .show⟨dn,_,_,ag++[x0],O,pP,g8,ui,nR,(λz=>absurd z (uA _)),(λ_=>nU),nT,by rw[qG];simp;omega,S8,K7.trans K8⟩
   .show⟨dn,_,_,ag++[x0],O,pP,nQ,ju,nR,(λz=>absurd z (uA _)),(λ_=>nU),nT,by rw[qG];simp;omega,S7,K7⟩
  .refine⟨_,O,.inl ⟨O,_,SqL.of Ei⟩,_,O,st,6,O,S3,{},{},λy H4 wy _ S4 K4=>?_⟩;show⟨_,O,st,4,O,S4,{},{},λr5 H5 Ep Er S5 K5=>⟨aM,λt ht=>?_⟩⟩;have s5:=ao ht (.tup [.str (s!"word"),.str y,.int r5]);have km:Keep1 st H2 _:=((K23.trans K4).trans K5).trans s5.keep;have ug:=km _ _ lst fi;show⟨l,_,_,O,O,ug,aR (),?_⟩;have nO:ItAt (λb=>H b=none/\b≠l) (af H5 t (.tup [.str (s!"word"),.str y,.int r5])) (.ref t) (.tri .word (.inl y) r5):=⟨t,O,⟨(K2.trans ((K23.trans K4).trans K5)).back (bO S5.some ht) ht,bO ⟨_,((K23.trans K4).trans K5) _ _ lst fi⟩ ht⟩,aj⟩;have S6:=S5.same s5;have pk:gq (.tri .word (.inl y) r5):=⟨wy,(),()⟩;have nt:gV (.tri .word (.inl y) r5)=false:=rfl;have nu:DR (.tri .word (.inl y) r5)=none:=rfl;generalize (Th.tri .word (.inl y) r5)=x0 at nO pk nt nu;generalize af H5 t (.tup [.str (s!"word"),.str y,.int r5])=H6 at km ug nO S6⊢;have k6:KeepN (λb=>H b=none/\b≠l) H2 (af H6 l (.lst (vs++[.ref t]))):=λb o nb e=>by
    rw[aE nb.2];show km _ _ (λz=>by let⟨o',e'⟩:=S.some;rw[z,e']at nb;cases nb.1) e
   have uh:ItAt (λb=>H b=none/\b≠l) (af H6 l (.lst (vs++[.ref t]))) (.ref t) x0:=nO.keep (λb o nb e=>by rw[aE nb.2];show e) λ_ n _=>n
   have ju:=(pr.mono λv x q=>q.keep k6 λ_ n _=>n).snoc uh;have S7:StOk (af H6 l (.lst (vs++[.ref t]))) st:=by
    let⟨x,y,e,z⟩:=S6;show⟨x,y,by rw[aE (Ne.symm lst)];show e,z⟩
   have K7:Keep1 st H (af H6 l (.lst (vs++[.ref t]))):=λb o nb e=>by
    rw[aE (cH e hl)];show km _ _ nb (K2 _ _ nb e)
   have nQ:af H6 l (.lst (vs++[.ref t])) l=!.lst (vs++[.ref t]):=aj;have nR:∀x∈ag++[x0],gq x:=λx hx=>by
    rcases rG.mp hx with hx | hx
    .show ok x hx
    .have:x=x0:=‹hx›
     rw[this];show pk
   have nT:fT (ag++[x0])=c8 dn:=by
    rw[tY,nn];simp[fT,nu]
   have nU:∃x r,ag++[x0]=x::r/\gV x=false:=by
    cases ag with
    | nil=>show⟨x0,[],O,nt⟩
    | cons a b =>
      let⟨x,r,ex,nx⟩:=h1 (by
        rcases Nat.eq_zero_or_pos i with z | z
        · show absurd (h0 z) ∅
        · show z)
      cases ex
      show⟨a,b++[x0],O,nx⟩
   generalize af H6 l (.lst (vs++[.ref t]))=H7 at uh ju S7 K7 nQ k6⊢;show⟨_,O,_,O,_,_,O,O,_,O,?_⟩;show ca (λEs=>?_) (λ_=>?_)
   case' _ =>
    have Et:dn<n:=by
     have:=rH Es;omega
    show⟨_,O,st,2,O,S7,{},{},λr8 H8 LS LU S8 K8=>⟨O,_,O,?_⟩⟩;have g8:=K8 _ _ lst nQ;have ui:=ju.mono λv x q=>q.keep (K8.mono (N':=λb=>H b=none/\b≠l) λb nb z=>by let⟨o',e'⟩:=S.some;rw[z,e']at nb;cases nb.1) λ_ n _=>n
    show ca (λ_=>?_) (λ_=>?_)
    case' _ =>
     show⟨_,O,.inl ⟨O,_,SqL.of g8⟩,_,O,aM,λt9 kq=>?_⟩;have s9:=ao kq (.tup [.str (s!"note"),.int (dn:Int),.int 0]);show⟨l,_,_,O,O,s9 _ _ g8,aR (by rw[qG,tq];simp;omega),_,O,_,_,O,O,?_⟩;have uk:t9≠l:=bO ⟨_,g8⟩ kq;have Eu:ItAt (λb=>H b=none/\b≠l) (af (af H8 t9 (.tup [.str (s!"note"),.int (dn:Int),.int 0])) l (.lst (vs++[.ref t]++[.ref t9]))) (.ref t9) (.tri .note (.inr dn) 0):=⟨t9,O,⟨(K7.trans K8).back (bO S8.some kq) kq,uk⟩,by rw[aE uk];show aj⟩;show⟨dn+1,_,_,ag++[x0]++[.tri .note (.inr dn) 0],O,Et,aj,(ui.mono λv x q=>q.keep (λb o nb e=>by rw[aE nb.2];show s9 _ _ e) λ_ n _=>n).snoc Eu,?_,(λz=>absurd z (uA _)),?_,?_,?_,?_,?_⟩
     .intro x hx;rcases rG.mp hx with hx | hx
      .show nR x hx
      .have:x=.tri .note (.inr dn) 0:=‹hx›
       rw[this];show⟨(),(),O⟩
     .intro _;let⟨x,r,e,nx⟩:=nU;rw[e];show⟨x,_,O,nx⟩
     .rw[tY,nT,DS];rfl
     .rw[qG,qG];simp;omega
     .let⟨x,y,e,z⟩:=S8.same s9;show⟨x,y,by rw[aE (Ne.symm lst)];show e,z⟩
     .intro b o nb e;rw[aE (cH e hl)];show s9 _ _ (K8 _ _ nb (K7 _ _ nb e))
    .show⟨dn,_,_,ag++[x0],O,pP,g8,ui,nR,(λz=>absurd z (uA _)),(λ_=>nU),nT,by rw[qG];simp;omega,S8,K7.trans K8⟩
   .show⟨dn,_,_,ag++[x0],O,pP,nQ,ju,nR,(λz=>absurd z (uA _)),(λ_=>nU),nT,by rw[qG];simp;omega,S7,K7⟩
 .rintro σ H2 ⟨dn,v,vs,ag,rfl,pP,fi,pr,ok,h0,h1,nn,le,S2,K2⟩;have tq:vs.length=ag.length:=pr.length;have LR:0<(1+r).toNat:=()
  let⟨x1,rs,ei,ni⟩:=h1 LR;show⟨_,O,_,O,_,O,_,_,O,⟨(),(),(),()⟩,kg (λi ys ae H3=>(∃z,ae=[z])/\ys.length=i/\Same H2 H3/\Paired (ItAt (λb=>H b=none/\b≠l) H3) ys ((c8 (dn+i)).drop dn |>.map λk=>Th.tri .note (.inr k) 0)) (by have:=aR (n:=100) {};omega) ⟨⟨none,O⟩,O,Same.refl _,?_⟩ ?_ ?_ ?_⟩
  .rw[show(c8 (dn+0)).drop dn=[]from by rw[List.drop_eq_nil_iff];simp[c8]];show .nil
  .ext i ys ae H3 hi ⟨_,e,_⟩;omega
  .ext i ys ae H3 hi ⟨⟨z,rfl⟩,e,s3,p3⟩;show⟨_,O,aM,λt ht=>?_⟩;have s4:=ao ht (.tup [.str (s!"note"),.int ((dn:Int)+i),.int 0]);show⟨⟨_,O⟩,by rw[qG,e];rfl,s3.trans s4,?_⟩;rw[Wr];show(p3.mono λv x q=>q.keep s4.keep λ_ n _=>n).snoc ⟨t,O,⟨(K2.trans s3.keep).back (bO (S2.same s3).some ht) ht,bO ⟨_,s3 _ _ fi⟩ ht⟩,?_⟩;rw[aj];show some (HO.tup [.str (s!"note"),.int ((dn:Int)+i),.int 0])=!HO.tup [.str (s!"note"),.int ((dn+i:Nat):Int),.int 0];rw[Int.natCast_add]
  .ext ys ae H3 ⟨_,e,s3,p3⟩ D hD;have sD:=ao hD (.lst ys);have Xa:=sD _ _ (s3 _ _ fi);show⟨l,D,_,_,O,O,Xa,aj,?_,λs hs=>?_⟩
   .rw[tq,e];show xA (aR ())
   have sE:=ao hs (.lst (vs++ys));have Ev:Same H2 _:=(s3.trans sD).trans sE;have en:dn+((n:Int)-dn).toNat=n:=()
   rw[en]at p3;show q s (ag++((c8 n).drop dn).map λk=>Th.tri .note (.inr k) 0) _ ⟨?_,?_,?_,?_⟩ ⟨?_,vs++ys,aj,?_⟩ (S2.same Ev) (K2.trans Ev.keep)
   .intro x hx;rcases rG.mp hx with hx | hx
    .show ok x hx
    .let⟨k,hk,rfl⟩:=qW.mp hx;have gx:=uW hk;let⟨j,hj,rfl⟩:=qW.mp (show k∈(List.range n).map λ(i:Nat)=>(i:Int)from gx);have:=xF.mp hj;show⟨(),(),O⟩
   .rw[ei];show⟨x1,_,O,ni⟩
   .rw[tY,nn,Wp];have:c8 dn=(c8 n).take dn:=Wq pP;rw[this,vL]
   .rw[qG,qA,uI];have:(c8 n).length=n:=by simp[c8]
    omega
   .show(K2.trans (s3.trans sD).keep).back (bO (S2.same (s3.trans sD)).some hs) hs
   .show pO (pr.mono λv x q=>q.keep Ev.keep λb n _=>n.1) (p3.mono λv x q=>q.keep (sD.trans sE).keep λb n _=>n.1)
theorem Xb(F:Fun K "_law_add" "_law_add" LJ f fd)(T:Bn mg)(bx:⋯ 1 "_law_take" ["_law_stream_here", "_law_most"] gY):(~~~0) 4 f fd ["_law_nodes", "_law_elder", "_law_kind", "_law_stuff", "_law_stream_here"] uf:=by
 rcases F.go ["_law_nodes", "_law_elder", "_law_kind", "_law_stuff", "_law_stream_here", "_law_letters", "_law_name", "_law_marks"] with⟨H0,p,st,s,e,k,ag,ds,rfl,G,b7,bE,q⟩;show⟨_,(ar (sv 5 aO)
  (ar (sv 6 aO)
  (ar (ba (tc bq (cF bx hr (a2 (pv 4) aw)) aw) (ax (sv 6 (aH Dl (aH Dl aO (px Ds (pv 5) (aH lH (ln T.len (pv 0)) aw))) (px Ds (pv 5) (aH Dj (ln T.len (pv 0)) aw))))) bj)
  (ar (sm 7 ["_law_k"] ["_law_stream_here"] [4] (r1 T.range (cF bx hr (a2 (pv 4) aw))) (nv 0) bf (px (r:=cz K) aC (a0 (aI aO (a3 aO aO aO))) (cF bx hr (a2 (pv 1) aw))))
  (ar (bX (ap (pv 0) (br (aI (pv 1) (aI (pv 2) (a3 (pv 6) (cb (V9 (by rfl) (by rfl)) T.sorted Lj (a1 (eP (V7 (by rfl)) (by rfl) T.set Wi (a1 (pv 7))))) (pv 3)))))))
  (ax (aG (aH dQ (ln T.len (pv 0)) aw)))))))),?_⟩
 let⟨as,hp,nd⟩:=G.bk;have kr:as.length=ds.length:=nd.length;show seq_post (λae H'=>ae=[!.ref p,!.int e,!.str k.s,!.ref s,!.ref st,!.str small,none,none]/\H=H') (λD' hD=>hD _ _ ⟨O,O⟩) ?_;ext _ _ ⟨rfl,rfl⟩;show seq_post (λae H'=>ae=[!.ref p,!.int e,!.str k.s,!.ref s,!.ref st,!.str small,!.str cA,none]/\H=H') (λD' hD=>hD _ _ ⟨O,O⟩) ?_;ext _ _ ⟨rfl,rfl⟩;show seq_post (λae H'=>∃nm:Str,ae=[!.ref p,!.int e,!.str k.s,!.ref s,!.ref st,!.str small,!.str nm,none]/\NmOk ds nm/\StOk H' st/\Keep1 st H H') (λD' hD=>?_) ?_
 .show⟨_,O,st,3,O,G.so,{},{},λr2 H2 Em En S2 K2=>⟨O,_,O,?_⟩⟩;show ca (λ_=>?_) (λ_=>?_)
  .have fu:=K2 _ _ G.pne hp;have ec:=LA (n:=ds.length % 26) ();have ed:=LA (n:=ds.length / 26) ();show⟨_,O,_,O,p,_,O,.inl (SqL.of fu),?_⟩;rw[qA,kr];show⟨_,_,O,O,(by show(0:Int)<26;decide),_,_,_,O,O,Ll,ec,_,_,O,O,aM,?_⟩;show⟨_,O,_,O,p,_,O,.inl (SqL.of fu),?_⟩;rw[qA,kr];show⟨_,_,O,O,⟨{},{}⟩,_,_,_,O,O,Ll,ed,_,_,O,O,aM,?_⟩;show hD _ _ ⟨_,O,.inr ⟨bE,O⟩,S2,K2⟩
  .show hD _ _ ⟨cA,O,.inl O,S2,K2⟩
 ext _ H1 ⟨nm,rfl,nk,S3,K13⟩;show⟨_,O,st,3,O,S3,{},{},λr4 H4 nM nN S4 K4=>⟨_,O,(),(),kg (λi ys ae H5=>∃ks:TV,ys=ks.map V.str/\ks.length=i/\(∀x∈ks,x∈tZ)/\(∃z,ae=[z,!.ref st])/\StOk H5 st/\Keep1 st H4 H5) (aR ()) ⟨[],O,O,(λx hx=>nomatch hx),⟨none,O⟩,S4,KeepN.refl⟩ ?_ ?_ ?_⟩⟩
 .ext i ys ae H5 hi ⟨ks,rfl,e5,_⟩;rw[qA];omega
 .ext i ys ae H5 hi ⟨ks,rfl,e5,mk,⟨z,rfl⟩,S5,K5⟩;show⟨aM,λt ht=>?_⟩;have s5:=ao ht (.lst (tZ.map V.str));show⟨_,O,st,4,O,S5.same s5,{},{},λr6 H6 LV LW S6 K6=>?_⟩;let⟨y,ey,my⟩:=Ef (nms:=tZ) LV LW;show⟨t,_,_,_,O,O,SqL.of (K6 _ _ (bO S5.some ht) aj),ey,?_⟩;show⟨ks++[y],by rw[qD];rfl,by rw[qG,e5];rfl,λx hx=>?_,⟨_,O⟩,S6,(K5.trans s5.keep).trans K6⟩;rcases rG.mp hx with hx | hx
  .show mk x hx
  .have:x=y:=‹hx›
   rw[this];show my
 .ext ys ae H5 ⟨ks,rfl,e5,mk,_,S5,K5⟩ D hD;have sD:=ao hD (.lst (ks.map V.str));show⟨_,O,.inl ⟨O,_,SqL.of (sD _ _ (K5 _ _ G.pne (K4 _ _ G.pne (K13 _ _ G.pne hp))))⟩,_,O,_,O,_,O,_,O,D,ks,O,SqL.of aj,by unfold scanBound;omega,λd6 Xc=>?_⟩;have s6:=ao Xc (i4 w d6 (c9 ks));show⟨d6,c9 ks,O,aj,?_,λm ms hm pm so=>?_⟩
  .have:=Wy ks;omega
  show⟨_,O,aM,λa ha=>?_⟩;have s7:Same (af (af H5 D (.lst (ks.map V.str))) d6 (i4 w d6 (c9 ks))) (af (af (af H5 D (.lst (ks.map V.str))) d6 (i4 w d6 (c9 ks))) m (.lst (ms.map V.str))):=ao hm (.lst (ms.map V.str));have S7:StOk (af (af (af H5 D (.lst (ks.map V.str))) d6 (i4 w d6 (c9 ks))) m (.lst (ms.map V.str))) st:=S5.same ((sD.trans s6).trans s7);have KC:Keep1 st H _:=(K13.trans K4).trans (K5.trans (sD.trans s6).keep);have K17:Keep1 st H (af (af (af H5 D (.lst (ks.map V.str))) d6 (i4 w d6 (c9 ks))) m (.lst (ms.map V.str))):=(K13.trans K4).trans (K5.trans ((sD.trans s6).trans s7).keep);have Xd:gw H0 p m:=G.fresh (KC.back (bO (S5.same (sD.trans s6)).some hm) hm);have em:af (af (af H5 D (.lst (ks.map V.str))) d6 (i4 w d6 (c9 ks))) m (.lst (ms.map V.str)) m=!.lst (ms.map V.str):=aj;replace ha:af (af (af H5 D (.lst (ks.map V.str))) d6 (i4 w d6 (c9 ks))) m (.lst (ms.map V.str)) a=none:=ha;have G1:=G.keep1 K17 S7;have AO:=K17 _ _ G.pne hp;have Xe:=nd.keep (N':=gw H0 p) (K17.mono λb n=>G.nst n) λ_ n _=>n
  have s2:=ao ha (.tup [.int e,.str k.s,.str nm,.ref m,.ref s]);have G2:=G1.same s2;have fu:=s2 _ _ AO;have AQ:=Xe.keep (N':=gw H0 p) s2.keep λ_ n _=>n
  show⟨p,_,_,O,O,fu,aR (by rw[qA];omega),?_⟩;have na:NdAt (gw H0 p) (af (af (af (af H5 D (.lst (ks.map V.str))) d6 (i4 w d6 (c9 ks))) m (.lst (ms.map V.str))) a (.tup [.int e,.str k.s,.str nm,.ref m,.ref s])) a ⟨e,k,nm,ms,ag⟩:=⟨G1.fresh ha,m,s,aj,Xd,s2 _ _ em,(b7.keep (N':=gw H0 p) (K17.mono λb n=>G.nst n) λ_ n _=>n).keep s2.keep λ_ n _=>n⟩;have G3:=G2.push fu AQ na;show⟨_,O,p,_,O,.inl (SqL.of aj),_,_,O,O,?_⟩;have el:((as.map V.ref++[V.ref a]).length:Int)-1=ds.length:=by
   rw[qG,qA,kr];simp
  show Q (.int (((as.map V.ref++[V.ref a]).length:Int)-1)) _;rw[el];show q ⟨e,k,nm,ms,ag⟩ _ O O O (Ww mk () pm so) nk G3 λb o n eb=>?_
  rw[aE n.2];show s2 _ _ (K17 _ _ n.1 eb)
theorem Xf(F:Fun K "_law_text" "_law_text" LK f fd)(T:Bn mg)(bx:⋯ 1 "_law_take" ["_law_stream_here", "_law_most"] gY)(LX:⋯ 3 "_law_pieces" ["_law_stream_here", "_law_notes", "_law_names"] Ec)(nV:⋯ 4 "_law_add" ["_law_nodes", "_law_elder", "_law_kind", "_law_stuff", "_law_stream_here"] uf):(~~~0) 5 f fd ["_law_nodes", "_law_elder", "_law_kind", "_law_stream_here"] AM:=by
 rcases F.go ["_law_nodes", "_law_elder", "_law_kind", "_law_stream_here", "_law_names", "_law_notes", "_law_at", "_law_k"] with⟨H0,p,st,e,lv,k,ds,rfl,G,hk,bE,Xg,nG,nms,q⟩;show⟨_,(ar (sv 4 (aH pB (cm ["_law_row"] [] [] (a9 (pv 0)) (nv 0) (iA (tc iw (px (r:=b8 K) aF (pv 0) aw) aO)) (px (r:=b8 K) aF (pv 0) aw)) (a0 (a1 aO))))
  (ar (sv 5 (px aC (a0 (aI aw (aI aw (a3 aw aw aw)))) (cF bx hr (a2 (pv 3) aw))))
  (ar (sv 6 (cF nV hr (aI (pv 0) (aI (pv 1) (a3 (pv 2) (cF LX hr (a3 (pv 3) (pv 5) (pv 4))) (pv 3))))))
  (ax (fv (r1 T.range (pv 5)) (nv 7)
  (ax (bX (cF nV hr (aI (pv 0) (aI (pv 6) (a3 aO (cF LX hr (a3 (pv 3) aw (pv 4))) (pv 3)))))))))))),?_⟩
 let⟨as,hp,nd⟩:=G.bk;have kr:as.length=ds.length:=nd.length;have zl:(as.map V.ref).length<sizeLine:=by rw[qA];show aR ()
 show⟨_,O,p,O,⟨_,SqL.of hp⟩,bw (λi ys ae H'=>H'=H/\ys=(((ds.take i).filter λd=>d.nm≠cA).map (·.nm)).map V.str/\∃z,ae=[z]) zl ⟨O,O,none,O⟩ ?_ ?_ ?_⟩
 .ext i ys ae H' hi ⟨rfl,rfl,_⟩;show⟨SqL.of hp,?_⟩;rw[qA,qA];show rF (rR _ _) (by rw[qQ];show qV _ _)
 .ext i x ys ae H' hx ⟨rfl,rfl,z,rfl⟩;let⟨a,ea,rfl⟩:=cC hx;let⟨d,ed,na,m,s',ha,_⟩:=nd.at ea;show⟨_,O,a,_,_,_,O,O,SqT.of ha,O,O,_,O,?_⟩;have et:ds.take (i+1)=ds.take i++[d]:=by rw[qS,ed];rfl
  by_cases hd:d.nm=cA
  .rw[qJ (show V.str d.nm=V.str (s!"")from xC V.str hd)];show aW ?_;show⟨O,?_,_,O⟩;rw[et,rT];simp[hd]
  .rw[qP (show¬V.str d.nm=V.str (s!"")from λz=>hd (V.str.inj z))];show aY ?_;show⟨_,O,a,_,_,_,O,O,SqT.of ha,O,?_⟩;show⟨O,?_,_,O⟩;rw[et,rT];simp[hd]
 ext ys ae H' ⟨rfl,rfl,z,rfl⟩ N0 LY;rw[qA,kr,x8];have fn:∀x∈(ds.filter λd=>d.nm≠cA).map (·.nm),Name x:=λx hx=>by
  let⟨d,hd,rfl⟩:=qW.mp hx;let⟨h1,h2⟩:=xL.mp hd;rcases nG d h1 with z | z
  .show absurd z ‹h2›
  .show z
 have fl:((ds.filter λd=>d.nm≠cA).map (·.nm)).length<=ds.length:=by rw[qA];show rR _ _
 generalize (ds.filter λd=>d.nm≠cA).map (·.nm)=nn at fn fl⊢;have s1:=ao LY (.lst (nn.map V.str));show⟨aM,λt ht=>?_⟩;have s2:=s1.trans (ao ht (.lst [V.str (s!"nowhere")]));have e1:af (af H' N0 (.lst (nn.map V.str))) t (.lst [V.str (s!"nowhere")]) N0=!.lst (nn.map V.str):=(ao ht _) _ _ aj;show⟨N0,t,_,_,O,O,e1,aj,?_,λN hN=>?_⟩
 .rw[qA];show xA (aR (by show nn.length+1<=1000;omega))
 have eN:nn.map V.str++[V.str (s!"nowhere")]=(nn++[s!"nowhere"]).map V.str:=by rw[qD];rfl
 rw[eN];have s3:=s2.trans (ao hN (.lst ((nn++[s!"nowhere"]).map V.str)));have Ew:af (af (af H' N0 (.lst (nn.map V.str))) t (.lst [V.str (s!"nowhere")])) N (.lst ((nn++[s!"nowhere"]).map V.str)) N=!.lst ((nn++[s!"nowhere"]).map V.str):=aj;have mn:∀x∈nn++[s!"nowhere"],Name x:=λx hx=>by
  rcases rG.mp hx with hx | hx
  .show fn x hx
  .have:x=s!"nowhere":=‹hx›
   rw[this];show WA
 have ml:(nn++[s!"nowhere"]).length<=1000:=by rw[qG];show nn.length+1<=1000;omega
 have me:nn++[s!"nowhere"]≠[]:=∅
 generalize nn++[s!"nowhere"]=nx at Ew mn ml me s3⊢;generalize af (af (af H' N0 (.lst (nn.map V.str))) t (.lst [V.str (s!"nowhere")])) N (.lst (nx.map V.str))=H1 at Ew s3⊢;have G1:=G.same s3;have nst:N≠st:=bO (G.so.same s2).some hN;have np:N≠p:=bO ⟨_,s2 _ _ hp⟩ hN;clear e1 s1 s2 eN hN ht LY fn fl;show⟨aM,λt2 um=>?_⟩;have s4:=ao um (.lst [V.int 0,V.int 0,V.int 1,V.int 0,V.int 2]);show⟨_,O,st,5,O,G1.so.same s4,{},{},λr5 H5 Ep Er S5 K5=>?_⟩;let⟨n,n2,en⟩:=WB Ep Er;show⟨t2,_,_,_,O,O,SqL.of (K5 _ _ (bO G1.so.some um) aj),en,?_⟩;have K15:Keep1 st H1 H5:=s4.keep.trans K5;have G5:=G1.keep1 K15 S5;have LZ:=K15 _ _ nst Ew;show⟨_,O,_,O,_,O,_,O,_,O,_,O,st,N,n,nx,O,S5,n2,nst,LZ,me,ml,mn,λs6 ag H6 pc sa S6 K6=>?_⟩;have G6:=G5.keep1 K6 S6;show⟨_,O,H0,p,st,s6,e,k,ag,ds,O,G6,sa.keep (N':=gw H0 p) KeepN.refl λb nb _=>G5.fresh nb,(),λd H7 de dk nX dm dn G7 K7=>?_⟩;have Xh:=K7 _ _ ⟨nst,np⟩ (K6 _ _ nst LZ);have K17:fU st p H' H7:=((s3.keep.trans K15.two).trans K6.two).trans K7;show⟨_,O,_,O,(),(),gg (λi σ H8=>∃(cT:List Nd) (v:Option V),σ=[!.ref p,!.int e,!.str k.s,!.ref st,!.ref N,!.int n,!.int ds.length,v]/\cT.length=i/\Gs H0 st p H8 (ds++(d::cT)) /\
  (∀c∈cT,c.e=(ds.length:Int)/\c.k=.note/\tF 0 c.st/\j8 c.mks/\(c.nm=cA\/Name c.nm))/\Names (ds++(d::cT))/\H8 N=!.lst (nx.map V.str)/\fU st p H' H8)
  ⟨[],none,O,O,G7,(λc hc=>nomatch hc),ue nms dn,Xh,K17⟩ ?_ ?_⟩
 .ext i σ H8 hi ⟨cT,v,rfl,ln,G8,hc,na,Ey,K8⟩;show⟨_,O,_,O,_,O,_,O,st,N,0,nx,O,G8.so,{},nst,Ey,me,ml,mn,λs9 Xi H9 AR Xj S9 K9=>?_⟩;have G9:=G8.keep1 K9 S9;have l9:(ds++(d::cT)).length<=200:=by rw[qG,rC];omega
  show⟨_,O,H0,p,st,s9,(ds.length:Int),.note,Xi,ds++(d::cT),O,G9,Xj.keep (N':=gw H0 p) KeepN.refl λb nb _=>G8.fresh nb,l9,λc HA ce ck Xk cm cn GA KA=>?_⟩;have ea:ds++(d::cT)++[c]=ds++(d::(cT++[c])):=∅
  rw[ea]at GA;show⟨cT++[c],_,O,by rw[qG,ln];rfl,GA,λc' eD=>?_,by rw[<-ea];show ue na cn,KA _ _ ⟨nst,np⟩ (K9 _ _ nst Ey),(K8.trans K9.two).trans KA⟩;rcases rG.mp eD with h | h
  .show hc c' h
  .have:c'=c:=‹h›
   subst this;show⟨ce,ck,by rw[Xk];show AR,cm,cn.or⟩
 .ext σ H8 ⟨cT,v,rfl,ln,G8,hc,na,Ey,K8⟩;show q (d::cT) H8 (W1 hk Xg de dk (by rw[nX];show pc) dm dn () hc na) ?_ G8 K8;rw[rC];omega
theorem Xl{n:Nat}(F:Fun K "_law_item" "_law_item" LL f fd)(T:Bn mg)(bx:⋯ 1 "_law_take" ["_law_stream_here", "_law_most"] gY)(nV:⋯ 4 "_law_add" ["_law_nodes", "_law_elder", "_law_kind", "_law_stuff", "_law_stream_here"] uf)(L3:⋯ 5 "_law_text" ["_law_nodes", "_law_elder", "_law_kind", "_law_stream_here"] AM)(uq:⋯ (6+n) "_law_item" ["_law_nodes", "_law_elder", "_law_level", "_law_room", "_law_stream_here"] (spItem n)):(~~~0) (6+n+1) f fd ["_law_nodes", "_law_elder", "_law_level", "_law_room", "_law_stream_here"] (spItem (n+1)):=by
 rcases F.go ["_law_nodes", "_law_elder", "_law_level", "_law_room", "_law_stream_here", "_law_kinds", "_law_sides", "_law_kind", "_law_at", "_law_k"] with⟨H0,p,st,e,lv,lw,R,de,ds,rfl,G,L4,AS,l1,l4,lvw,lwv,hn,ur,bE,nG,nms,q⟩;show⟨_,(ar (sv 5 (a0 (aI aO (aI aO (aI aO (aI aO (aI aO (a3 aO aO aO))))))))
  (ar (sv 6 (SL (ec bq (px aF (px aC (pv 0) (pv 1)) aw) aO) (Jk (ec bq (px aF (px aC (pv 0) (pv 1)) aw) aO))))
  (ar (sv 7 (px aC (pv 5) (cF bx hr (a2 (pv 4) (px aC (a0 (a2 aw aw)) (eP sr (by rfl) T.int pN (a1 (pv 6))))))))
  (ar (ba (PW.pt (mT (PW.pt (iS (tc bq (pv 7) aO) (jV (tc bq (px aF (px aC (pv 0) (pv 1)) aw) aO)))) (oV (PW.pt (iS (tc sj (pv 2) aw) (jV (tc Aq (pv 7) (a0 (a3 aO aO aO))))))))) (ax (sv 7 aO)) bj)
  (ar (ba (PW.pt (iS (tc JH (ln T.len (pv 0)) (pv 3)) (jV (tc Aq (pv 7) (a0 (a3 aO aO aO)))))) (ax (sv 7 aO)) bj)
  (ar (ba (PW.pt (mT (tc bq (pv 7) aO) (oV (tc bq (pv 7) aO)))) (ax (bX (cF L3 hr (aI (pv 0) (a3 (pv 1) (pv 7) (pv 4)))))) (ax (ba (tc bq (pv 7) aO) (ax (bX (cF nV hr (aI (pv 0) (aI (pv 1) (a3 (pv 7) (a0 (a2 (aH bc aw (cF bx hr (a2 (pv 4) aw))) (aH bc aw (cF bx hr (a2 (pv 4) aw))))) (pv 4))))))) (ar (sv 8 (cF nV hr (aI (pv 0) (aI (pv 1) (a3 (pv 7) (a0 bH) (pv 4))))))
  (ax (fv (r1 T.range (aH bc (cF bx hr (a2 (pv 4) aw)) (eP sr (by rfl) T.int pN (a1 (ec iw (pv 7) aO))))) (nv 9)
  (ax (bX (cF uq hr (aI (pv 0) (aI (pv 8) (a3 (aH bc (pv 2) aw) (pv 3) (pv 4)))))))))))))
  (ax (ba (tc bq (pv 7) aO) (ax (bX (cF L3 hr (aI (pv 0) (a3 (pv 1) aO (pv 4)))))) bj)))))))),?_⟩
 show⟨aM,λkl pQ=>?_⟩;have s1:=ao pQ (.lst (nD.map λk=>V.str k.s));have G1:=G.same s1;have dL:af H kl (.lst (nD.map λk=>V.str k.s)) kl=!.lst (nD.map λk=>V.str k.s):=aj;have uu:kl≠st:=bO G.so.some pQ;have kp:kl≠p:=bO G.psome pQ;have K1:fU st p H (af H kl (.lst (nD.map λk=>V.str k.s))):=s1.keep;dsimp only[a7];show rj _ _ _ [!.ref p,!.int e,!.int lv,!.int R,!.ref st,!.ref kl,none,none,none,none] (af H kl (.lst (nD.map λk=>V.str k.s)));generalize af H kl (.lst (nD.map λk=>V.str k.s))=H1 at s1 G1 dL K1⊢;let⟨as,hp,nd⟩:=G1.bk;let⟨a,ea,na⟩:=nd.get L4;let⟨m,s',ha,_⟩:=na.ex;show seq_post (λae H'=>∃sd:Bool,ae=[!.ref p,!.int e,!.int lv,!.int R,!.ref st,!.ref kl,!.bl sd,none,none,none]/\H1=H'/\(sd=true↔de.k=.shelf\/de.k=.grid)) (λD' hD=>?_) ?_
 .show⟨_,O,_,O,p,_,_,_,O,O,SqL.of hp,aU ea,a,_,_,_,O,O,SqT.of ha,O,O,_,O,?_⟩;rw[show decide (V.str de.k.s=V.str (s!"shelf"))=decide (de.k=.shelf)from bY de.k .shelf];show ca (λc=>?_) (λc=>?_)
  .show hD _ _ ⟨true,O,O,⟨λ_=>.inl (rH c),λ_=>rfl⟩⟩
  .show⟨_,O,_,O,p,_,_,_,O,O,SqL.of hp,aU ea,a,_,_,_,O,O,SqT.of ha,O,O,?_⟩;rw[show decide (V.str de.k.s=V.str (s!"grid"))=decide (de.k=.grid)from bY de.k .grid];show hD _ _ ⟨decide (de.k=.grid),O,O,⟨λz=>.inr (rH z),λz=>?_⟩⟩;rcases z with z | z
   .show absurd (qJ z) c
   .show qJ z
 ext _ _ ⟨sd,rfl,rfl,Eh⟩;show seq_post (λae H'=>∃k:Kd,ae=[!.ref p,!.int e,!.int lv,!.int R,!.ref st,!.ref kl,!.bl sd,!.str k.s,none,none]/\Keep1 st H1 H'/\StOk H' st/\Eg de.k k) (λD' hD=>?_) ?_
 .show⟨_,O,_,O,aM,λt ht=>?_⟩;have s2:=ao ht (.lst [V.int 8,V.int 6]);show⟨_,O,.inr ⟨sd,O,t,_,_,_,O,O,SqL.of aj,WH sd,st,_,O,G1.so.same s2,by split<;>decide,by split<;>decide,λr H3 r0 r1 S3 K3=>?_⟩⟩;have r8:r<8:=by revert r1;split<;>omega
  let⟨k,ek,hk⟩:=WD r0 r8;show⟨kl,_,_,_,O,O,SqL.of (K3 _ _ uu (s2 _ _ dL)),ek,?_⟩;show hD _ _ ⟨k,O,s2.keep.trans K3,S3,WE AS Eh r1 hk⟩
 ext _ H3 ⟨k0,rfl,K13,S3,Ez⟩;have G3:=G1.keep1 K13 S3;have K03:fU st p H H3:=K1.trans K13.two;let⟨as3,nH,Xm⟩:=G3.bk;let⟨a3,Xn,Xo⟩:=Xm.get L4;let⟨m3,AT,EA,_⟩:=Xo.ex;show seq_post (λae H'=>∃k:Kd,ae=[!.ref p,!.int e,!.int lv,!.int R,!.ref st,!.ref kl,!.bl sd,!.str k.s,none,none]/\Same H3 H'/\gX de.k k=true/\(3<lv->kh k)/\(k=.text\/k=.picture\/k=.case\/k=.shelf\/k=.grid\/k=.head\/k=.aside)) (λD' hD=>?_) ?_
 .refine Lr (λb H'=>Same H3 H'/\(b=false->gX de.k k0=true/\(3<lv->kh k0))) (λQ' hQ=>?_) (λb H' hb=>?_)
  .refine⟨_,O,O,_,O,?_⟩;rw[show decide (V.str k0.s=V.str (s!"aside"))=decide (k0=.aside)from bY k0 .aside];have L5:∀(b1:Bool),(b1=false->gX de.k k0=true)->if b1=true then Q' true H3 else Jg (sn (eF (iW λi j=>.bl (decide (j<i))) (jm 2) (tC (.int 3)))) (sn (eF (Ap K true) (jm 7) (o8 (dz (tC (.str (s!"text"))) (dz (tC (.str (s!"head"))) (dz (tC (.str (s!"picture"))) iz))))))
     [!.ref p,!.int e,!.int lv,!.int R,!.ref st,!.ref kl,!.bl sd,!.str k0.s,none,none] H3 Q':=by
    intro b1 hm;cases b1 with
    | true=>show aY (hQ _ _ ⟨Same.refl _,(λz=>nomatch z)⟩)
    | false =>
      show aW ⟨_,O,_,_,O,O,_,O,?_⟩
      show ca (λc=>?_) (λc=>?_)
      · show⟨_,O,aM,λt ht=>⟨t,AI.map (λk=>V.str k.s),O,.inl (SqL.of aj),O,O,_,O,?_⟩⟩
        show hQ _ _ ⟨ao ht _,λz=>⟨hm O,λ_=>?_⟩⟩
        rw[if_pos O,Ls]at z
        simpa using z
      · show hQ _ _ ⟨Same.refl _,λ_=>⟨hm O,λz=>absurd (qJ (show(3:Int)<(lv:Int) by omega)) c⟩⟩
   show ca (λc=>?_) (λc=>?_)
   .show⟨_,O,_,O,p,_,_,_,O,O,SqL.of nH,aU Xn,a3,_,_,_,O,O,SqT.of EA,O,O,_,O,?_⟩;rw[show decide (V.str de.k.s=V.str (s!"aside"))=decide (de.k=.aside)from bY de.k .aside];show L5 _ λz=>?_
    rcases Ez.1 with y | y
    .show y
    .show absurd y.2 (of_decide_eq_false z)
   .show L5 false λ_=>?_
    rcases Ez.1 with y | y
    .show y
    .show absurd (qJ y.1) c
  .let⟨sb,hb⟩:=hb;cases b with
   | true=>show aY (hD _ _ ⟨.text,O,sb,Lu AS,(λ_=>.inl O),.inl O⟩)
   | false=>show aW (hD _ _ ⟨k0,O,sb,(hb O).1,(hb O).2,Ez.2⟩)
 ext _ H4 ⟨k1,rfl,fw,Xp,Xq,cI⟩;have G4:=G3.same fw;have K04:fU st p H H4:=K03.trans fw.keep;let⟨Xr,Eo,EB⟩:=G4.bk;have Xs:Xr.length=ds.length:=EB.length;show seq_post (λae H'=>∃k:Kd,ae=[!.ref p,!.int e,!.int lv,!.int R,!.ref st,!.ref kl,!.bl sd,!.str k.s,none,none]/\Same H4 H'/\WG de.k k lv R ds.length) (λD' hD=>?_) ?_
 .show Lr (λb H'=>Same H4 H'/\(b=false->R<=ds.length->kh k1)) (λQ' hQ=>?_) (λb H' hb=>?_)
  .show⟨_,O,p,_,O,.inl (SqL.of Eo),_,O,_,_,O,O,_,O,?_⟩;show ca (λc=>?_) (λc=>?_)
   .show⟨_,O,aM,λt ht=>⟨t,AI.map (λk=>V.str k.s),O,.inl (SqL.of aj),O,O,_,O,?_⟩⟩;show hQ _ _ ⟨ao ht _,λz _=>?_⟩;rw[if_pos O,Ls]at z;simpa using z
   .show hQ _ _ ⟨Same.refl _,λ_ z=>absurd (qJ ?_) c⟩;rw[qA,Xs];omega
  .let⟨sb,hb⟩:=hb;cases b with
   | true=>show aY (hD _ _ ⟨.picture,O,sb,WF AS,(λ_=>.inr (.inr O)),(λ_=>.inr (.inr O)),.inr (.inl O)⟩)
   | false=>show aW (hD _ _ ⟨k1,O,sb,Xp,Xq,hb O,cI⟩)
 ext _ H5 ⟨k2,rfl,ku,gz⟩;have G5:=G4.same ku;have K05:fU st p H H5:=K04.trans ku.keep;have notA:∀(k:Kd),k≠.aside->decide (V.str k.s=V.str (s!"aside"))=false:=λk hk=>by
  rw[show decide (V.str k.s=V.str (s!"aside"))=decide (k=.aside)from bY k .aside];show qP hk
 show seq_post (λae H'=>∃(more:List Nd) (v8 v9:Option V),ae=[!.ref p,!.int e,!.int lv,!.int R,!.ref st,!.ref kl,!.bl sd,!.str k2.s,v8,v9]/\More e lw ds more [k2]/\(R<=ds.length->more.length<=3)/\(ds.length<R->ds.length+more.length+(if k2=.aside then 3 else 0)<=iB R lv)/\ds.length+more.length<=103/\(k2=.aside->ds.length<R)/\Gs H0 st p H' (ds++more)/\fU st p H5 H') (λD' hD=>?_) ?_
 .have nY:(k2=.text\/k2=.head)->AM ([.ref p,.int e,.str k2.s,.ref st]++[]) H5 (λ_ H'=>D'.nx [!.ref p,!.int e,!.int lv,!.int R,!.ref st,!.ref kl,!.bl sd,!.str k2.s,none,none] H') E0:=λhk=>by
   have na:k2≠.aside:=by rcases hk with rfl | rfl<;>decide
   show⟨H0,p,st,e,lw,k2,ds,O,G5,hk,(),(),nG,nms,λmore H6 mo m3 G6 K6=>?_⟩;show hD _ _ ⟨more,none,none,O,mo,(λ_=>m3),(λz=>?_),(),(λz=>absurd z na),G6,K6⟩;rw[if_neg na];have:=Lw (R:=R) (lv:=lv) z;omega
  show⟨_,O,O,_,O,?_⟩;rw[show decide (V.str k2.s=V.str (s!"text"))=decide (k2=.text)from bY k2 .text];show ca (λc=>?_) (λc=>?_)
  .show aY ⟨_,O,_,O,_,O,_,O,nY (.inl (rH c))⟩
  show⟨_,O,O,_,O,?_⟩;rw[show decide (V.str k2.s=V.str (s!"head"))=decide (k2=.head)from bY k2 .head];show ca (λc2=>?_) (λc2=>?_)
  .show⟨_,O,_,O,_,O,_,O,nY (.inr (rH c2))⟩
  show⟨_,O,O,_,O,?_⟩;rw[show decide (V.str k2.s=V.str (s!"picture"))=decide (k2=.picture)from bY k2 .picture];show ca (λc3=>?_) (λc3=>?_)
  ·-- a picture
   have EC:k2=.picture:=rH c3;show⟨_,O,_,O,_,O,_,O,st,60,O,G5.so,{},{},λr6 H6 LV LW S6 K6=>⟨_,_,O,O,_,O,st,60,O,S6,{},{},λr7 H7 r70 r71 S7 K7=>⟨_,_,O,O,aM,λt ht=>?_⟩⟩⟩;have s8:=ao ht (.lst [.int (1+r6),.int (1+r7)]);have K58:Keep1 st H5 _:=(K6.trans K7).trans s8.keep;have G8:=G5.keep1 K58 (S7.same s8);show⟨_,O,H0,p,st,t,e,k2,[.int (1+r6),.int (1+r7)],ds,O,G8,⟨(G5.keep1 (K6.trans K7) S7).fresh ht,_,aj,.cons O (.cons O .nil)⟩,(),λd H9 ED dk nX dm dn G9 K9=>?_⟩;show hD _ _ ⟨[d],none,none,O,by rw[EC]at dk⊢;show W3 ED () dk nX ⟨(),()⟩ ⟨(),()⟩ dm dn nms,(λ_=>∅),(λz=>?_),by simp;omega,(λz=>by rw[EC]at z;cases z),G9,K58.two.trans K9⟩;rw[EC,if_neg {}];have:=Lw (R:=R) (lv:=lv) z;simp;omega
  ·-- a box
   have hb:k2=.case\/k2=.shelf\/k2=.grid\/k2=.aside:=by
    have n1:k2≠.text:=λz=>c (qJ z)
    have n2:k2≠.head:=λz=>c2 (qJ z)
    have n3:k2≠.picture:=λz=>c3 (qJ z)
    rcases gz.one with h | h | h | h | h | h | h<;>simp_all
   have nl:¬kh k2:=by rcases hb with h | h | h | h<;>rw[h]<;>decide
   have Xt:lv<=3:=yM λz=>nl (gz.lvl z)
   have hR:ds.length<R:=Nat.lt_of_not_le λz=>nl (gz.room z)
   have Xu:lQ k2:=by rcases hb with h | h | h | h<;>rw[h]<;>simp[lQ]
   show⟨_,O,_,O,_,O,aM,λt ht=>?_⟩;have s6:=ao ht (.lst []);show⟨_,O,H0,p,st,t,e,k2,[],ds,O,G5.same s6,⟨G5.fresh ht,_,aj,.nil⟩,(),λd H7 ED dk nX dm dn G7 K7=>?_⟩;have K57:fU st p H5 H7:=s6.keep.trans K7;show⟨_,O,st,3,O,G7.so,{},{},λr8 H8 LS LU S8 K8=>⟨_,O,O,.inr ⟨_,O,_,_,O,O,?_⟩⟩⟩;rw[show decide (V.str k2.s=V.str (s!"case"))=decide (k2=.case)from bY k2 .case];have G8:=G7.keep1 K8 S8;have cnt:∃c:Nat,r8+(if((Bool.not (decide (k2=Kd.case))))=true then 1 else 0)=(c:Int)/\c<=3/\(k2≠.case->1<=c):=by
    show⟨(r8+(if((Bool.not (decide (k2=Kd.case))))=true then 1 else 0)).toNat,?_,?_,λz=>?_⟩
    .split<;>omega
    .split<;>omega
    .rw[qP z];simp;omega
   let⟨c,ec,Xv,c1⟩:=cnt;show⟨(c:Int),xC (λz=>[V.int z]) ec,(),(),gg (λj σ H9=>∃(sub:List Nd) (ks:List Kd) (v:Option V),σ=[!.ref p,!.int e,!.int lv,!.int R,!.ref st,!.ref kl,!.bl sd,!.str k2.s,!.int ds.length,v]/\Kids ds.length lw k2 (ds++[d]) sub ks/\(0<j->ks≠[])/\i5 R lv j (ds.length+1+sub.length)/\Gs H0 st p H9 (ds++[d]++sub)/\fU st p H5 H9)
    ⟨[],[],none,O,⟨.nil,(λd hd=>nomatch hd),by rw[rQ];show ue nms dn,by rw[rQ];show LB nG dn,(λc hc=>nomatch hc),trivial⟩,(λz=>absurd z (rP 0)),.inl (by simp;omega),by rw[rQ];show G8,K57.trans K8.two⟩ ?_ ?_⟩
   .ext j σ H9 hj ⟨sub,ks,v,rfl,kids,uv,cb,G9,K9⟩;have j3:j<3:=by simp at hj;omega
    have l9:(ds++[d]++sub).length=ds.length+1+sub.length:=by rw[qG,qG];rfl
    have L6:=Ly cb () ur;show⟨_,O,_,O,_,O,_,_,O,O,_,O,_,O,H0,p,st,ds.length,lv+1,lw+1,R,d,ds++[d]++sub,O,G9,?_,by rw[dk];show Xu,(),(),(),(),(),ur,(),kids.ok,kids.nm,λmore bV HA mo ik m3 mc GA KA=>?_⟩
    .rw[rZ,rJ (qF _)];simp
    rw[dk]at ik;show⟨sub++more,ks++bV,_,O,kids.more l9 mo ik,(λ_=>by have:=ik.ne;simp[this]),?_,by rw[<-rZ];show GA,K9.trans KA⟩;show Lx cb (λz=>?_) (λz=>?_)
    .have:=m3 ();rw[qG];omega
    .have:=mc ();rw[qG];omega
   .ext σ H9 ⟨sub,ks,v,rfl,kids,uv,cb,G9,K9⟩;have cc:((c:Int)).toNat<=3:=‹Xv›
    have cb':=WI cb cc l1 Xt;have L6:=Ly cb cc ur;have ee:ds++(d::sub)=ds++[d]++sub:=∅
    show hD _ _ ⟨d::sub,_,v,O,?_,(λz=>absurd z ()),(λ_=>?_),by rw[rC];omega,(λ_=>hR),by rw[ee];show G9,K9⟩
    .have:=LC (lv:=lw) ED () (by rw[dk];show hb) nX dm dn (by rw[dk];show kids) (by rw[dk];show λz=>uv (by have:=c1 z;simp;omega));rw[dk]at this;show this
    .rw[rC]
     split<;>omega
 ext _ H6 ⟨more,v8,v9,rfl,mo,m3,mc,ml,hA,G6,K6⟩;have K06:fU st p H H6:=K05.trans K6;show⟨_,O,O,_,O,?_⟩;rw[show decide (V.str k2.s=V.str (s!"aside"))=decide (k2=.aside)from bY k2 .aside];show ca (λc=>?_) (λc=>?_)
 .have hk:k2=.aside:=rH c;show⟨_,O,_,O,_,O,H0,p,st,e,lw,.text,ds++more,O,G6,.inl O,by rw[qG];omega,(),mo.nms nG,mo.nm,λXw H7 Xx m3' G7 K7=>?_⟩;have hR:=hA hk;have Xy:=mc hR;rw[if_pos hk]at Xy;show q (more++Xw) ([k2]++[.text]) H7 (mo.cat Xx) (.inr ⟨by rw[hk];rfl,by rw[<-hk];show gz.may,Lu AS⟩) (λz=>absurd z ()) (λ_=>by rw[qG];omega) (by rw[<-rZ];show G7) (K06.trans K7)
 .have hk:k2≠.aside:=λz=>c (qJ z)
  show q more [k2] H6 mo (.inl ⟨k2,O,hk,gz.may⟩) m3 (λz=>?_) G6 K06;have:=mc z;rw[if_neg hk]at this;omega
theorem Xz(F:Fun K "_law_book" "_law_book" LN f fd)(T:Bn mg)(uq:⋯ 10 "_law_item" ["_law_nodes", "_law_elder", "_law_level", "_law_room", "_law_stream_here"] (spItem 4)):(~~~0) 11 f fd ["_law_stream_here", "_law_many", "_law_room"] spBook:=by
 rcases F.go ["_law_stream_here", "_law_many", "_law_room", "_law_nodes", "_law_k"] with⟨st,m,R,rfl,S,m1,m4,R1,ur,q⟩;have hu:=hr.units;show⟨_,(ar (sv 3 (a0 (a1 (br (aI (dH dI aw) (aI aO (a3 aO (a0 bH) (a0 bH))))))))
  (ar (fv (r1 T.range (pv 1)) (nv 4)
  (ax (bX (cF uq hr (aI (pv 3) (aI aw (a3 aw (pv 2) (pv 0))))))))
  (ax (aG (pv 3))))),?_⟩
 show⟨_,O,aM,λmk L7=>⟨aM,λsf uy=>⟨aM,λa ha=>⟨aM,λp hp=>?_⟩⟩⟩⟩;have s1:=ao L7 (.lst []);have s2:=ao uy (.lst []);have s3:=ao ha (.tup [.int (-1),.str (s!"body"),.str (s!""),.ref mk,.ref sf]);have s4:=ao hp (.lst [V.ref a]);have jv:Same H _:=((s1.trans s2).trans s3).trans s4;have fr:∀{H':Hp} {b:Addr},Same H H'->H' b=none->H b=none:=λss hb=>ss.free hb
 have AU:H p=none:=((s1.trans s2).trans s3).free hp;have G1:Gs H st p (af (af (af (af H mk (.lst [])) sf (.lst [])) a (.tup [.int (-1),.str (s!"body"),.str (s!""),.ref mk,.ref sf])) p (.lst [V.ref a])) [bL]:=by
  show⟨S.same jv,S.some,AU,jv.keep,[a],aj,.cons ⟨⟨(s1.trans s2).free ha,IN (s4 _ _ aj) aj (by intro z;cases z)⟩,mk,sf,s4 _ _ aj,⟨L7,bO ⟨_,(s2.trans s3) _ _ aj⟩ hp |>.symm⟩,(s2.trans (s3.trans s4)) _ _ aj,⟨s1.free uy,(bO ⟨_,s3 _ _ aj⟩ hp).symm⟩,[],(s3.trans s4) _ _ aj,.nil⟩ .nil⟩
 generalize af (af (af (af H mk (.lst [])) sf (.lst [])) a (.tup [.int (-1),.str (s!"body"),.str (s!""),.ref mk,.ref sf])) p (.lst [V.ref a])=H1 at G1 jv⊢;show⟨_,O,_,O,(),(),gg (λj σ H2=>∃(sub:List Nd) (ks:List Kd) (v:Option V),σ=[!.ref st,!.int m,!.int R,!.ref p,v]/\Kids 0 0 .body [bL] sub ks/\(0<j->ks≠[])/\i5 R 0 j (1+sub.length)/\Gs H st p H2 (bL::sub))
  ⟨[],[],none,O,W4,(λz=>absurd z (rP 0)),.inl (by simp;omega),G1⟩ ?_ ?_⟩
 .ext j σ H2 hj ⟨sub,ks,v,rfl,kids,uv,cb,G2⟩;have j4:j<4:=by simp at hj;omega
  have L6:1+sub.length<=60:=by
   unfold i5 iB at cb;simp at cb;omega
  show⟨_,O,_,O,_,O,H,p,st,0,1,1,R,bL,bL::sub,O,G2,O,.inl O,{},{},{},{},{},ur,by rw[rC];omega,kids.ok,kids.nm,λmore bV H3 mo ik m3 mc G3 K3=>?_⟩;show⟨sub++more,ks++bV,_,O,kids.more (by show(bL::sub).length=0+1+sub.length;rw[rC];omega) mo ik,(λ_=>?_),?_,G3⟩
  .intro z;show ik.ne (List.append_eq_nil_iff.mp z).2
  .show Lx cb (λz=>?_) (λz=>?_)
   .have:=m3 (by rw[rC];omega);rw[qG];omega
   .have:=mc (by rw[rC];omega);rw[rC]at this;rw[qG];show 1+(sub.length+more.length)<=iB R 1;omega
 .ext σ H2 ⟨sub,ks,v,rfl,kids,uv,cb,G2⟩;have le:sub.length<=R+26+3*m:=by
   unfold i5 iB at cb;simp at cb;omega
  show⟨_,O,?_⟩;show q p sub ks H2 kids le (uv (by simp;omega)) G2
def XA(F:Fun K "_law_wide" "_law_wide" LP f fd)(T:Bn mg)(bx:⋯ 1 "_law_take" ["_law_stream_here", "_law_most"] gY)(nV:⋯ 4 "_law_add" ["_law_nodes", "_law_elder", "_law_kind", "_law_stuff", "_law_stream_here"] uf)(uq:⋯ 10 "_law_item" ["_law_nodes", "_law_elder", "_law_level", "_law_room", "_law_stream_here"] (spItem 4)):(~~~0) 11 f fd ["_law_nodes", "_law_stream_here"] spWide:=by
 rcases F.go ["_law_nodes", "_law_stream_here", "_law_at", "_law_k"] with⟨H0,p,st,sub,ks,rfl,G,kids,bE,q⟩;have hu:=hr.units;show⟨_,(ar (sv 2 (cF nV hr (aI (pv 0) (aI aw (a3 (px aC (a0 (a2 aO aO)) (cF bx hr (a2 (pv 1) aw))) (a0 bH) (pv 1))))))
  (ax (fv (r1 T.range (aH bc aw (cF bx hr (a2 (pv 1) aw)))) (nv 3)
  (ax (bX (cF uq hr (aI (pv 0) (aI (pv 2) (a3 aw aw (pv 1)))))))))),?_⟩
 show⟨_,O,aM,λt ht=>?_⟩;have s1:=ao ht (.lst (([s!"shelf",s!"grid"]:TV).map V.str));show⟨_,O,st,2,O,G.so.same s1,{},{},λr H1 r0 r1 S1 K1=>?_⟩;have ek:∃k:Kd,bD (([s!"shelf",s!"grid"]:TV).map V.str) r=!.str k.s/\(k=.shelf\/k=.grid):=by
  rcases(by omega:r=0\/r=1)with rfl | rfl
  .show⟨.shelf,O,.inl O⟩
  .show⟨.grid,O,.inr O⟩
 let⟨k,ek,hk⟩:=ek;have L8:Keep1 st H H1:=s1.keep.trans K1;show⟨t,_,_,_,O,O,SqL.of (K1 _ _ (bO G.so.some ht) aj),ek,?_⟩;show⟨aM,λsf uy=>?_⟩;have s2:=ao uy (.lst []);have G2:=(G.keep1 L8 S1).same s2;show⟨_,O,H0,p,st,sf,0,k,[],bL::sub,O,G2,⟨(G.keep1 L8 S1).fresh uy,[],aj,.nil⟩,by rw[rC];omega,λd H3 de dk nX dm dn G3 K3=>?_⟩;have le1:(bL::sub).length=sub.length+1:=rC;show⟨_,O,st,6,O,G3.so,{},{},λr4 H4 nM nN S4 K4=>⟨_,_,O,O,?_⟩⟩;have G4:=G3.keep1 K4 S4;have ct:lQ d.k:=by rw[dk];rcases hk with rfl | rfl<;>simp[lQ]
 show⟨_,O,(),(),gg (λj σ H9=>∃(jw:List Nd) (kz:List Kd) (v:Option V),σ=[!.ref p,!.ref st,!.int (bL::sub).length,v]/\Kids (bL::sub).length 1 d.k (bL::sub++[d]) jw kz/\(0<j->kz≠[])/\jw.length<=3*j/\Gs H0 st p H9 (bL::sub++[d]++jw))
  ⟨[],[],none,O,⟨.nil,(λd hd=>nomatch hd),by rw[rQ];show ue kids.nm dn,?_,(λc hc=>nomatch hc),trivial⟩,(λz=>absurd z (rP 0)),∅,by rw[List.append_nil];show G4⟩ ?_ ?_⟩
 .rw[rQ];show LB kids.ok dn
 .ext j σ H9 hj ⟨jw,kz,v,rfl,ki,L9,XB,G9⟩;have j9:j<9:=()
  show⟨_,O,_,O,_,O,H0,p,st,(bL::sub).length,1,2,0,d,bL::sub++[d]++jw,O,G9,?_,ct,{},{},{},{},{},{},?_,ki.ok,ki.nm,λmore bV HA mo ik m3 mc GA KA=>?_⟩
  .rw[rZ,rJ (qF _),Nat.sub_self];rfl
  .rw[qG,qG,yJ];omega
  show⟨jw++more,kz++bV,_,O,ki.more (by rw[qG,qG,yJ]) mo ik,(λ_ z=>ik.ne (List.append_eq_nil_iff.mp z).2),?_,?_⟩
  .have:=m3 (rS _);rw[qG];omega
  .rw[<-rZ];show GA
 .ext σ H9 ⟨jw,kz,v,rfl,ki,L9,XB,G9⟩;have mo:=LC (lv:=1) (e:=0) (ds:=bL::sub) (d:=d) (sub:=jw) (ks:=kz) de {} (by rw[dk];rcases hk with rfl | rfl<;>simp) nX dm dn ki (λ_=>L9 ());have il:jw.length<=27:=()
  show q (d::jw) [d.k] H9 (kids.more (by show(bL::sub).length=0+1+sub.length;rw[rC];omega) mo ?_) (by rw[rC];omega) ‹G9›;show .inl ⟨d.k,O,by rw[dk];rcases hk with rfl | rfl<;>decide,by rw[dk];rcases hk with rfl | rfl<;>rfl⟩
end K32
namespace Gen
open L2 Bk
def jx(ds:List Nd)(n:Int)(i:Nat):TN:=((List.range i).filter λj=>decide (ds[j]?.map Nd.e=!n)).map λ(j:Nat)=>(j:Int)
def XC{n:Int}{i:Nat}(h:ds[i]?=!d)(e:d.e=n):jx ds n (i+1)=jx ds n i++[(i:Int)]:=by
 unfold jx;rw[uD,rT,qD];simp[h,e]
def XD{n:Int}{i:Nat}(h:ds[i]?=!d)(e:¬d.e=n):jx ds n (i+1)=jx ds n i:=by
 unfold jx;rw[uD,rT,qD];simp[h,e]
def XE(ds:List Nd)(n:Int)(i:Nat):(jx ds n i).length<=i:=by
 unfold jx;rw[qA];show rF (rR ..) ∅
inductive EE:List V->Hp->VK->XK->Prop
|m (v:Int):vs=[.int v]->Q (.bl true) H->EE vs H Q E
def EF:∀(xs:TN),fj H (xs.map V.int) (xs.map W.Dat.int)
 | []=>.nil
 | x::l=>.cons (.int x) (EF l)
end Gen
namespace L2
open PyProof.Rows
end L2
namespace Bk
open L2 Gen
inductive Lev(ds:List Nd):Nat->Nat->Prop
 | top {i:Nat} {d:Nd}:ds[i]?=!d->d.e=-1->Lev ds i 0
 | up {i j l:Nat} {d:Nd}:ds[i]?=!d->d.e=(j:Int)->j<i->Lev ds j l->Lev ds i (l+1)
theorem Forest.elds{e i lv:Nat}(x:Forest e i lv l ks):e<i->∀(k:Nat) (d:Nd),l[k]?=!d->∃j:Nat,d.e=(j:Int)/\j<i+k:=by
 induction x with
 | nil=>intro _ k d h;cases h
 | @cons e i lv d sub rest ks bV h1 h2 h3 f1 h4 f2 js gt =>
   intro he k c hk
   cases k with
   | zero=>cases hk;show⟨e,h1,()⟩
   | succ k =>
     rw[rN]at hk
     by_cases hs:k<sub.length
     · rw[rW hs]at hk
       let⟨j,ej,hj⟩:=js () k c hk
       show⟨j,ej,()⟩
     · rw[rJ ()]at hk
       let⟨j,ej,hj⟩:=gt () _ c hk
       show⟨j,ej,()⟩
theorem Book.lev(b:Book ds):∀(i:Nat),i<ds.length->∃l,l<=i/\Lev ds i l:=by
 let⟨d,sub,ks,rfl,h1,h2,f,_⟩:=b.tree;intro i
 induction i using Nat.strongRecOn with
 | _ i ih =>
   intro hi
   cases i with
   | zero=>show⟨0,qF _,.top O h1⟩
   | succ k =>
     have hk:k<sub.length:=‹hi›
     have e:sub[k]?=!sub[k]:=qB hk
     let⟨j,ej,hj⟩:=f.elds {} k _ e
     let⟨l,hl,hv⟩:=ih j () (by simp;omega)
     show⟨l+1,(),.up (by rw[rN];show e) ej () hv⟩
end Bk
namespace Gen
open L2 Bk
def XF(ds:List Nd)(L:Nat->Nat):=∀i,i<ds.length->Lev ds i (L i)/\L i<=i
def Book.levs(b:Book ds):∃L,XF ds L:=by
 have h:∀i,∃l,i<ds.length->Lev ds i l/\l<=i:=λi=>by
  by_cases hi:i<ds.length
  .let⟨l,h1,h2⟩:=b.lev i hi;show⟨l,λ_=>⟨h2,h1⟩⟩
  .show⟨0,λz=>absurd z hi⟩
 show⟨λi=>Classical.choose (h i),λi hi=>Classical.choose_spec (h i) hi⟩
def Ma(k k':So):decide (V.str k.s=V.str k'.s)=decide (k=k'):=by
 by_cases h:k=k'
 .rw[qJ h,h];show qJ O
 .rw[qP h];show qP λz=>h ?_
  have:=V.str.inj z;rw[So.inj]at this;show this
end Gen
namespace Bk
open L2 Gen
open PySem.W (Dat kqdOk)
end Bk
namespace Bk
open L2
def iC(ds:List Nd):Nat->Int->List Int
 | 0,_=>[]
 | m+1,ab=>ab::iC ds m (match ds[ab.toNat]? with | some d=>d.e | none=>-1)
def AV(ds:List Nd):∀(m:Nat) (ab:Int),(iC ds m ab).length=m
 | 0,_=>rfl
 | m+1,ab=>by rw[iC,rC,AV ds m]
def XG{j m:Nat}(h:ds[j]?=!d):iC ds (m+1) (j:Int)=(j:Int)::iC ds m d.e:=by
 rw[iC,yF,h]
def EG(ds:List Nd)(ab:Int)(m:Nat):=(ab=-1/\m=0)\/∃j k:Nat,ab=j/\Lev ds j k/\m=k+1
def Mb{i l:Nat}(h:Lev ds i l)(e':ds[i]?=!d):EG ds d.e l:=by
 cases h with
 | top e h=>rw[e']at e;cases e;show .inl ⟨h,O⟩
 | up e h1 h2 h3=>rw[e']at e;cases e;show .inr ⟨_,_,h1,h3,O⟩
def Lev.nd{i l:Nat}(h:Lev ds i l):∃d,ds[i]?=!d:=by
 cases h with
 | top e h=>show⟨_,e⟩
 | up e h1 h2 h3=>show⟨_,e⟩
def hG(s:Same H H')(h:H L=none):Same H (af H' L o):=λb u e=>by rw[aE (cH e h)];show s b u e
end Bk
namespace Gen
open L2 Bk
inductive EH:List V->Hp->VK->XK->Prop
|m (p:Addr) (i l:Nat) (d:Nd) (ds:List Nd) (N:Addr->Prop):vs=[.ref p,.int i]->cB N H p ds->ds[i]?=!d->Lev ds i l->l<=999->(∀(L:Addr) (H':Hp),H L=none->Same H H'->H' L=!.lst ((iC ds l d.e).map V.int)->Q (.ref L) H')->EH vs H Q E
inductive EI:List V->Hp->VK->XK->Prop
|m (p:Addr) (i l:Nat) (ds:List Nd) (N:Addr->Prop):vs=[.ref p,.int i]->cB N H p ds->Lev ds i l->l<=999->(∀H',Same H H'->Q (.int l) H')->EI vs H Q E
end Gen
namespace L2
open PyProof.Rows
section
variable{X:Cx}{CX:cZ}{k:Nat}{ps:TV}{sp:Sp}{E:XK}{x:Str}{p pos:Pos}
def Mc{x1:Nat}(ha:PE X (.Tuple mS x1 eE) te)(hr:PA X es t):PA X (.Tuple mS x1 eE::es) (dz te t):=aI ha hr (by rfl)
end
end L2
namespace Bk
open L2
theorem bN{α β:Type}{F:α->β->Prop}{l1:List α}{l2:List β}(h:Paired F l1 l2){i:Nat}{a:α}(e:l1[i]?=!a):∃b,l2[i]?=!b/\F a b:=by
 induction h generalizing i with
 | nil=>cases e
 | @cons a b l1 l2 q t ih =>
   cases i with
   | zero=>cases e;show⟨b,O,q⟩
   | succ i=>show ih ‹e›
def XH(x:Str)(l:TV):lK (.str x) (l.map V.str)=decide (x∈l):=by
 by_cases h:x∈l
 .rw[qJ h];unfold lK;rw[uH];show⟨.str x,yQ h,by show(x == x)=true;simp⟩
 .rw[qP h];unfold lK;rw[List.any_eq_false];intro v hv;let⟨y,hy,rfl⟩:=qW.mp hv;show¬(y == x)=true;intro z;show h ((beq_iff_eq.mp z) ▸ hy)
def XJ:List (Str×Int×Int×Int):=[("face",0,99,0),("align",0,3,0),("above",0,400,0),("inset",0,400,0),("weight",1,9,1),("least",0,4000,0),("most",0,4000,4000),("columns",1,6,2),("span",1,6,1),("deep",1,4,1),("side",0,1,0),("wide",1,4000,100),("fresh",0,1,0)].map λy=>(Str.ofString y.1,y.2.1,y.2.2.1,y.2.2.2)
end Bk
namespace Bk
open L2
open PySem.W (Dat kqdOk)
end Bk
namespace Gen
open L2 Bk
end Gen
namespace L2
open PyProof.Rows
section
variable{κ:Type}[DecidableEq κ]
def bJ(ah:List (κ×V))(k:κ):Option V:=(ah.find? λkv=>decide (kv.1=k)).map (·.2)
def da(ah:List (κ×V))(k:κ)(v:V):List (κ×V) :=
 if(ah.any λkv=>decide (kv.1=k))=true then ah.map (λkv=>if kv.1=k then(kv.1,v)else kv)else ah++[(k,v)]
def XM{k:κ}:bJ ([]:List (κ×V)) k=none:=rfl
def gC{p:κ×V}{r:List (κ×V)}{k:κ}(e:p.1=k):bJ (p::r) k=!p.2:=by simp[bJ,List.find?_cons,e]
def gE{p:κ×V}{r:List (κ×V)}{k:κ}(e:¬p.1=k):bJ (p::r) k=bJ r k:=by simp[bJ,List.find?_cons,e]
theorem uz(k:κ):∀ah:List (κ×V),(ah.any λkv=>decide (kv.1=k))=(bJ ah k).isSome
 | []=>rfl
 | p :: r => by
   rw[uK]
   by_cases e:p.1=k
   · simp only[gC e,decide_eq_true e,Bool.true_or,Option.isSome_some]
   · rw[gE e,qP e,Bool.false_or];show uz k r
theorem Md(k j:κ)(y:V):∀ah:List (κ×V),bJ (ah.map λkv=>if kv.1=k then(kv.1,y)else kv) j=(bJ ah j).map λx=>if j=k then y else x
 | []=>rfl
 | p :: r => by
   have ih:=Md k j y r
   rw[xO]
   by_cases h:p.1=k
   · rw[if_pos h]
     by_cases e:p.1=j
     · rw[gC (p:=(p.1,y)) e,gC e,uX,if_pos (e.symm.trans h)]
     · rw[gE (p:=(p.1,y)) e,gE e,ih]
   · rw[if_neg h]
     by_cases e:p.1=j
     · rw[gC (p:=p) e,gC e,uX,if_neg (λz=>h (e.trans z))]
     · rw[gE (p:=p) e,gE e,ih]
theorem Me(k j:κ)(y:V):∀ah:List (κ×V),bJ ah k=none->bJ (ah++[(k,y)]) j=if j=k then !y else bJ ah j
 | [], _ => by
   by_cases e:k=j
   · rw[if_pos e.symm];show gC (p:=(k,y)) e
   · rw[if_neg (λz=>e z.symm)];show gE (p:=(k,y)) e
 | p :: r, hn => by
   rw[uT]
   have hk:¬p.1=k:=λz=>by rw[gC z]at hn;cases hn
   rw[gE hk]at hn
   have ih:=Me k j y r hn
   by_cases e:p.1=j
   · rw[gC e,gC e,if_neg (λz=>hk (e.trans z))]
   · rw[gE e,gE e,ih]
theorem Mf(ah:List (κ×V))(k j:κ)(y:V):bJ (da ah k y) j=if j=k then !y else bJ ah j:=by
 unfold da
 by_cases a:(ah.any λkv=>decide (kv.1=k))=true
 .rw[if_pos a,Md];rw[uz]at a
  by_cases e:j=k
  .let⟨x,hx⟩:=Option.isSome_iff_exists.mp a;rw[if_pos e,e,hx,uX,if_pos O]
  .rw[if_neg e];cases bJ ah j with
   | none=>rfl
   | some x=>rw[uX,if_neg e]
 .rw[if_neg a];show Me k j y ah ?_;rw[uz]at a;cases q:bJ ah k with
  | none=>rfl
  | some x=>rw[q]at a;show(a O).elim
def va(ah:List (κ×V))(k:κ)(v:V):(da ah k v).length<=ah.length+1:=by
 unfold da
 split
 .rw[qA];omega
 .rw[qG,rC,List.length_nil];omega
def XN{ah:List (κ×V)}{k:κ}(v:V)(h:bJ ah k=none):da ah k v=ah++[(k,v)]:=by
 unfold da;rw[uz,h];show if_neg {}
theorem RelO.isSome_eq(r:RelO o u):o.isSome=u.isSome:=by
 cases o with
 | none => cases u with
   | none=>rfl
   | some _=>show(show False from r).elim
 | some _ => cases u with
   | none=>show(show False from r).elim
   | some _=>rfl
theorem RelO.getD(r:RelO o u)(rd:RelV d d'):RelV (o.getD d) (u.getD d'):=by
 cases o with
 | none => cases u with
   | none=>show rd
   | some _=>show(show False from r).elim
 | some _ => cases u with
   | none=>show(show False from r).elim
   | some _=>show r
theorem KV.val{ah:List (κ×V)}{vs:List (κ×Value)}(r:KV ah vs)(k:κ):RelO (bJ ah k) (valueAt vs k):=by
 unfold KV at r
 induction r with
 | nil=>show True.intro
 | @cons p q ps qs h t ih =>
   let⟨h1,h2⟩:=h
   by_cases e:p.1=k
   · have e':q.1=k:=h1.symm.trans e
     have b:valueAt (q::qs) k=!q.2:=by simp[valueAt,List.find?_cons,e']
     rw[gC e,b];show h2
   · have e':¬q.1=k:=λz=>e (h1.trans z)
     have b:valueAt (q::qs) k=valueAt qs k:=by simp[valueAt,List.find?_cons,e']
     rw[gE e,b];show ih
def KV.any{ah:List (κ×V)}{vs:List (κ×Value)}(r:KV ah vs)(k:κ):(ah.any λkv=>decide (kv.1=k))=vs.any λkv=>decide (kv.1=k):=by
 unfold KV at r
 induction r with
 | nil=>rfl
 | cons h t ih=>rw[uK,uK,ih,h.1]
theorem KV.repl{ah:List (κ×V)}{vs:List (κ×Value)}(r:KV ah vs)(k:κ)(ry:RelV y u) :
  KV (ah.map λkv=>if kv.1=k then(kv.1,y)else kv) (vs.map λkv=>if kv.1=k then(kv.1,u)else kv):=by
 unfold KV at r⊢
 induction r with
 | nil=>show .nil
 | @cons p q ps qs h t ih =>
   rw[xO,xO]
   show .cons ?_ ih
   let⟨h1,h2⟩:=h
   by_cases e:p.1=k
   · rw[if_pos e,if_pos (h1.symm.trans e)];show⟨h1,ry⟩
   · rw[if_neg e,if_neg (λz=>e (h1.trans z))];show⟨h1,h2⟩
def KV.put{ah:List (κ×V)}{vs:List (κ×Value)}(r:KV ah vs)(k:κ)(ry:RelV y u):KV (da ah k y) (stored vs k u):=by
 unfold da stored;rw[r.any k]
 by_cases e:(vs.any λkv=>decide (kv.1=k))=true
 .rw[if_pos e,if_pos e];show r.repl k ry
 .rw[if_neg e,if_neg e];show Paired.snoc r ⟨O,ry⟩
def KV.length{ah:List (κ×V)}{vs:List (κ×Value)}(r:KV ah vs):ah.length=vs.length:=qN r
end
def n8(r:RelV (kV k) u):(eB P w).is k u=true:=by
 cases k with
 | inl i=>let⟨t,e⟩:=(show∃t,u=Value.int i t from r);subst e;show Sl P w i t
 | inr x=>let⟨t,e⟩:=(show∃t,u=Value.str x t from r);subst e;show IM P w x t
theorem Mg:∀{ks:List aQ} {us:TU},Vals (ks.map kV) us->ItemsAre (eB P w) ks us
 | [],_,r=>by rw[vO]at r;cases r;show .nil
 | k :: ks, _, r => by
   rw[xO]at r
   cases r with
   | cons h t=>show .cons (n8 h) (Mg t)
abbrev KT(H:Hp):List (List aQ×V)->List (List aQ×Addr×Value)->Prop:=Paired λp q=>p.1=q.1/\H q.2.1=!.tup (p.1.map kV)/\RelV p.2 q.2.2
theorem KT.val{ah:List (List aQ×V)}{xs:List (List aQ×Addr×Value)}(r:KT H ah xs)(k:List aQ):RelO (bJ ah k) ((atKey xs k).map (·.2)):=by
 induction r with
 | nil=>show True.intro
 | @cons p q ps qs h t ih =>
   let⟨h1,_,h2⟩:=h
   by_cases e:p.1=k
   · have e':q.1=k:=h1.symm.trans e
     have b:atKey (q::qs) k=!q.2:=by simp[atKey,List.find?_cons,e']
     rw[gC e,b];show h2
   · have e':¬q.1=k:=λz=>e (h1.trans z)
     have b:atKey (q::qs) k=atKey qs k:=by simp[atKey,List.find?_cons,e']
     rw[gE e,b];show ih
theorem KT.repl{ah:List (List aQ×V)}{xs:List (List aQ×Addr×Value)}(r:KT H ah xs)(k:List aQ)(ry:RelV y u) :
  KT H (ah.map λkv=>if kv.1=k then(kv.1,y)else kv) (xs.map (putAt k u)):=by
 induction r with
 | nil=>show .nil
 | @cons p q ps qs h t ih =>
   rw[xO,xO]
   show .cons ?_ ih
   let⟨h1,h2,h3⟩:=h
   unfold putAt
   by_cases e:p.1=k
   · rw[if_pos e,if_pos (h1.symm.trans e)];show⟨h1,h2,ry⟩
   · rw[if_neg e,if_neg (λz=>e (h1.trans z))];show⟨h1,h2,h3⟩
def KT.put{ah:List (List aQ×V)}{xs:List (List aQ×Addr×Value)}(r:KT H ah xs)(k:List aQ)(hb:H b=!.tup (k.map kV))(ry:RelV y u) :
  KT H (da ah k y) (storedH xs k b u):=by
 have e:(ah.any λkv=>decide (kv.1=k))=(atKey xs k).isSome:=by
  rw[uz,(r.val k).isSome_eq,Option.isSome_map]
 unfold da storedH;rw[e]
 by_cases q:(atKey xs k).isSome=true
 .rw[if_pos q,if_pos q];show r.repl k ry
 .rw[if_neg q,if_neg q];show Paired.snoc r ⟨O,hb,ry⟩
def KT.keeps{ah:List (List aQ×V)}{xs:List (List aQ×Addr×Value)}(r:KT H ah xs)(ht:∀b ys,H b=!.tup ys->H' b=!.tup ys):KT H' ah xs :=
 Paired.mapP r λ_ _ z=>⟨z.1,ht _ _ z.2.1,z.2.2⟩
section
variable{P:Program}{w:World}{H:Hp}{h:Heap}{a:Addr}
def Mh(ok:HOk P w H h)(e:Rd H a u):ObjOk P w H h a u:=e.ok ok
def vc{ah:List (aQ×V)}(ok:HOk P w H h)(e:Rd H a (.dK ah)):ah.length<=sizeLine/\(a == sysModules)=false/\∃vs,KV ah vs/\h.DictOf (eB P w) a vs :=
 show ObjOk P w H h a (.dK ah)from Mh ok e
def Mj{ah:List (aQ×V)}(ok:HOk P w H h)(e:H a=!.dK ah):ah.length<=sizeLine/\(a == sysModules)=false/\∃vs,KV ah vs/\h.DictOf (eB P w) a vs:=vc ok (.inl e)
def AW(ok:HOk P w H h)(e:H a=!.tup (ks.map kV)):(tupleKind (eB P w)).is h ks a:=by
 let⟨_,ag,r,o,h1,h2,n,h3⟩:=(show ObjOk P w H h a (.tup (ks.map kV))from ok a _ e);show⟨o,ag.toArray,n,h1,h2,h3,‹Mg r›⟩
theorem AX{ah:List (List aQ×V)}(ok:HOk P w H h)(e:Rd H a (.dT ah)):ah.length<=sizeLine/\(a == sysModules)=false /\
  ∃xs,KT H ah xs/\h.DictOfH (tupleKind (eB P w)) a xs:=by
 obtain⟨z,y,xs,r,o,es,ep,h1,h2,h3,h4,h5⟩:=(show ObjOk P w H h a (.dT ah)from Mh ok e);show⟨z,y,xs,r,o,es,ep,h1,h2,h3,h4,λx hx=>?_,h5⟩;have all:∀{l:List (List aQ×V)} {m:List (List aQ×Addr×Value)},KT H l m->∀x∈m,(tupleKind (eB P w)).is h x.1 x.2.1:=by
  intro l m q
  induction q with
  | nil=>intro x hx;show nomatch hx
  | @cons p q ps qs hq t ih =>
    intro x hx
    rcases qO.mp hx with e | hx
    · subst e
      show AW ok (by rw[<-hq.1];show hq.2.1)
    · show ih x hx
 show all r x hx
def XO{ah:List (List aQ×V)}(ok:HOk P w H h)(e:H a=!.dT ah):ah.length<=sizeLine/\(a == sysModules)=false /\
  ∃xs,KT H ah xs/\h.DictOfH (tupleKind (eB P w)) a xs:=AX ok (.inl e)
end
def DGet(H:Hp)(a:Addr)(y:V)(r:Option V):Prop :=
 (∃ah k,Rd H a (.dK ah)/\y=kV k/\r=bJ ah k)\/∃ah k b,Rd H a (.dT ah)/\y=.ref b/\H b=!.tup (k.map kV)/\r=bJ ah k
def DPut(H:Hp)(a:Addr)(y v:V)(H':Hp):Prop :=
 (∃ah k,H a=!.dK ah/\y=kV k/\ah.length<sizeLine/\H'=af H a (.dK (da ah k v))) \/
 ∃ah k b,H a=!.dT ah/\y=.ref b/\H b=!.tup (k.map kV)/\ah.length<sizeLine/\H'=af H a (.dT (da ah k v))
def DGet.k{H:Hp}{a:Addr}{ah:List (aQ×V)}{k:aQ}(e:H a=!.dK ah):DGet H a (kV k) (bJ ah k):=.inl ⟨ah,k,.inl e,O,O⟩
def DGet.t{H:Hp}{ah:List (List aQ×V)}{k:List aQ}(e:H a=!.dT ah)(eb:H b=!.tup (k.map kV)):DGet H a (.ref b) (bJ ah k):=.inr ⟨ah,k,b,.inl e,O,eb,O⟩
def DPut.k{H:Hp}{a:Addr}{ah:List (aQ×V)}{k:aQ}{v:V}(e:H a=!.dK ah)(hl:ah.length<sizeLine):DPut H a (kV k) v (af H a (.dK (da ah k v))):=.inl ⟨ah,k,e,O,hl,O⟩
def DPut.t{H:Hp}{ah:List (List aQ×V)}{k:List aQ}{v:V}(e:H a=!.dT ah)(eb:H b=!.tup (k.map kV))(hl:ah.length<sizeLine) :
  DPut H a (.ref b) v (af H a (.dT (da ah k v))):=.inr ⟨ah,k,b,e,O,eb,hl,O⟩
section
variable{X:Cx}{aa:TF}{σ:St}{H:Hp}{s:Shared}{a:Addr}{y v:V}{u r:Value}{o:Option V}{A:Around}{E:TH}
def Inv.big(I:Inv X aa σ H s):sysModules< ~~~s:=by
 have h:mainGlobals< ~~~s:=(I.mod.glob.keeps I.bk).lt;show vH {} h
def XQ{Q:TH}(hu:A.units+1<cLine)(I:Inv X aa σ H s)(g:DGet H a y (!v))(ry:RelV y u)(h:∀w' s',Inv X aa σ H s'->RelV v w'->Q w' s') :
  wpAny (model X.prog X.w) A (getItem (.ref a) u) Q E s:=by
 rcases g with⟨ah,k,e,ey,l⟩ | ⟨ah,k,b,e,ey,eb,l⟩
 .subst ey;let⟨z,hd,vs,cw,dd⟩:=vc I.hok e;let⟨w',hw,iY⟩:=RelO.some_of (v:=v) (o:=valueAt vs k) (by rw[l];show cw.val k);show wpAny_getItem_of (n8 ry) dd.mapOf hw (h w' _ (I.tok _) iY)
 .subst ey;cases(show u=Value.ref b from ry);let⟨z,hd,xs,cw,dd⟩:=AX I.hok e;let⟨w',hw,iY⟩:=RelO.some_of (v:=v) (o:=(atKey xs k).map (·.2)) (by rw[l];show cw.val k);let⟨p,hp,fu⟩:=Option.map_eq_some_iff.mp hw;show wpAny_getItem_heap (tupleKind_room_in1 hu) (AW I.hok eb) dd hp ?_;rw[fu];show h w' _ (I.tok _) iY
def XR{Q:TH}(hu:A.units+1<cLine)(I:Inv X aa σ H s)(g:DGet H a y o)(ry:RelV y u)(h:∀s',Inv X aa σ H s'->Q (.bool o.isSome) s') :
  wpAny (model X.prog X.w) A (compareOp .In u (.ref a)) Q E s:=by
 rcases g with⟨ah,k,e,ey,l⟩ | ⟨ah,k,b,e,ey,eb,l⟩
 .subst ey;let⟨z,hd,vs,cw,dd⟩:=vc I.hok e;show wpAny_in_of (n8 ry) hd dd.mapOf ?_;rw[<-(cw.val k).isSome_eq,<-l];show h _ (I.tok _)
 .subst ey;cases(show u=Value.ref b from ry);let⟨z,hd,xs,cw,dd⟩:=AX I.hok e;show wpAny_in_heap (tupleKind_room_in1 hu) (AW I.hok eb) hd dd ?_;have q:=(cw.val k).isSome_eq;rw[Option.isSome_map]at q;rw[<-q,<-l];show h _ (I.tok _)
def EJ{t':Nat}(I:Inv X aa σ H s)(mu:re (H a))(hs:Heap.SameBut a s.heap h')(he:∃q,h'.get? a=!q)(new:ObjOk X.prog X.w (af H a ob) h' a ob) :
  Inv X aa σ (af H a ob) {s with heap:=h',toks:=t'} :=
 I.write (x:=a) (e:=a) mu (.inl O) (λb q hb z=>(hs.2 b hb).trans z) he new
def EK{ah:List (aQ×V)}{vs:List (aQ×Value)}(z:ah.length<=sizeLine)(hd:(a == sysModules)=false)(cw:KV ah vs)(dd:h'.DictOf (eB P w) a vs) :
  ObjOk P w H' h' a (.dK ah):=⟨z,hd,vs,cw,dd⟩
def XS{Q:Unit->Shared->Prop}(hu:A.units+1<cLine)(I:Inv X aa σ H s)(g:DPut H a y v H')(ry:RelV y u)(rv:RelV v r)(h:∀s',Inv X aa σ H' s'->Q Unit.unit s') :
  wpAny (model X.prog X.w) A (setItem (.ref a) u r) Q E s:=by
 rcases g with⟨ah,k,e,ey,l,eH⟩ | ⟨ah,k,b,e,ey,eb,l,eH⟩
 .subst ey eH;let⟨z,hd,vs,cw,dd⟩:=Mj I.hok e;have hz:vs.length<=sizeLine:=by rw[<-cw.length];show z
  have hl:(da ah k v).length<=sizeLine:=by have:=va ah k v;omega
  show wpAny_setItem_pairs (hsz:=hz) (n8 ry) dd λh' oa hs=>h _ ?_
  have he:∃q,h'.get? a=!q:=let⟨q,_,_,hq,_⟩:=oa;⟨q,hq⟩;show EJ I (by rw[e];show True.intro) hs he (EK hl hd (cw.put k rv) oa)
 .subst ey eH;cases(show u=Value.ref b from ry);let⟨z,hd,xs,cw,dd⟩:=XO I.hok e;have hz:xs.length<=sizeLine:=by rw[<-qN cw];show z
  have hl:(da ah k v).length<=sizeLine:=by have:=va ah k v;omega
  show wpAny_setItem_heap (hsz:=hz) (tupleKind_room_in1 hu) (AW I.hok eb) dd λh' oa hs=>h _ ?_
  let⟨q,es,ep,hq,h2,h3,h4,_,h5⟩:=oa;show EJ I (by rw[e];show True.intro) hs ⟨q,hq⟩ ⟨hl,hd,_,(cw.put k eb rv).keeps λc ys ec=>?_,q,es,ep,hq,h2,h3,h4,h5⟩;rw[aE (IN ec e (λz=>nomatch z))];show ec
end
def Mk(i:Expr):=∀ov iv,subscripted i false ov iv=operate [ov,iv] (getItem ov iv)
def XT{E:TH}{T id:String}{Q:TH}(hl:typeLookup (.type T) "__getitem__" = pure (!.builtin id))(hs:Mk jZ)(h:wpAny (model prog w) A (eval value env) (λo a6=>wpAny (model prog w) A (eval jZ env) (λi ir=>ir.TypeIs o T/\wpAny (model prog w) A (getItem o i) Q E ir) E a6) E s) :
  wpAny (model prog w) A (eval (.Subscript value jZ pos) env) Q E s:=by
 show Subscript_ (xB h (λo a6 XU=>xB XU (λi ir EL=>?_) λ_ _ x=>x) λ_ _ x=>x);let⟨hT,EL⟩:=EL;unfold subscriptTail;show qC ?_;rw[getitemInPython_of_ne hT.not_modules];show qC (wpAny_specialOf hT hl ?_);have fin:wpAny (model prog w) A (subscripted jZ false o i) (λr Ag=>wpAny (model prog w) A (letTemporaryGo value o r>>=λ_=>pure r) Q E Ag) E ir:=by
  rw[hs o i];show wpAny_operating (xB EL (λr Ag XV=>qC (wpAny_letTemporaryGo (qM XV))) λ_ _ x=>x)
 first
  | show qM (qC fin)
  | show qC (qM (qC fin))
  | show qC fin
def XW{aa:TF}(I:Inv X aa σ H s)(g:DGet H a y o):s.TypeIs (.ref a) "dict":=by
 rcases g with⟨ah,k,e,_,_⟩ | ⟨ah,k,b,e,_,_,_⟩
 .let⟨_,_,vs,_,dd⟩:=vc I.hok e;show dd.typeIs
 .let⟨_,_,xs,_,dd⟩:=AX I.hok e;show dd.typeIs
def XX(td ty:TE):TE:=λσ H Q=>td σ H λx H1=>ty σ H1 λy H2=>∃a v,x=.ref a/\DGet H2 a y (!v)/\Q v H2
def XY(ty td:TE):TE:=λσ H Q=>ty σ H λy H1=>td σ H1 λx H2=>∃a o,x=.ref a/\DGet H2 a y o/\Q (.bl o.isSome) H2
def XZ(td ty tv:TE):TS:=λD σ H=>tv σ H λv H1=>td σ H1 λx H2=>ty σ H2 λy H3=>∃a H4,x=.ref a/\DPut H3 a y v H4/\D.nx σ H4
section
variable{X:Cx}{o i e value:Expr}{pos eE Ua:Pos}{td ty tv:TE}
def Ml(hu:X.A.units+1<cLine)(ho:PE X o td)(hi:PE X i ty)(hs:Mk i):PE X (.Subscript o i pos) (XX td ty):=by
 intro aa s σ H Q I h;show XT PySem.F.slot_dict_getitem.lookup hs (aN (ho aa s σ H _ I h) λu s1 ⟨x,H1,I1,rx,q1⟩=>aN (hi aa s1 σ H1 _ I1 q1) λiv s2 ⟨y,H2,I2,ry,a,v,ex,g,q2⟩=>?_);subst ex;obtain rfl:u=Value.ref a:=rx;show⟨XW I2 g,XQ hu I2 g ry λw' s3 I3 iY=>⟨v,H2,I3,iY,q2⟩⟩
def Mm(hu:X.A.units+1<cLine)(hi:PE X i ty)(ho:PE X o td):PC X .In i o (XY ty td):=by
 intro aa s σ H Q I h;show aN (hi aa s σ H _ I h) λiv s1 ⟨y,H1,I1,ry,q1⟩=>aN (ho aa s1 σ H1 _ I1 q1) λu s2 ⟨x,H2,I2,rx,a,ov,ex,g,q2⟩=>?_
 subst ex;obtain rfl:u=Value.ref a:=rx;show XR hu I2 g ry λs3 I3=>⟨.bl ov.isSome,H2,I3,O,q2⟩
def Mn(hu:X.A.units+1<cLine)(ho:PE X o td)(hi:PE X i ty)(hv:PE X value tv)(hs:swapsWith value (!.Subscript o i eE) pos.line X.env=pure false) :
  PS X (.Assign [.Subscript o i eE] value pos) (XZ td ty tv):=by
 intro aa s σ H D I h;show wpAny_Assign_Subscript (aN (hv aa s σ H _ I h) λr s1 ⟨v,H1,I1,rv,q1⟩=>aN (ho aa s1 σ H1 _ I1 q1) λu s2 ⟨x,H2,I2,rx,q2⟩=>aN (hi aa s2 σ H2 _ I2 q2) λiv s3 ⟨y,H3,I3,ry,a,H4,ex,g,q3⟩=>?_) hs;subst ex;obtain rfl:u=Value.ref a:=rx;show XS hu I3 g ry rv λs4 I4=>⟨σ,H4,I4,q3⟩
end
def X0(h:Heap)(hb:sysModules<h.objs.size):ObjOk P w H (h.push {cls:=.type "dict",data:=.dict #[]}) h.objs.size (.dK []) :=
 ⟨rS _,beq_eq_false_iff_ne.mpr (Ne.symm (rA hb)),[],.nil,Heap.DictOf.new h⟩
def X1(h:Heap)(hb:sysModules<h.objs.size):ObjOk P w H (h.push {cls:=.type "dict",data:=.dict #[]}) h.objs.size (.dT []) :=
 ⟨rS _,beq_eq_false_iff_ne.mpr (Ne.symm (rA hb)),[],.nil,_,#[],0,qT _ O,⟨O,O,O⟩,O,O,u6⟩
def X2:TE:=λ_ H Q=>∀p,H p=none->Q (.ref p) (af H p (.dT []))
section
variable{X:Cx}{pos:Pos}
def X3:PE X (.Dict [] [] pos) X2:=λaa s σ H Q I h =>
 wpAny_Dict_empty ⟨.ref (~~~s),_,I.laid (a:= ~~~s) (o:=.dT []) (t':=s.toks) (λ_ _ q=>qE _ q) (qF _) (X1 s.heap I.big),O,h _ (I.hok.fresh (qF _))⟩
end
end L2
namespace Gd
open L2 Gen
structure Pl where
 r:Nat
 c:Nat
 s:Nat
 d:Nat
def Pl.vs(p:Pl):List V:=[.int p.r,.int p.c,.int p.s,.int p.d]
def vd(p q:Pl):Bool:=decide (q.r<p.r+p.d/\p.r<q.r+q.d/\q.c<p.c+p.s/\p.c<q.c+q.s)
def free(ps:List Pl)(q:Pl):Bool:=ps.all λp=>(Bool.not (vd p q))
def iD(p:Pl)(x:Nat×Nat):Bool:=decide (p.r<=x.1/\x.1<p.r+p.d/\p.c<=x.2/\x.2<p.c+p.s)
def lT(p:Pl)(i:Nat):List (Nat×Nat):=(List.range p.s).map λj=>(p.r+i,p.c+j)
def jy(p:Pl)(n:Nat):List (Nat×Nat):=((List.range n).map (lT p)).flatten
def fV(p:Pl):List (Nat×Nat):=jy p p.d
def Mo(p:Pl)(n:Nat):jy p (n+1)=jy p n++lT p n:=by simp[jy,List.range_succ]
def EM(p:Pl)(i:Nat):(lT p i).length=p.s:=by simp[lT]
def Mp(p:Pl):∀n,(jy p n).length=n*p.s
 | 0=>by simp[jy]
 | n+1=>by rw[Mo,qG,Mp p n,EM,Nat.succ_mul]
def EN{n:Nat}(hn:n<=4)(hs:p.s<=6):(jy p n).length<=24:=by
 rw[Mp];have:=Nat.mul_le_mul hn hs;omega
def EO{x:Nat×Nat}:x∈fV p↔iD p x=true:=by
 constructor
 .intro h;unfold fV jy at h;let⟨l,hl,hx⟩:=List.mem_flatten.mp h;let⟨i,hi,rfl⟩:=qW.mp hl;let⟨j,hj,rfl⟩:=qW.mp hx;have h1:=xF.mp hi;have h2:=xF.mp hj;show qJ ⟨by show p.r<=p.r+i;omega,by show p.r+i<p.r+p.d;omega,by show p.c<=p.c+j;omega,by show p.c+j<p.c+p.s;omega⟩
 .intro h;let⟨h1,h2,h3,h4⟩:=rH h;show List.mem_flatten.mpr ⟨lT p (x.1-p.r),qW.mpr ⟨_,xF.mpr (),O⟩,qW.mpr ⟨x.2-p.c,xF.mpr (),?_⟩⟩;let⟨a,b⟩:=x;simp only at h1 h2 h3 h4⊢;rw[Prod.mk.injEq];omega
theorem X4:(∀p∈ps,1<=p.s/\1<=p.d)->1<=q.s->1<=q.d->((fV q).any λx=>ps.any λp=>iD p x)=(Bool.not (free ps q)):=by
 intro hp hs hd;rw[yI];constructor
 .intro h;let⟨x,hx,h⟩:=uH.mp h;let⟨p,gp,hc⟩:=uH.mp h;let⟨a1,a2,a3,a4⟩:=rH (EO.mp hx);let⟨b1,b2,b3,b4⟩:=rH hc;have m:vd p q=true:=qJ ⟨(),(),(),()⟩;cases e:free ps q with
  | false=>rfl
  | true =>
    have:=y9.mp e p gp
    rw[m]at this
    cases this
 .intro h;have h':free ps q=false:=‹h›
  have nz:¬∀p∈ps,((Bool.not (vd p q)))=true:=λz=>by
   rw[show free ps q=true from y9.mpr z]at h';cases h'
  let⟨p,hz⟩:=Classical.not_forall.mp nz;let⟨gp,hm⟩:=Classical.not_imp.mp hz;have AY:vd p q=true:=‹hm›
  let⟨m1,m2,m3,m4⟩:=rH AY;let⟨s1,d1⟩:=hp p gp;show uH.mpr ⟨(max p.r q.r,max p.c q.c),EO.mpr (qJ ?_),uH.mpr ⟨p,gp,qJ ?_⟩⟩
  .show q.r<=max p.r q.r/\max p.r q.r<q.r+q.d/\q.c<=max p.c q.c/\max p.c q.c<q.c+q.s;omega
  .show p.r<=max p.r q.r/\max p.r q.r<p.r+p.d/\p.c<=max p.c q.c/\max p.c q.c<p.c+p.s;omega
structure First(ps:List Pl)(cols s d:Nat)(q:Pl):Prop where
 es:q.s=s
 ed:q.d=d
 ec:q.c+s<=cols
 fr:free ps q=true
 lc:∀c,c<q.c->free ps ⟨q.r,c,s,d⟩=false
 lr:∀r,r<q.r->∀c,c+s<=cols->free ps ⟨r,c,s,d⟩=false
def First.eta{cols s d:Nat}(a:First ps cols s d q):q=⟨q.r,q.c,s,d⟩:=by
 have h1:=a.es;have h2:=a.ed;subst h1 h2;rfl
def First.uniq{cols s d:Nat}(a:First ps cols s d p)(b:First ps cols s d q):p=q:=by
 have fa:=a.fr;have fb:=b.fr;rw[a.eta]at fa;rw[b.eta]at fb;have hr:p.r=q.r:=by
  rcases Nat.lt_trichotomy p.r q.r with h | h | h
  .rw[b.lr p.r h p.c a.ec]at fa;cases fa
  .show h
  .rw[a.lr q.r h q.c b.ec]at fb;cases fb
 have hc:p.c=q.c:=by
  rcases Nat.lt_trichotomy p.c q.c with h | h | h
  .rw[hr,b.lc p.c h]at fa;cases fa
  .show h
  .rw[<-hr,a.lc q.c h]at fb;cases fb
 rw[a.eta,b.eta,hr,hc]
def PsOk(cols:Nat)(ps:List Pl):=∀p∈ps,1<=p.s/\1<=p.d/\p.d<=4/\p.s<=6/\p.r+p.d<=4*ps.length/\p.c+p.s<=cols
def PsOk.one{cols:Nat}(ok:PsOk cols ps):∀p∈ps,1<=p.s/\1<=p.d:=λp hp=>⟨(ok p hp).1,(ok p hp).2.1⟩
def Mq{cols:Nat}(ok:PsOk cols ps){r c s d:Nat}(h:4*ps.length<=r):free ps ⟨r,c,s,d⟩=true:=by
 show y9.mpr λp hp=>?_
 have h1:=ok p hp;have:vd p ⟨r,c,s,d⟩=false:=qP λz=>by
  have z1:r<p.r+p.d:=z.1;omega
 rw[this];rfl
def First.row{cols s d:Nat}(a:First ps cols s d q)(ok:PsOk cols ps)(hs:s<=cols):q.r<=4*ps.length:=by
 show yM λz=>?_
 have h1:=a.lr _ z 0 ();rw[Mq ok (qF _)]at h1;cases h1
def PsOk.snoc{cols s d:Nat}(ok:PsOk cols ps)(a:First ps cols s d q)(s1:1<=s)(s2:s<=cols)(s3:cols<=6)(d1:1<=d)(d2:d<=4):PsOk cols (ps++[q]):=by
 intro p hp;rw[qG,yJ];rcases rG.mp hp with h | h
 .have:=ok p h;omega
 .have e:p=q:=‹h›
  have h1:=a.row ok s2;have h2:=a.es;have h3:=a.ed;have h4:=a.ec;subst e;omega
def ve(cs:List (Nat×Nat)):=∀c∈cs,1<=c.1/\c.1<=6/\1<=c.2/\c.2<=4
inductive Placed(cols:Nat):List (Nat×Nat)->List Pl->Prop
 | nil:Placed cols [] []
 | snoc {cs:List (Nat×Nat)} {ps:List Pl} {x:Nat×Nat} {q:Pl}:Placed cols cs ps->First ps cols (min x.1 cols) x.2 q->Placed cols (cs++[x]) (ps++[q])
theorem Placed.uniq{cols:Nat}{cs:List (Nat×Nat)}(a:Placed cols cs ps):∀{qs:List Pl},Placed cols cs qs->ps=qs:=by
 induction a with
 | nil =>
   intro qs b
   generalize e:([]:List (Nat×Nat))=z at b
   cases b with
   | nil=>rfl
   | snoc _ _=>simp at e
 | @snoc cs ps x q a1 a2 ih =>
   intro qs b
   generalize e:cs++[x]=z at b
   cases b with
   | nil=>simp at e
   | @snoc cs' vf x' q' b1 b2 =>
     let⟨e1,e2⟩:=List.append_inj' e O
     have e3:x=x':=‹e2›
     subst e1 e3
     have:=ih b1
     subst this
     rw[a2.uniq b2]
def Placed.len{cols:Nat}{cs:List (Nat×Nat)}(a:Placed cols cs ps):ps.length=cs.length:=by
 induction a with
 | nil=>rfl
 | snoc _ _ ih=>rw[qG,qG,ih];rfl
def X5{own:Nat}{ix:TM}(Pv:Nat->List V->St->Hp->Prop)(hz:xs.length<sizeLine)(h0:Pv 0 [] (gU own ix σ) H)(hl:∀i ys ae H',i<=xs.length->Pv i ys ae H'->SqT K H' a xs/\ys.length<=i)(hs:∀i x ys ae H',xs[i]?=!x->Pv i ys ae H'->g x ae H' λaV H3=>tt aV H3 λb H4=>if b=true then te aV H4 λv H5=>Pv (i+1) (ys++[v]) aV H5 else Pv (i+1) ys aV H4)(hd:∀ys ae H',Pv xs.length ys ae H'->∀D,H' D=none->Q (.ref D) (af H' D (.lst ys))) :
  ng own ix g tt te (Df K a) σ H Q:=by
 show⟨λi m ys σ H=>m=xs.length-i/\i<=xs.length/\Pv i ys σ H,⟨xs.length,∅,rS _,h0⟩,?_⟩;ext i m ys σ H ⟨rfl,hi,p⟩;let⟨q,hy⟩:=hl i ys σ H hi p;show⟨(),?_⟩
 by_cases aX:i<xs.length
 .show .inr ⟨⟨xs,xs[i],q,by simp[aX]⟩,Pv (i+1),λzs ae H' p'=>⟨xs.length-(i+1),(),O,aX,p'⟩,λx H' y=>?_⟩;let⟨e,y⟩:=y;subst e;show hs i x ys σ _ (y xs q) p
 .have e:i=xs.length:=()
  subst e;show .inl ⟨⟨xs,q,qF _⟩,hd ys σ H p⟩
section
variable{X:Cx}
open PySem Spec PyProof.Rows in
theorem X6(hc:X.calm=true):dy X (.builtin "any") (λxs H Q=>∃(p:Addr) (bs:List Bool),xs=[.ref p]/\SqL X.K H p (bs.map V.bl)/\Q (.bl (bs.any id)) H):=by
 intro aa s σ H xs us Q I r h;let⟨p,bs,rfl,hp,q⟩:=h;let⟨u,rfl,rx⟩:=vals1 r;cases rx;let⟨ag,rv,pl,hz⟩:=I.list hp;have hh:=I.ok.hd hc;show call_any_walk (xJ pl.isList ?_);have lp:p< ~~~s:=by
  let⟨o,e,_⟩:=pl.isList;show qL e
 have X7:∀(i:Nat) (v:Value),ag.toArray[i]?=!v->v=.bool (bs.getD i false):=λi v e=>by
  have e':ag[i]?=!v:=‹e›
  cases z:bs[i]? with
  | none =>
    have h1:=rv.length
    rw[qA]at h1
    have h2:=(qI.mp e').1
    have h3:=List.getElem?_eq_none_iff.mp z
    omega
  | some b =>
    let⟨u,e2,r2⟩:=rv.get (i:=i) (x:=.bl b) (by rw[qK,z];rfl)
    rw[e']at e2
    cases e2
    cases r2
    rw[qX,z]
    rfl
 show⟨~~~s,_,_,_,_,_,λi=>bs.getD i false,O,Walks.list ‹hh› (~~~s) p (rA lp) ag.toArray,⟨⟨_,qT _ O,O,O⟩,pl.isList.push _⟩,λi v s' Q' E' e hq=>?_,λh' tk k=>?_⟩
 .rw[X7 i v e];show xX hq
 .have ev:(List.range ag.toArray.size).any (λi=>bs.getD i false)=bs.any id:=by
   have hl:ag.toArray.size=bs.length:=by rw[qY,<-rv.length,qA]
   rw[hl];rw[yI];simp only[List.any_eq_true,List.mem_range,id];constructor
   .ext⟨i,hi,z⟩;rw[qX,qB hi]at z;show⟨_,rL hi,z⟩
   .ext⟨x,hx,z⟩;let⟨i,hi,e⟩:=List.mem_iff_getElem.mp hx;show⟨i,hi,?_⟩;rw[qX,qB hi,e];show z
  rw[ev];show⟨.bl (bs.any id),H,I.kept λb o e=>k b o ‹rA (qL e)› (qE _ e),O,q⟩
end
def TupAt(H:Hp)(a:Addr)(x:Nat×Nat):=H a=!.tup [.int x.1,.int x.2]
def PlAt(H:Hp)(a:Addr)(p:Pl):=H a=!.tup p.vs
def LstAt{β:Type}(F:Hp->Addr->β->Prop)(H:Hp)(L:Addr)(xs:List β):=∃as:TQ,H L=!.lst (as.map V.ref)/\Paired (F H) as xs
def Tups(H H':Hp):=∀b xs,H b=!.tup xs->H' b=!.tup xs
def Tups.of(s:Same H H'):Tups H H':=λb _ e=>s b _ e
def Tups.trans(a:Tups H H1)(b:Tups H1 H2):Tups H H2:=λc xs e=>b c xs (a c xs e)
def Tups.lst(h:H L=!.lst ys):Tups H (af H L o):=λb xs e=>by
 rw[aE (λz=>by rw[z,h]at e;cases e)];show e
def Tups.dct{ah:List (List aQ×V)}(h:H L=!.dT ah):Tups H (af H L o):=λb xs e=>by
 rw[aE (λz=>by rw[z,h]at e;cases e)];show e
def PlAt.keep(t:Tups H H')(h:PlAt H a x):PlAt H' a x:=t _ _ h
def lU(t:Tups H H'){xs:List (Nat×Nat)}(h:Paired (TupAt H) as xs):Paired (TupAt H') as xs:=h.mono λ_ _ z=>t _ _ z
def Mr(t:Tups H H')(h:Paired (PlAt H) as xs):Paired (PlAt H') as xs:=h.mono λ_ _ z=>t _ _ z
def LstAt.tup(s:Same H H'){xs:List (Nat×Nat)}(h:LstAt TupAt H L xs):LstAt TupAt H' L xs:=by
 let⟨as,e,p⟩:=h;show⟨as,s _ _ e,lU (.of s) p⟩
def Tk(H:Hp)(a:Addr)(ps:List Pl)(n:Nat):=∃ah,H a=!.dT ah/\ah.length<=n/\∀x:Nat×Nat,(bJ ah [.inl x.1,.inl x.2]).isSome=ps.any λp=>iD p x
inductive AZ:List V->Hp->VK->XK->Prop
|m (t:Addr) (p:Pl):vs=[.ref t]->PlAt H t p->p.d<=4->p.s<=6->p.r<=1000->p.c<=1000->(∀(L:Addr) (H':Hp),H L=none->Same H H'->LstAt TupAt H' L (fV p)->Q (.ref L) H')->AZ vs H Q E
inductive EQ:List V->Hp->VK->XK->Prop
|m (tk:Addr) (cols s d n:Nat) (ps:List Pl):vs=[.int cols,.ref tk,.int s,.int d]->Tk H tk ps n->PsOk cols ps->ps.length<=100->1<=s->s<=cols->cols<=6->1<=d->d<=4->(∀(t:Addr) (H':Hp) (q:Pl),First ps cols s d q->PlAt H' t q->Same H H'->Q (.ref t) H')->EQ vs H Q E
inductive vg:List V->Hp->VK->XK->Prop
|m (cl:Addr) (cols:Nat) (cs:List (Nat×Nat)):vs=[.int cols,.ref cl]->LstAt TupAt H cl cs->ve cs->cs.length<=100->1<=cols->cols<=6->(∀(L:Addr) (H':Hp) (ps:List Pl),H L=none->Same H H'->LstAt PlAt H' L ps->Placed cols cs ps->PsOk cols ps->Q (.ref L) H')->vg vs H Q E
structure lV(mg:TJ):Prop where
 isinstance:mg "isinstance" = none
 len:mg "len" = none
 range:mg "range" = none
 int:mg "int" = none
 bool:mg "bool" = none
 list:mg "list" = none
 tuple:mg "tuple" = none
 any:mg "any" = none
 min:mg "min" = none
 max:mg "max" = none
 sum:mg "sum" = none
 zip:mg "zip" = none
structure A0(mg:TJ):Prop where
 row:∃t,mg "ROW" = !.int 0 t
 column:∃t,mg "COLUMN" = !.int 1 t
 span:∃t,mg "SPAN" = !.int 2 t
 deep:∃t,mg "DEEP" = !.int 3 t
def X8:bootBuiltins "any" = !.builtin "any":=by ac_rfl
def lW:bootBuiltins "min" = !.builtin "min":=by ac_rfl
def eQ:bootBuiltins "max" = !.builtin "max":=by ac_rfl
def fW:bootBuiltins "sum" = !.builtin "sum":=by ac_rfl
end Gd
namespace L2
open PyProof.Rows
def X9{P:Program}{w:World}{K:W.Frag}{tg:Expr}(x:Str)(t:Tok)(it:Addr):iU P w K tg (DV x) [it] it (λi h=>h.IsStrIter it "str_ascii_iterator" x t i) where
 mem:=∅
 obj:=λi h st b hb=>by
  have e:b=it:=‹hb›
  subst e;let⟨o,e,c,d⟩:=st;show⟨o,e,λv z=>by rw[d]at z;cases z⟩
 keep:=λi h h' st k=>by
  let⟨o,ho,r⟩:=st;show⟨o,k it ∅ o ho,r⟩
 item:=by
  intro X hP hw hK hc i aa s σ H E I hf st hg;subst hP hw hK;have ER:i<x.cps.size:=hg;let⟨f0,f1,f2,f3,f4,f5⟩:=hf it ∅;have hx:x.cps[i]?=!x.cps[i]:=by simp[ER]
  show wpAny_pyNext_ascii_item st hx λh' cK sb=>?_
  have I1:Inv X aa σ H {s with heap:=h',toks:=s.toks+1}:=I.turned (t':=s.toks+1) (λb o hb e=>(sb.2 b hb).trans e) f0 f1 f3 f4 f5;let⟨o,e,c,d⟩:=id cK;show⟨_,O,se (s:={s with heap:=h',toks:=s.toks+1}) e c d {} ⟨.str ⟨#[x.cps[i]]⟩,H,I1,⟨_,O⟩,⟨O,_,hx,O⟩,cK,λb hb=>(hf b hb).1⟩⟩
 done:=by
  intro X hP hw hK hc i aa s σ H E I hf st hg;subst hP hw hK;have ER:x.cps.size<=i:=hg;let⟨f0,f1,f2,f3,f4,f5⟩:=hf it ∅;show wpAny_pyNext_ascii_end (I.ok.hd hc) st (by simp[ER]) λh' eb=>⟨O,I.turned (t':=s.toks) (λb o hb e=>eb b o hb e) f0 f1 f3 f4 f5⟩
 self:=λ_ _ _ _ _ st h=>wpAny_pyIter_striter_ascii st h
inductive Ms(R:It->Hp->Prop):V->Hp->Prop
|m {x H1} z:x=.str z->z.cps.all (·< 128)=true->R (DV z) H1->Ms R x H1
def X'(tl:TE):TI:=λσ H R=>tl σ H (Ms R)
section
variable{X:Cx}{tg:Expr}
def Mt{l:Expr}{tl:TE}(hl:PE X l tl):PI X tg l (X' tl):=by
 intro aa s σ H R I h;show aN (hl aa s σ H _ I h) λv s1 ⟨x,H1,I1,r1,q1⟩=>?_
 let⟨z,rfl,ha,q⟩:=q1;let⟨t,rfl⟩:=r1;show wpAny_pyIter_ascii ha ?_;show⟨~~~s1,[~~~s1],_,_,H1,O,I1.kept (t':=s1.toks) λb o e=>qE _ e,X9 z t _,⟨_,qT _ O,O,O⟩,λb hb=>?_,q⟩;have e:b= ~~~s1:=‹hb›
 subst e;show I1.fpOk (qF _) (I1.hok.fresh (qF _))
end
def Mu{own:Nat}{ix:TM}(Pv:Nat->List V->St->Hp->Prop)(hz:x.cps.size<sizeLine)(h0:Pv 0 [] (gU own ix σ) H)(hl:∀i ys ae H',i<=x.cps.size->Pv i ys ae H'->ys.length<=i)(hs:∀i c ys ae H',x.cps[i]?=!c->Pv i ys ae H'->g (.str ⟨#[c]⟩) ae H' λaV H3=>tt aV H3 λb H4=>if b=true then te aV H4 λv H5=>Pv (i+1) (ys++[v]) aV H5 else Pv (i+1) ys aV H4)(hd:∀ys ae H',Pv x.cps.size ys ae H'->∀D,H' D=none->Q (.ref D) (af H' D (.lst ys))):ng own ix g tt te (DV x) σ H Q:=by
 show⟨λi m ys σ H=>m=x.cps.size-i/\i<=x.cps.size/\Pv i ys σ H,⟨x.cps.size,∅,rS _,h0⟩,?_⟩;ext i m ys σ H ⟨rfl,hi,p⟩;have hy:=hl i ys σ H hi p;show⟨(),?_⟩
 by_cases aX:i<x.cps.size
 .show .inr ⟨aX,Pv (i+1),λzs ae H' p'=>⟨x.cps.size-(i+1),(),O,aX,p'⟩,λv H' y=>?_⟩;let⟨e,c,hc,e2⟩:=y;subst e e2;show hs i c ys σ _ hc p
 .have e:i=x.cps.size:=()
  subst e;show .inl ⟨qF _,hd ys σ H p⟩
theorem ES{K:W.Frag}{a:Addr}{xs:List V}{g:TG}{tb:TS}{D:gO}{σ:St}{H:Hp}(Pv:Nat->St->Hp->Prop)(h0:Pv 0 σ H)(hl:∀i σ H,i<=xs.length->Pv i σ H->SqL K H a xs)(hs:∀i x σ H T,xs[i]?=!x->H T=none->Pv i σ H->g (.ref T) σ (af H T (.tup [.int (i:Nat),x])) λaV H2=>tb {D with nx:=Pv (i+1),ct:=Pv (i+1),bk:=D.nx} aV H2)(hd:∀σ H,Pv xs.length σ H->D.nx σ H) :
  ∃W:Nat->Nat->St->Hp->Prop,(∃m,W 0 m σ H)/\∀i m σ H,W i m σ H ->
   ((pH K a).stop i H/\D.nx σ H)\/((pH K a).go i H/\∃N:St->Hp->Prop,(∀ae H',N ae H'->∃m',m'<m/\W (i+1) m' ae H')/\∀x H',(pH K a).yld i H x H'->g x σ H' λaV H2=>tb {D with nx:=N,ct:=N,bk:=D.nx} aV H2):=by
 show⟨λi m σ H=>m=xs.length-i/\i<=xs.length/\Pv i σ H,⟨xs.length,∅,rS _,h0⟩,?_⟩;ext i m σ H ⟨rfl,hi,p⟩;have q:=hl i σ H hi p
 by_cases aX:i<xs.length
 .show .inr ⟨⟨xs,xs[i],q,by simp[aX]⟩,Pv (i+1),λae H' p'=>⟨xs.length-(i+1),(),O,aX,p'⟩,λx H' y=>?_⟩;let⟨T,z,hT,e1,e2,y⟩:=y;subst e1 e2;show hs i z σ _ T (y xs q) hT p
 .have e:i=xs.length:=()
  subst e;show .inl ⟨⟨xs,q,qF _⟩,hd σ H p⟩
section
variable{X:Cx}
def Ya:dy X (.type "range") (λxs H Q=>∃n:Nat,xs=[.int n]/\n<=1000000/\∀r,H r=none->Q (.ref r) (af H r (.rng 0 n))):=by
 intro aa s σ H xs us Q I r h;let⟨n,rfl,hn,q⟩:=h;let⟨u,rfl,t,rfl⟩:=vals1 r;show call_range_1 ⟨.ref (~~~s),af H (~~~s) (.rng 0 n),I.laid (λb o e=>qE _ e) (qF _) ?_,O,q _ (I.hok.fresh (qF _))⟩;show⟨_,_,_,qT _ O⟩
def pR(K:W.Frag)(a b:Addr):It :=
 ⟨λi H=>∃xs ys x y,SqL K H a xs/\SqL K H b ys/\xs[i]?=!x/\ys[i]?=!y,
  λi H v H'=>∃T x y,H T=none/\v=.ref T/\H'=af H T (.tup [x,y])/\∀xs ys,SqL K H a xs->SqL K H b ys->xs[i]?=!x/\ys[i]?=!y,
  λi H=>∃xs ys,SqL K H a xs/\SqL K H b ys/\(xs.length<=i\/ys.length<=i)⟩
structure Yb(h:Heap)(z TI TO i1 i2 l1 l2:Addr)(i:Nat):Prop where
 hz:IsZip h z TI TO .none
 ti:IsPair h TI (.ref i1) (.ref i2)
 to:∃a b,IsPair h TO a b
 it1:h.IsListIter i1 l1 i
 it2:h.IsListIter i2 l2 i
def dB{h:Heap}{l b:Addr}{xs:Array Value}{o:Obj}(hl:h.IsList l xs)(hb:h.get? b=!o)(hc:o.cls≠.type "list"):l≠b:=by
 ext rfl;let⟨o',e,c,_⟩:=hl;rw[hb]at e;cases e;show hc c
theorem Yc{P:Program}{w:World}{K:W.Frag}{iZ:TW}{k1:Nat}{tp:Pos}(l1 l2 z TI TO i1 i2:Addr)(d1:TI≠z)(d2:TO≠z)(d3:i1≠z)(d4:i2≠z)(d5:TI≠TO)(d6:TI≠i1)(d7:TI≠i2)(d8:TO≠i1)(d9:TO≠i2)(ET:i1≠i2) :
  iU P w K (.Tuple iZ k1 tp) (pR K l1 l2) [z,TI,TO,i1,i2] z (λi h=>Yb h z TI TO i1 i2 l1 l2 i) where
 mem:=∅
 obj:=λi h st b hb=>by
  have c1:=st.hz;have c2:=st.ti;let⟨a,b',c3⟩:=st.to;let⟨o4,e4,_,g4⟩:=st.it1;let⟨o5,e5,_,g5⟩:=st.it2;rcases qO.mp hb with rfl | hb
  .show⟨_,c1,λv z=>by cases z⟩
  rcases qO.mp hb with rfl | hb
  .show⟨_,c2,λv z=>by cases z⟩
  rcases qO.mp hb with rfl | hb
  .show⟨_,c3,λv z=>by cases z⟩
  rcases qO.mp hb with rfl | hb
  .show⟨_,e4,λv z=>by rw[g4]at z;cases z⟩
  .have:b=i2:=‹hb›
   subst this;show⟨_,e5,λv z=>by rw[g5]at z;cases z⟩
 keep:=λi h h' st k=>by
  let⟨a,b',c3⟩:=st.to;show⟨k z ∅ _ st.hz,k TI ∅ _ st.ti,⟨a,b',k TO ∅ _ c3⟩,st.it1.at λo e=>k i1 ∅ o e,st.it2.at λo e=>k i2 ∅ o e⟩
 item:=by
  intro X hP hw hK hc i aa s σ H E I hf st hg;subst hP hw hK;let⟨xs,ys,x,y,pS,pT,hx,hy⟩:=hg;let⟨vh,kx,p1,Mv⟩:=I.list pS;let⟨gj,ky,p2,og⟩:=I.list pT;let⟨u1,iE,EU⟩:=kx.get hx;let⟨u2,EV,EW⟩:=ky.get hy;let⟨ta,tb,to⟩:=st.to;let⟨o4,e4,c4,g4⟩:=id st.it1;let⟨o5,e5,c5,g5⟩:=id st.it2;have nz:Value.type "zip" ≠ Value.type "list":={}
  have nt:Value.type "tuple" ≠ Value.type "list":={}
  have n4:o4.cls≠.type "list":=by rw[c4];decide
  have n5:o5.cls≠.type "list":=by rw[c5];decide
  have D:ZipApart z TI TO i1 i2 l1 l2:=⟨d1,d2,d3,d4,d5,d6,d7,d8,d9,ET,dB p1.isList st.hz nz,dB p1.isList to nt,dB p1.isList e4 n4,dB p1.isList e5 n5,dB p2.isList st.hz nz,dB p2.isList to nt,dB p2.isList e4 n4,dB p2.isList e5 n5⟩;show wpAny_pyNext_zip_item D st.hz st.ti to st.it1 st.it2 p1.isList p2.isList (x:=u1) (y:=u2) ‹iE› ‹EV› λh' vi EX EY EZ hT hsz hk=>?_
  show⟨_,O,wpAny_letOwnedTupleGo_zip vi λh2 og sb=>?_⟩;have oh:z< ~~~s:=qL st.hz;have Yd:TO< ~~~s:=qL to;have DJ:i1< ~~~s:=qL e4;have blt:i2< ~~~s:=qL e5;have DU:TI< ~~~s:=qL st.ti;have k2:∀b o,b∉[z,TI,TO,i1,i2]->s.heap.get? b=!o->h2.get? b=!o:=λb o hb e=>(sb.2 b (λq=>hb (by simp[q]))).trans (hk b o (λq=>hb (by simp[q])) (λq=>hb (by simp[q])) (λq=>hb (by simp[q])) (λq=>hb (by simp[q])) e)
  have gT:h2.get? (~~~s)=!{cls:=.type "tuple",data:=.seq #[u1,u2]}:=(sb.2 _ (xV oh)).trans hT;have I1:Inv X aa σ H {s with heap:=h2,toks:=s.toks}:=I.moved hf k2;have hn:H (~~~s)=none:=I.hok.fresh (qF _);show⟨.ref (~~~s),af H (~~~s) (.tup [x,y]),I1.track ?_ hn (xV I.lt) (λy c ec z=>?_) (λq hq z=>?_) ?_,O,⟨~~~s,x,y,hn,O,O,λi6 Ye h1 h2=>by rw[I.list_inj h1 pS,I.list_inj h2 pT];show⟨hx,hy⟩⟩,?_,λb hb=>?_⟩
  .cases z:X.s₀.heap.get? (~~~s) with
   | none=>rfl
   | some u=>show absurd (rE (qL z) I.sz) (rP _)
  .let⟨v,q⟩:=I.cell y c ec;show absurd q.lt (by rw[z];show rP _)
  .show absurd (qL (I.pin q hq).1) (by rw[z];show rP _)
  .show⟨by show 2<=sizeLine;decide,[u1,u2],.cons EU (.cons EW .nil),_,gT,O,_,O⟩
  .have E1:h'.get? TI=!_:=hk TI _ d1 d5 d6 d7 st.ti;show⟨og,(sb.2 _ d1).trans E1,⟨_,_,(sb.2 _ d2).trans EX⟩,EY.at λo e=>(sb.2 _ d3).trans e,EZ.at λo e=>(sb.2 _ d4).trans e⟩
  .have blt':b< ~~~s:=by
    rcases qO.mp hb with rfl | hb
    .show oh
    rcases qO.mp hb with rfl | hb
    .show DU
    rcases qO.mp hb with rfl | hb
    .show Yd
    rcases qO.mp hb with rfl | hb
    .show DJ
    .have:b=i2:=‹hb›
     rw[this];show blt
   rw[aE (rA blt')];show(hf b hb).1
 done:=by
  intro X hP hw hK hc i aa s σ H E I hf st hg;subst hP hw hK;let⟨xs,ys,pS,pT,hx⟩:=hg;let⟨vh,kx,p1,Mv⟩:=I.list pS;let⟨gj,ky,p2,og⟩:=I.list pT;have pU:=kx.length;have fi:=ky.length;let⟨ta,tb,to⟩:=st.to;let⟨o4,e4,c4,g4⟩:=id st.it1;let⟨o5,e5,c5,g5⟩:=id st.it2;have nz:Value.type "zip" ≠ Value.type "list":={}
  have nt:Value.type "tuple" ≠ Value.type "list":={}
  have n4:o4.cls≠.type "list":=by rw[c4];decide
  have n5:o5.cls≠.type "list":=by rw[c5];decide
  have D:ZipApart z TI TO i1 i2 l1 l2:=⟨d1,d2,d3,d4,d5,d6,d7,d8,d9,ET,dB p1.isList st.hz nz,dB p1.isList to nt,dB p1.isList e4 n4,dB p1.isList e5 n5,dB p2.isList st.hz nz,dB p2.isList to nt,dB p2.isList e4 n4,dB p2.isList e5 n5⟩;show wpAny_pyNext_zip_end (I.ok.hd hc) D st.hz st.ti to st.it1 st.it2 p1.isList p2.isList ?_ λh' eb=>⟨O,I.moved (t':=s.toks) hf λb o hb e=>eb b o (λq=>hb (by simp[q])) (λq=>hb (by simp[q])) (λq=>hb (by simp[q])) (λq=>hb (by simp[q])) e⟩
  rcases hx with hx | hx
  .show .inl (by simp;omega)
  .show .inr (by simp;omega)
 self:=λ_ _ _ _ _ st h=>wpAny_pyIter_zip st.hz h
def Mw:bootBuiltins "zip" = !.type "zip":=by ac_rfl
inductive Mx(K:W.Frag)(R:It->Hp->Prop):List V->Hp->Prop
|m {vs H1} a b:vs=[.ref a,.ref b]->(∃xs,SqL K H1 a xs)->(∃ys,SqL K H1 b ys)->R (pR K a b) H1->Mx K R vs H1
def Yf(K:W.Frag)(ta:TA):TI:=λσ H R=>ta σ H (Mx K R)
theorem vj{iZ:TW}{k1:Nat}(hg:Gl X "zip")(hm:X.mg "zip" = none)(ha:PA X [a,b] ta)(hs:starEach [a,b] X.env=[(false,eval a X.env),(false,eval b X.env)]:=by rfl)(fJ:starEach [b] X.env=[(false,eval b X.env)]:=by rfl) :
  PI X (.Tuple iZ k1 tp) (.Call (.Name "zip" p) [a,b] [] pos) (Yf X.K ta):=by
 intro aa s σ H R I h;show Call_ (iQ I hg hm Mw (xK (aN (ha pos aa s σ H _ I h) λus s1 ⟨vs,H1,I1,r1,q1⟩=>?_) (by rw[hs,fJ]) (by rw[fJ];rfl)));let⟨l1,l2,e,⟨xs,pS⟩,⟨ys,pT⟩,q⟩:=q1;subst e;cases r1 with
 | cons r rr =>
   cases rr with
   | cons r' E2 =>
     cases E2
     cases r
     cases r'
     let⟨vh,kx,p1,Mv⟩:=I1.list pS
     let⟨gj,ky,p2,og⟩:=I1.list pT
     show call_zip_2 p1.isList p2.isList λh' hz A8 Ba it1 it2 hsz hk=>?_
     have I2:Inv X aa σ H1 {s1 with heap:=h'}:=I1.kept (t':=s1.toks) hk
     show wpAny_pyIter_zip hz ⟨~~~s1+4,[~~~s1+4,~~~s1+2,~~~s1+3,~~~s1,~~~s1+1],_,_,H1,O,I2,
       Yc l1 l2 (~~~s1+4) (~~~s1+2) (~~~s1+3) (~~~s1) (~~~s1+1) (show(~~~s1+2:Nat)≠~~~s1+4 by omega) (show(~~~s1+3:Nat)≠~~~s1+4 by omega) (show(~~~s1  : Nat)≠~~~s1+4 by omega) (show(~~~s1+1:Nat)≠~~~s1+4 by omega) (show(~~~s1+2:Nat)≠~~~s1+3 by omega) (show(~~~s1+2:Nat)≠~~~s1  by omega) (show(~~~s1+2:Nat)≠~~~s1+1 by omega) (show(~~~s1+3:Nat)≠~~~s1  by omega) (show(~~~s1+3:Nat)≠~~~s1+1 by omega) (show(~~~s1  : Nat)≠~~~s1+1 by omega),⟨hz,A8,⟨_,_,Ba⟩,it1,it2⟩,λb hb=>?_,q⟩
     have hb': ~~~s1<=b:=by
       rcases qO.mp hb with rfl | hb
       · show Nat.le_add_right _ _
       rcases qO.mp hb with rfl | hb
       · show Nat.le_add_right _ _
       rcases qO.mp hb with rfl | hb
       · show Nat.le_add_right _ _
       rcases qO.mp hb with rfl | hb
       · show qF _
       · have:b= ~~~s1+1:=‹hb›
         rw[this];show Nat.le_add_right _ _
     show I1.fpOk hb' (I1.hok.fresh hb')
theorem Yg{K:W.Frag}{a b:Addr}{xs ys:List V}{g:TG}{tb:TS}{D:gO}{σ:St}{H:Hp}(bE:xs.length=ys.length)(Pv:Nat->St->Hp->Prop)(h0:Pv 0 σ H)(hl:∀i σ H,i<=xs.length->Pv i σ H->SqL K H a xs/\SqL K H b ys)(hs:∀i x y σ H T,xs[i]?=!x->ys[i]?=!y->H T=none->Pv i σ H->g (.ref T) σ (af H T (.tup [x,y])) λaV H2=>tb {D with nx:=Pv (i+1),ct:=Pv (i+1),bk:=D.nx} aV H2)(hd:∀σ H,Pv xs.length σ H->D.nx σ H) :
  ∃W:Nat->Nat->St->Hp->Prop,(∃m,W 0 m σ H)/\∀i m σ H,W i m σ H ->
   ((pR K a b).stop i H/\D.nx σ H)\/((pR K a b).go i H/\∃N:St->Hp->Prop,(∀ae H',N ae H'->∃m',m'<m/\W (i+1) m' ae H')/\∀x H',(pR K a b).yld i H x H'->g x σ H' λaV H2=>tb {D with nx:=N,ct:=N,bk:=D.nx} aV H2):=by
 show⟨λi m σ H=>m=xs.length-i/\i<=xs.length/\Pv i σ H,⟨xs.length,∅,rS _,h0⟩,?_⟩;ext i m σ H ⟨rfl,hi,p⟩;let⟨q1,q2⟩:=hl i σ H hi p
 by_cases aX:i<xs.length
 .show .inr ⟨⟨xs,ys,xs[i],ys[i],q1,q2,by simp[aX],by simp[<-bE,aX]⟩,Pv (i+1),λae H' p'=>⟨xs.length-(i+1),(),O,aX,p'⟩,λx H' y=>?_⟩;let⟨T,z1,z2,hT,e1,e2,y⟩:=y;subst e1 e2;let⟨y1,y2⟩:=y xs ys q1 q2;show hs i z1 z2 σ _ T y1 y2 hT p
 .have e:i=xs.length:=()
  subst e;show .inl ⟨⟨xs,ys,q1,q2,.inl (qF _)⟩,hd σ H p⟩
theorem Bb(ns:TN):∀j,preSum (λi=>ns.getD i 0) j=(ns.take j).sum
 | 0=>by simp[preSum]
 | j + 1 => by
   rw[preSum,Bb ns j,qS,List.sum_append,qX]
   cases ns[j]?<;>simp
theorem Bc{B:Int}(hB:0<=B):∀{ns:TN},(∀x∈ns,0<=x/\x<=B)->0<=ns.sum/\ns.sum<=ns.length*B
 | [],_=>∅
 | x :: l, h => by
   have h1:=h x rB
   have h2:=Bc hB (λy hy=>h y (qU _ hy)) (ns:=l)
   rw[List.sum_cons,rC]
   have e:(((l.length+1:Nat)):Int)*B=l.length*B+B:=by rw[Int.natCast_add,Int.add_mul];simp
   rw[e]
   omega
def Yh(K:W.Frag):List V->Hp->VK->Prop:=λxs H Q=>∃(p:Addr) (ns:TN),xs=[.ref p]/\SqL K H p (ns.map V.int)/\ns.length<=1000/\(∀x∈ns,0<=x/\x<=1000000)/\Q (.int ns.sum) H
def Yi(K:W.Frag):List V->Hp->VK->Prop:=λxs H Q=>∃(p:Addr) (ns:TN) (m:Int),xs=[.ref p]/\SqL K H p (ns.map V.int)/\m∈ns/\(∀x∈ns,x<=m)/\Q (.int m) H
theorem kB{ns:TN}(rv:Vals (ns.map V.int) ag):∀(i:Nat) (v:Value),ag.toArray[i]?=!v->∃t,v=.int (ns.getD i 0) t:=λi v e=>by
 have e':ag[i]?=!v:=‹e›
 cases z:ns[i]? with
 | none =>
   have h1:=rv.length
   rw[qA]at h1
   have h2:=(qI.mp e').1
   have h3:=List.getElem?_eq_none_iff.mp z
   omega
 | some n =>
   let⟨u,e2,r2⟩:=rv.get (i:=i) (x:=.int n) (by rw[qK,z];rfl)
   rw[e']at e2
   cases e2
   let⟨t,r3⟩:=r2
   rw[qX,z]
   show⟨t,r3⟩
theorem Yj(hc:X.calm=true):dy X (.builtin "sum") (Yh X.K):=by
 intro aa s σ H xs us Q I r h;let⟨p,ns,rfl,hp,hl,hb,q⟩:=h;let⟨u,rfl,rx⟩:=vals1 r;cases rx;let⟨ag,rv,pl,hz⟩:=I.list hp;have hh:=I.ok.hd hc;have lp:p< ~~~s:=by
  let⟨o,e,_⟩:=pl.isList;show qL e
 have hn:ag.toArray.size=ns.length:=by rw[qY,<-rv.length,qA]
 have sb:∀j,0<=(ns.take j).sum/\(ns.take j).sum<=1000000000:=λj=>by
  have h1:=Bc (B:=1000000) {} (ns:=ns.take j) λx hx=>hb x (yC hx)
  have h2:(ns.take j).length<=1000:=rF (by rw[qQ];show Nat.min_le_right _ _) hl;have h3:((ns.take j).length:Int)*1000000<=1000*1000000:=Int.mul_le_mul_of_nonneg_right () {};omega
 have mem:∀j,0<=ns.getD j 0/\ns.getD j 0<=1000000:=λj=>by
  rw[qX];cases e:ns[j]? with
  | none=>show⟨∅,∅⟩
  | some x=>show hb x (qR e)
 show call_sum_walk (xJ pl.isList ?_);show⟨~~~s,_,_,_,_,_,λi=>ns.getD i 0,O,Walks.list ‹hh› (~~~s) p (rA lp) ag.toArray,⟨⟨_,qT _ O,O,O⟩,pl.isList.push _⟩,λb hb'=>?_,kB rv,λj _=>⟨?_,?_⟩,λh' tk t' k=>?_⟩
 .rw[rM];rcases qO.mp hb' with rfl | hb'
  .show rX _
  .rcases qO.mp hb' with rfl | hb'
   .show xP lp
   .cases hb'
 .have:=mem j;show⟨by show -(2 ^ 63)<=ns.getD j 0;omega,by show ns.getD j 0<2 ^ 63;omega⟩
 .rw[Bb];have:=sb (j+1);constructor<;>omega
 .rw[hn,Bb,x8];show⟨.int ns.sum,H,I.kept λb o e=>k b o ‹rA (qL e)› (qE _ e),⟨t',O⟩,q⟩
def Be(K:W.Frag)(hK:X.K=K):Dq X (mY K):=by
 subst hK;show sG
def My{ns:TN}{m:Int}{n:Nat}(hn:n=ns.length)(hm:m∈ns)(le:∀x∈ns,x<=m):ns.getD (argBest (λi j=>decide (ns.getD i 0>ns.getD j 0)) (n-1)) 0=m:=by
 let⟨h1,h2⟩:=argBest_gt (λi=>ns.getD i 0) (n-1);let⟨j,hj,e⟩:=List.mem_iff_getElem.mp hm;have h3:=h2 j ();have e1:ns.getD j 0=m:=by rw[qX,qB hj,e];rfl
 have h4:argBest (λi j=>decide (ns.getD i 0>ns.getD j 0)) (n-1)<ns.length:=()
 have h5:=le _ (rL h4);have e2:ns.getD (argBest (λi j=>decide (ns.getD i 0>ns.getD j 0)) (n-1)) 0=ns[argBest (λi j=>decide (ns.getD i 0>ns.getD j 0)) (n-1)]:=by
  rw[qX,qB h4];rfl
 rw[e2]at h3⊢;rw[e1]at h3;omega
theorem pV(hc:X.calm=true):dy X (.builtin "max") (Yi X.K):=by
 intro aa s σ H xs us Q I r h;let⟨p,ns,m,rfl,hp,hm,le,q⟩:=h;let⟨u,rfl,rx⟩:=vals1 r;cases rx;let⟨ag,rv,pl,hz⟩:=I.list hp;have hh:=I.ok.hd hc;have lp:p< ~~~s:=by
  let⟨o,e,_⟩:=pl.isList;show qL e
 have hn:ag.toArray.size=ns.length:=by rw[qY,<-rv.length,qA]
 have h0:0<ag.toArray.size:=by rw[hn];show List.length_pos_of_mem hm
 show call_max_walk (xJ pl.isList ?_);show⟨~~~s,_,_,_,_,_,_,O,Walks.list ‹hh› (~~~s) p (rA lp) ag.toArray,⟨⟨_,qT _ O,O,O⟩,pl.isList.push _⟩,λb hb'=>?_,h0,CmpOf.ints_gt (λi=>ns.getD i 0) (kB rv),λv h' tk hP k=>?_⟩
 .rw[rM];rcases qO.mp hb' with rfl | hb'
  .show rX _
  .rcases qO.mp hb' with rfl | hb'
   .show xP lp
   .cases hb'
 .let⟨t,rfl⟩:=kB rv _ _ hP;rw[My hn hm le];show⟨.int m,H,I.kept λb o e=>k b o ‹rA (qL e)› (qE _ e),⟨t,O⟩,q⟩
end
abbrev Mz(prog:Program)(w:World)(A:Around)(Q:TH)(E:TH)(r:Result)(s:Shared):Prop :=
 match r with
 | .ok (.ret v)=>Q v s
 | .ok _=>False
 | .error e=>E e s
section
variable{prog:Program}{w:World}{A:Around}{E:TH}{s:Shared}
theorem Yk{id:String}{kw:List (Str×Value)}{Q:TH}(hk:builtinKind id=none)(hp:plainId id=true)(hb:entryFor table id=!b)(ha:argsOk id ⟨args,kw⟩)(hc:wpAny (model prog w) A.in1 (b ⟨args,kw⟩) (λfin s'=>match fin with
   | .done f=>Mz prog w A Q E (.ok f) s'
   | .again c=>c.quiet=true/\codeAny (model prog w) A c (Mz prog w A Q E) s') E s):wpAny (model prog w) A (call (.builtin id) args kw) Q E s:=by
 show wpAny_call (codeAny_call_builtin hp hb ?_);simp only[checkBuiltinCall,hk];cases sg:Manifest.signature? id with
 | none=>show qM hc
 | some Yl =>
   have z:Bind.checkArgs id Yl ⟨args,kw⟩=pure Unit.unit:=by simpa only[argsOk,sg]using ha
   simp only[z]
   show qM hc
variable{I:Addr}{fp wr:TQ}{n:Nat}{P:Nat->Value->Prop}{St:Nat->Heap->Prop}{R:Result->Shared->Prop}{kw:List (Str×Value)}
end
def Bf{K:W.Frag}{a b:Addr}{xs ys:List V}{own:Nat}{ix:TM}{g:TG}{tt:TT}{te:TE}{σ:St}{H:Hp}{Q:VK}(bE:xs.length=ys.length)(Pv:Nat->List V->St->Hp->Prop)(hz:xs.length<sizeLine)(h0:Pv 0 [] (gU own ix σ) H)(hl:∀i zs ae H',i<=xs.length->Pv i zs ae H'->SqL K H' a xs/\SqL K H' b ys/\zs.length<=i)(hs:∀i x y zs ae H' T,xs[i]?=!x->ys[i]?=!y->H' T=none->Pv i zs ae H'->g (.ref T) ae (af H' T (.tup [x,y])) λaV H3=>tt aV H3 λb H4=>if b=true then te aV H4 λv H5=>Pv (i+1) (zs++[v]) aV H5 else Pv (i+1) zs aV H4)(hd:∀zs ae H',Pv xs.length zs ae H'->∀D,H' D=none->Q (.ref D) (af H' D (.lst zs))):ng own ix g tt te (pR K a b) σ H Q:=by
 show⟨λi m zs σ H=>m=xs.length-i/\i<=xs.length/\Pv i zs σ H,⟨xs.length,∅,rS _,h0⟩,?_⟩;ext i m zs σ H ⟨rfl,hi,p⟩;let⟨q1,q2,hy⟩:=hl i zs σ H hi p;show⟨(),?_⟩
 by_cases aX:i<xs.length
 .show .inr ⟨⟨xs,ys,xs[i],ys[i],q1,q2,by simp[aX],by simp[<-bE,aX]⟩,Pv (i+1),λws ae H' p'=>⟨xs.length-(i+1),(),O,aX,p'⟩,λx H' y=>?_⟩;let⟨T,x1,y1,hT,e1,e2,y⟩:=y;subst e1 e2;let⟨z1,z2⟩:=y xs ys q1 q2;show hs i x1 y1 zs σ _ T z1 z2 hT p
 .have e:i=xs.length:=()
  subst e;show .inl ⟨⟨xs,ys,q1,q2,.inl (qF _)⟩,hd zs σ H p⟩
end L2
namespace Gen
open L2 Bk
structure bP(mg:TJ):Prop extends Bn mg where
 any:mg "any" = none
 min:mg "min" = none
 max:mg "max" = none
 sum:mg "sum" = none
 zip:mg "zip" = none
end Gen
namespace L2
open PyProof.Rows
section
variable{prog:Program}{w:World}{A:Around}{E:TH}{s:Shared}
theorem Ym{a:Addr}{o:Obj}{ag:Array Value}{n:Nat}{ks:TV}{x:Str}{t:Tok}{j:Nat}{Q:TH}(ho:s.heap.get? a=!o)(hc:o.cls=.type "tuple")(hd:o.data=.seq ag n)(hl:ag.size=ks.length)(hk:∀(i:Nat) (y:Str),ks[i]?=!y->∃u,ag[i]?=!Value.str y u)(hj:ks[j]?=!x)(aX:∀i:Nat,i<j->ks[i]?≠!x)(h:∀t',Q (.int j t') {s with toks:=s.toks+1}):wpAny (model prog w) A (call (.builtin "tuple.index") [.ref a,.str x t]) Q E s:=by
 show yT PySem.F.slot_tuple_index ⟨o,ho,hc⟩ PySem.F.entry_tuple_index ?_ (PySem.F.args_tuple_index_2 _ _);unfold Builtin.«tuple.index»;show qC (wpAny_of_eq (show selfAndSome "tuple.index" "index" 1 3 ⟨[.ref a,.str x t],[]⟩=pure (.ref a,[.str x t])from rfl) ?_);show qC (wpAny_tupleItemsOf ho hd ?_);show qC (qM (qC (qM ?_)));dsimp only;rw[Nat.min_self,Std.Legacy.Range.forIn_eq_forIn_range'];show qC (wpAny_forIn_list _ (λrest b s'=>b.1=none/\s'=s/\∃i,i<=j/\rest=List.range' i (ag.size-i)) _ ?_ ?_ _ _ ⟨O,O,0,rS _,?_⟩)
 .rintro i rest b s' ⟨hb,rfl,i',hi,er⟩;have jl:j<ag.size:=by rw[hl];show(qI.mp hj).1
  obtain⟨k,ek⟩:∃k,ag.size-i'=k+1:=⟨ag.size-i'-1,()⟩;rw[ek,List.range'_succ]at er;let⟨rfl,er⟩:=u8 er;have il:i<ks.length:=()
  let⟨u,eu⟩:=hk i ks[i] (qB il);rw[eu];show qC (wpAny_eqBool_str ?_)
  by_cases e:ks[i]=x
  .have ij:i=j:=by
    show Nat.le_antisymm hi (yM λz=>aX i z ?_);rw[qB il,e]
   subst ij;rw[qJ e];show qC (qC (wpAny_mkInt (qM (qM ?_))));show qM ⟨_,O,h _⟩
  .rw[qP e];have ne:i≠j:=λz=>e (by subst z;rw[qB il]at hj;show rD hj)
   show qM ⟨O,O,i+1,(),?_⟩;rw[er,show ag.size-(i+1)=k by omega]
 .ext b s' ⟨hb,rfl,i',hi,er⟩;have jl:j<ag.size:=by rw[hl];show(qI.mp hj).1
  have:=xC List.length er;rw[List.length_range']at this;simp at this;omega
 .simp[Std.Legacy.Range.size]
end
inductive MA(K:W.Frag):V->List V->Hp->VK->Prop
|m (a:Addr) (ks:TV) (y:Str) (j:Nat):x=.ref a->vs=[.str y]->SqT K H a (ks.map V.str)->ks[j]?=!y->(∀i:Nat,i<j->ks[i]?≠!y)->Q (.int j) H->MA K x vs H Q
section
variable{X:Cx}
def Yn:pj X "tuple.index" (MA X.K):=by
 intro aa s σ H x xs v us Q I rx rv h;let⟨a,ks,y,j,rfl,rfl,hq,hj,aX,q⟩:=h;cases rx;let⟨u,rfl,ru⟩:=Vals.one rv;let⟨t,rfl⟩:=ru;let⟨ag,MB,pl,hz⟩:=I.tuple hq;have hl:ag.toArray.size=ks.length:=by rw[qY,<-MB.length,qA]
 let⟨o,ho,hc,n,hd⟩:=pl;show Ym (ks:=ks) ho hc hd hl (λi z e=>?_) hj aX λt'=>⟨.int j,H,I.tok _,⟨t',O⟩,q⟩
 let⟨u,e2,r2⟩:=MB.get (i:=i) (x:=.str z) (by rw[qK,e];rfl);let⟨t2,rfl⟩:=r2;show⟨t2,‹e2›⟩
end
def pW(hi:Int)(n:Nat):It:=⟨λi _=>i<n,λi H x H'=>H'=H/\x=.int (hi-i),λi _=>n<=i⟩
def Yo{P:Program}{w:World}{K:W.Frag}{tg:Expr}(it:Addr)(hi:Int)(n:Nat):iU P w K tg (pW hi n) [it] it (λi h=>IsRangeIter h it (hi+(i:Nat)*(-1)) ((n:Int)-(i:Nat)) (-1)) where
 mem:=∅
 obj:=λi h st b hb=>by
  obtain rfl:b=it:=‹hb›
  show⟨_,st,λv z=>?_⟩;have z':Data.fields _=Data.cell v:=z;cases z'
 keep:=λi h h' st k=>k it ∅ _ st
 item:=by
  intro X hP hw hK hc i aa s σ H E I hf st hg;subst hP hw hK;let⟨f0,f1,f2,f3,f4,f5⟩:=hf it ∅;show(Walks.range (prog:=X.prog) (w:=X.w) (I.ok.hd hc) it hi (-1) n).item i s _ _ hg st λv h' tk hv cK kk=>?_
  let⟨t,rfl⟩:=hv;have I1:Inv X aa σ H {s with heap:=h',toks:=tk}:=I.turned (λb o hb e=>kk b o ‹hb› e) f0 f1 f3 f4 f5;show⟨_,O,se (s:={s with heap:=h',toks:=tk}) (n := "range_iterator") cK O O {} ⟨.int (hi-i),H,I1,⟨t,?_⟩,⟨O,O⟩,cK,λb hb=>(hf b hb).1⟩⟩;rw[show hi+(i:Int)*(-1)=hi-i by omega]
 done:=by
  intro X hP hw hK hc i aa s σ H E I hf st hg;subst hP hw hK;let⟨f0,f1,f2,f3,f4,f5⟩:=hf it ∅;show wpAny_pyNext_range_end (I.ok.hd hc) st (by have z:n<=i:=hg;omega) λh' eb=>⟨O,I.turned (t':=s.toks) (λb o hb e=>eb b o hb e) f0 f1 f3 f4 f5⟩
 self:=λ_ _ _ _ _ st h=>wpAny_pyIter_rangeiter st h
def MC(a b:Int):Builtin.Range.rangeSize a b (-1)=if a>b then a-b else 0:=by
 unfold Builtin.Range.rangeSize;rw[if_neg {}]
 split
 .rw[show -(-1:Int)=1 by decide,Int.ediv_one];omega
 .rfl
def small_down{a b:Int}(ha:-(2 ^ 62)<=a)(kC:a<2 ^ 62)(hb:-(2 ^ 62)<=b)(hb':b<2 ^ 62):Builtin.Range.small a b (-1)=true:=by
 unfold Builtin.Range.small;rw[MC];rw[if_neg (show¬((-1:Int)>0) by decide)];simp only[Builtin.Range.rangeFitsLong,Bool.and_eq_true,Bool.or_eq_true,decide_eq_true_eq,beq_iff_eq]
 split<;>omega
inductive MD(R:It->Hp->Prop):List V->Hp->Prop
|m {vs H1} (i j:Int):vs=[.int i,.int j,.int (-1)]->(-(2 ^ 62)<=i/\i<2 ^ 62/\-(2 ^ 62)<=j/\j<2 ^ 62)->R (pW i (i-j).toNat) H1->MD R vs H1
def Yp(ta:TA):TI:=λσ H R=>ta σ H (MD R)
section
variable{X:Cx}{tg:Expr}
def Yq{aa:TF}{R:It->Hp->Prop}{E:TH}{lo hi:Int}{tk:Nat}(I:Inv X aa σ H s)(h1:-(2 ^ 62)<=lo)(h2:lo<2 ^ 62)(h3:-(2 ^ 62)<=hi)(h4:hi<2 ^ 62)(q:R (pW lo (lo-hi).toNat) H) :
  wpAny (model X.prog X.w) X.A (pyIter (.ref (~~~s))) (De X aa σ tg R) E {s with heap:=s.heap.push {cls:=.type "range",data:=.fields #[.int lo t,.int hi u,.int (-1) v]},toks:=tk}:=by
 show wpAny_pyIter_range (IsRange.new ..) (small_down h1 h2 h3 h4) ?_;have I1:Inv X aa σ H {s with heap:=s.heap.push {cls:=.type "range",data:=.fields #[.int lo t,.int hi u,.int (-1) v]},toks:=tk}:=I.kept λb o e=>qE _ e
 show⟨(s.heap.push {cls:=.type "range",data:=.fields #[.int lo t,.int hi u,.int (-1) v]}).objs.size,[(s.heap.push {cls:=.type "range",data:=.fields #[.int lo t,.int hi u,.int (-1) v]}).objs.size],_,_,H,O,I1.kept (t':=tk) λb o e=>qE _ e,Yo _ lo (lo-hi).toNat,?_,λb hb=>?_,q⟩
 .have e1:lo+((0:Nat):Int)*(-1)=lo:=∅
  have e2:(((lo-hi).toNat:Nat):Int)-((0:Nat):Int)=Builtin.Range.rangeSize lo hi (-1):=by rw[MC];split<;>omega
  show IsRangeIter _ _ (lo+((0:Nat):Int)*(-1)) ((((lo-hi).toNat:Nat):Int)-((0:Nat):Int)) (-1);rw[e1,e2];show qT _ O
 .obtain rfl:b=(s.heap.push {cls:=.type "range",data:=.fields #[.int lo t,.int hi u,.int (-1) v]}).objs.size:=‹hb›
  show I1.fpOk (qF _) (I1.hok.fresh (qF _))
theorem E3(hg:Gl X "range")(hm:X.mg "range" = none)(ha:PA X [a,b,c] ta)(hs:starEach [a,b,c] X.env=[(false,eval a X.env),(false,eval b X.env),(false,eval c X.env)]:=by rfl)(fJ:starEach [b,c] X.env=[(false,eval b X.env),(false,eval c X.env)]:=by rfl) :
  PI X tg (.Call (.Name "range" p) [a,b,c] [] pos) (Yp ta):=by
 intro aa s σ H R I h;show Call_ (iQ I hg hm boot_range (xK (aN (ha pos aa s σ H _ I h) λus s1 ⟨vs,H1,I1,r1,q1⟩=>?_) (by rw[hs,fJ]) (by rw[fJ];rfl)));let⟨i,j,e,⟨q1,q2,q3,q4⟩,q⟩:=q1;subst e;cases r1 with
 | cons r rr => cases rr with
   | cons r' rr => cases rr with
     | cons E4 rr =>
       cases rr
       let⟨t,rfl⟩:=r
       let⟨t',rfl⟩:=r'
       let⟨t'',rfl⟩:=E4
       show call_range_3 {} (Yq I1 q1 q2 q3 q4 q) (.inl (PyProof.noPylong_small {}))
end
theorem E5{hi:Int}{n:Nat}{g:TG}{tb:TS}{D:gO}{σ:St}{H:Hp}(Pv:Nat->St->Hp->Prop)(h0:Pv 0 σ H)(hs:∀i σ H,i<n->Pv i σ H->g (.int (hi-i)) σ H λaV H2=>tb {D with nx:=Pv (i+1),ct:=Pv (i+1),bk:=D.nx} aV H2)(hd:∀σ H,Pv n σ H->D.nx σ H) :
  ∃W:Nat->Nat->St->Hp->Prop,(∃m,W 0 m σ H)/\∀i m σ H,W i m σ H ->
   ((pW hi n).stop i H/\D.nx σ H)\/((pW hi n).go i H/\∃N:St->Hp->Prop,(∀ae H',N ae H'->∃m',m'<m/\W (i+1) m' ae H')/\∀x H',(pW hi n).yld i H x H'->g x σ H' λaV H2=>tb {D with nx:=N,ct:=N,bk:=D.nx} aV H2):=by
 show⟨λi m σ H=>m=n-i/\i<=n/\Pv i σ H,⟨n,∅,rS _,h0⟩,λi m σ H ⟨em,ci,p⟩=>?_⟩;subst em
 by_cases aX:i<n
 .show .inr ⟨aX,Pv (i+1),λae H' p'=>⟨n-(i+1),(),O,aX,p'⟩,λx H' ⟨e,y⟩=>?_⟩;subst e y;show hs i σ _ aX p
 .obtain rfl:i=n:=()
  show .inl ⟨qF _,hd σ H p⟩
def pX(K:W.Frag):List V->Hp->VK->Prop:=λxs H Q=>∃(p:Addr) (ns:TN),xs=[.ref p]/\SqL K H p (ns.map V.int)/\Q (.int ns.sum) H
section
variable{X:Cx}
theorem i7(hc:X.calm=true):dy X (.builtin "sum") (pX X.K):=by
 intro aa s σ H xs us Q I r h;let⟨p,ns,rfl,hp,q⟩:=h;let⟨u,rfl,rx⟩:=vals1 r;cases rx;let⟨ag,rv,pl,hz⟩:=I.list hp;have hh:=I.ok.hd hc;have lp:p< ~~~s:=by
  let⟨o,e,_⟩:=pl.isList;show qL e
 have hn:ag.toArray.size=ns.length:=by rw[qY,<-rv.length,qA]
 show call_sum_walkAnyS (xJ pl.isList ?_);show⟨~~~s,_,_,_,_,_,_,λi=>ns.getD i 0,O,(Walks.list ‹hh› (~~~s) p (rA lp) ag.toArray).toS,⟨⟨_,qT _ O,O,O⟩,pl.isList.push _⟩,λb hb'=>?_,kB rv,λs' t' mv=>?_⟩
 .rw[rM];rcases qO.mp hb' with rfl | hb'
  .show rX _
  .rcases qO.mp hb' with rfl | hb'
   .show xP lp
   .cases hb'
 .rw[hn,Bb,x8];let⟨h',g',dd,kf,jW⟩:=s';obtain rfl:g'=s.gens:=mv.gens;obtain rfl:dd=s.drawn:=mv.drawn;obtain rfl:jW=s.os:=mv.os;show⟨.int ns.sum,H,I.kept λb o e=>mv.heap b o ‹rA (qL e)› (qE _ e),⟨t',O⟩,q⟩
end
end L2
namespace Bk
open L2 Gen
end Bk
namespace Gen
open L2 Bk
end Gen
namespace Bk
open L2 Gen
def vk(n:Int)(d:Nd):Bool:=decide (d.e=n)
def kk(l:List Nd)(n:Int):List Kd:=(l.filter (vk n)).map (·.k)
def ME(a b:List Nd)(n:Int):kk (a++b) n=kk a n++kk b n:=by unfold kk;rw[rT,qD]
def Bg{n:Int}(h:∀d∈l,d.e≠n):kk l n=[]:=by
 unfold kk;rw[List.filter_eq_nil_iff.mpr λd hd=>by simp[vk,h d hd]];rfl
def E6(d:Nd)(l:List Nd)(n:Int):kk (d::l) n=(if d.e=n then[d.k]else[])++kk l n:=by
 unfold kk;rw[vF]
 by_cases h:d.e=n
 .simp[vk,h]
 .simp[vk,h]
structure Yr(e i:Nat)(l:List Nd)(ks:List Kd):Prop where
 el:∀d∈l,d.e=(e:Int)\/((i:Int)<=d.e/\d.e<i+l.length)
 top:kk l e=ks
 each:∀k d,l[k]?=!d->Holds d.k (kk l ((i+k:Nat):Int)) d.st/\d.k≠.body
theorem Forest.all{e i lv:Nat}(x:Forest e i lv l ks):e<i->Yr e i l ks:=by
 induction x with
 | nil=>intro _;show⟨(λd hd=>nomatch hd),O,(λk d h=>nomatch h)⟩
 | @cons e i lv d sub rest ks bV h1 h2 h3 f1 h4 f2 js gt =>
   intro he
   have A:=js ()
   have B:=gt ()
   have MF:∀c∈rest,c.e=(e:Int)\/((i+1+sub.length:Nat):Int)<=c.e:=λc hc=>(B.el c hc).imp id And.left
   show⟨λc hc=>?_,?_,λk c hk=>?_⟩
   · rw[List.length_cons,qG]
     rcases qO.mp hc with rfl | hc
     · show .inl h1
     · rcases rG.mp hc with hc | hc
       · rcases A.el c hc with z | z<;>right<;>omega
       · rcases B.el c hc with z | z
         · show .inl z
         · right;omega
   · rw[E6,if_pos h1,ME,Bg (l:=sub) λc hc=>by rcases A.el c hc with z | z<;>omega,B.top]
     rfl
   · rw[E6,ME,if_neg ()]
     cases k with
     | zero =>
       cases hk
       rw[show((i+0:Nat):Int)=(i:Int) by simp,A.top,Bg (l:=rest) λc hc=>by rcases MF c hc with z | z<;>omega,rQ]
       show⟨h4,h3⟩
     | succ k =>
       rw[rN]at hk
       by_cases hs:k<sub.length
       · rw[rW hs]at hk
         let⟨q1,q2⟩:=A.each k c hk
         rw[Bg (l:=rest) λc hc=>by rcases MF c hc with z | z<;>omega,rQ,show i+(k+1)=i+1+k by omega]
         show⟨q1,q2⟩
       · rw[rJ ()]at hk
         let⟨q1,q2⟩:=B.each _ c hk
         rw[Bg (l:=sub) λc hc=>by rcases A.el c hc with z | z<;>omega,show i+(k+1)=i+1+sub.length+(k-sub.length) by omega]
         show⟨q1,q2⟩
theorem Forest.lev{e i lv:Nat}(x:Forest e i lv l ks):e<i->(∀k d,l[k]?=!d->ds[i+k]?=!d)->(∃u,lv=u+1/\Lev ds e u)->∀k,k<l.length->∃u,u<=6/\Lev ds (i+k) u:=by
 induction x with
 | nil=>intro _ _ _ k hk;show absurd hk (yO _)
 | @cons e i lv d sub rest ks bV h1 h2 h3 f1 h4 f2 js gt =>
   ext he hp ⟨u,rfl,le⟩ k hk
   have ld:Lev ds i (u+1):=.up (hp 0 d O) h1 he le
   have i9:∀k c,sub[k]?=!c->ds[i+1+k]?=!c:=λk c hc=>by
     have gx:k<sub.length:=(qI.mp hc).1
     have:=hp (k+1) c (by rw[rN,rW gx];show hc)
     rw[show i+1+k=i+(k+1) by omega];show this
   have fJ:∀k c,rest[k]?=!c->ds[i+1+sub.length+k]?=!c:=λk c hc=>by
     have:=hp (sub.length+k+1) c (by rw[rN,rJ ()];rw[show sub.length+k-sub.length=k by omega];show hc)
     rw[show i+1+sub.length+k=i+(sub.length+k+1) by omega];show this
   cases k with
   | zero=>show⟨u+1,h2,ld⟩
   | succ k =>
     rw[rC,qG]at hk
     by_cases hs:k<sub.length
     · let⟨v,v1,v2⟩:=js () i9 ⟨u+1,O,ld⟩ k hs
       show⟨v,v1,by rw[show i+(k+1)=i+1+k by omega];show v2⟩
     · let⟨v,v1,v2⟩:=gt () fJ ⟨u,O,le⟩ (k-sub.length) ()
       show⟨v,v1,by rw[show i+(k+1)=i+1+sub.length+(k-sub.length) by omega];show v2⟩
inductive Up(ds:List Nd):Nat->Nat->Nat->Prop
 | here {a:Nat}:Up ds a a 0
 | step {a b j m:Nat} {d:Nd}:ds[a]?=!d->d.e=(j:Int)->Up ds j b m->Up ds a b (m+1)
theorem Up.trans{a b m:Nat}(x:Up ds a b m):∀{c n:Nat},Up ds b c n->∃k,Up ds a c k:=by
 induction x with
 | here=>intro c n y;show⟨n,y⟩
 | step h1 h2 _ ih =>
   intro c n y
   let⟨k,z⟩:=ih y
   show⟨k+1,.step h1 h2 z⟩
theorem Forest.up{e i lv:Nat}(x:Forest e i lv l ks):e<i->(∀k d,l[k]?=!d->ds[i+k]?=!d)->(∃m,Up ds (i-1) e m) ->
  (∀k d,l[k]?=!d->∃j m:Nat,d.e=(j:Int)/\Up ds (i+k-1) j m)/\∃m,Up ds (i+l.length-1) e m:=by
 induction x with
 | nil=>ext _ _ hu;show⟨(λk d h=>nomatch h),hu⟩
 | @cons e i lv d sub rest ks bV h1 h2 h3 f1 h4 f2 js gt =>
   ext he hp hu
   have i9:∀k c,sub[k]?=!c->ds[i+1+k]?=!c:=λk c hc=>by
     have gx:k<sub.length:=(qI.mp hc).1
     have:=hp (k+1) c (by rw[rN,rW gx];show hc)
     rw[show i+1+k=i+(k+1) by omega];show this
   have fJ:∀k c,rest[k]?=!c->ds[i+1+sub.length+k]?=!c:=λk c hc=>by
     have:=hp (sub.length+k+1) c (by rw[rN,rJ ()];rw[show sub.length+k-sub.length=k by omega];show hc)
     rw[show i+1+sub.length+k=i+(sub.length+k+1) by omega];show this
   let⟨a1,m1,a2⟩:=js () i9 ⟨0,by rw[show i+1-1=i by omega];show .here⟩
   have ie:Up ds i e 1:=.step (hp 0 d O) h1 .here
   let⟨m2,u2⟩:=a2.trans ie
   let⟨b1,m3,b2⟩:=gt () fJ ⟨m2,u2⟩
   show⟨λk c hk=>?_,m3,?_⟩
   · cases k with
     | zero =>
       cases hk
       let⟨m,u⟩:=hu
       show⟨e,m,h1,u⟩
     | succ k =>
       rw[rN]at hk
       by_cases hs:k<sub.length
       · rw[rW hs]at hk
         let⟨j,m,q1,q2⟩:=a1 k c hk
         show⟨j,m,q1,by rw[show i+(k+1)-1=i+1+k-1 by omega];show q2⟩
       · rw[rJ ()]at hk
         let⟨j,m,q1,q2⟩:=b1 _ c hk
         show⟨j,m,q1,by rw[show i+(k+1)-1=i+1+sub.length+(k-sub.length)-1 by omega];show q2⟩
   · rw[rC,qG,show i+(sub.length+rest.length+1)-1=i+1+sub.length+rest.length-1 by omega]
     show b2
structure Ys(ds:List Nd)(n:Nat)(d:Nd):Prop where
 kids:Holds d.k (kk ds n) d.st
 body:d.k=.body↔n=0
 lev:∃u,u<=6/\Lev ds n u
 up:(n=0/\d.e=-1)\/(0<n/\∃j m:Nat,d.e=(j:Int)/\j<n/\Up ds (n-1) j m)
theorem Book.each(b:Book ds){n:Nat}(h:ds[n]?=!d):Ys ds n d:=by
 let⟨d0,sub,ks,rfl,e0,k0,f,hh⟩:=b.tree;have A:=f.all {};have hp:∀k c,sub[k]?=!c->(d0::sub)[1+k]?=!c:=λk c hc=>by rw[Nat.add_comm,rN];show hc
 have l0:Lev (d0::sub) 0 0:=.top O e0;have kc:∀n:Nat,kk (d0::sub) n=kk sub n:=λn=>by rw[E6,if_neg ()];rfl
 cases n with
 | zero =>
   cases h
   show⟨?_,by simp[k0],⟨0,{},l0⟩,.inl ⟨O,e0⟩⟩
   rw[k0,kc,show((0:Nat):Int)=((0:Nat):Int)from rfl,A.top]
   show hh
 | succ k =>
   rw[rN]at h
   let⟨q1,q2⟩:=A.each k d h
   have hk:k<sub.length:=(qI.mp h).1
   let⟨u,u1,u2⟩:=f.lev {} hp ⟨0,O,l0⟩ k hk
   let⟨c1,_⟩:=f.up (ds:=d0::sub) {} hp ⟨0,.here⟩
   let⟨j,m,ej,uj⟩:=c1 k d h
   let⟨j',ej',lt⟩:=f.elds {} k d h
   have:j=j':=()
   subst this
   show⟨?_,⟨λz=>absurd z q2,λz=>absurd z ()⟩,⟨u,u1,by rw[Nat.add_comm];show u2⟩,.inr ⟨(),j,m,ej,(),?_⟩⟩
   · rw[kc,show((k+1:Nat):Int)=((1+k:Nat):Int) by omega]
     show q1
   · rw[show k+1-1=1+k-1 by omega]
     show uj
end Bk
namespace Gen
open L2 Bk
end Gen
namespace Bk
open L2
def vm:TV:=XJ.map (·.1)
end Bk
namespace L2
open PyProof.Rows
section
variable{X:Cx}
theorem Yt{T name id:String}{r:V->List V->Hp->VK->Prop}(K:W.Frag)(hK:X.K=K)(pa:PlainAttrs T)(slot:Slot T name id)(sO:typeOf (.builtin id)=pure (.type "method_descriptor"))(hm:pj X id r)(ho:PE X o to)(ha:PA X (e::es) t)(m7:attributeBase o name X.env (eval o X.env)=eval o X.env:=by rfl)(sP:((backTo dR (starEach (e::es) X.env)).all (λx=>(Bool.not (x.1))) && (backToKw dR (keywordEach [] X.env)).all (λx=>x.1.isSome)
   && decide ((e::es).length+([]:List Keyword).length+(if([]:List Keyword).isEmpty then 0 else 1)<30))=true:=by rfl)(m9:(jX.endLine == dR.line)=true:=by rfl)(hs:starEach (e::es) X.env=(false,eval e X.env)::starEach es X.env:=by rfl)(sQ:(backTo dR (starEach es X.env)).any (·.1)=false:=by rfl) :
  PE X (.Call (.Attribute o name jX) (e::es) [] dR) (Dx K T r to t):=by
 subst hK;show jr pa slot sO hm ho ha m7 sP m9 hs sQ
end
end L2
namespace Gen
open L2 Bk
end Gen
namespace Bd
open L2 Bk Gen Gd
structure Un where
 w:Int
 b:Int
 h:Int
 k:Int
def aB(ls:TB)(n i:Nat):Int:=((ls[n]?).getD []).getD i 0
def aT(bs:TC)(n:Nat):Int×Int:=(bs[n]?).getD (0,0)
def cD(us:List (List Un))(n:Nat):List Un:=(us[n]?).getD []
def cf:TN->Int
 | []=>0
 | x::l=>l.foldl max x
def ay(ds:List Nd)(n:Nat):TM:=(List.range ds.length).filter λj=>decide (ds[j]?.map Nd.e=!(n:Int))
def cj(ls:TB)(bs:TC)(m:Nat):Int:=max (aT bs m).1 (aB ls m 5)
def fX(ls:TB)(bs:TC)(m:Nat):Int:=max (aB ls m 6) (cj ls bs m)
def lX(ls:TB)(bs:TC)(m:Nat):Int:=min (max (aT bs m).2 (cj ls bs m)) (fX ls bs m)
def iG(l s:Int):Int:=-(-l / s)
def kD(ls:TB)(cols:Int)(zs:List (Nat×Int)):Int:=cols*cf (zs.map λx=>iG x.2 (min (aB ls x.1 8) cols))
def gF(d:Nd):Int:=match d.st with
 | .int a::_=>a
 | _=>0
def cM(ds:List Nd)(ls:TB)(bs:TC)(m:Nat):Int×Int:=if ds[m]?.map Nd.k=!Kd.aside then(aB ls m 11,aB ls m 11)else aT bs m
def kE(us:List Un):Int:=cf (us.map Un.w)
def jz(us:List Un):Int:=(us.map Un.w).sum+(us.dropLast.map Un.b).sum
def ja(ds:List Nd)(ls:TB)(us:List (List Un))(bs:TC)(n:Nat)(d:Nd):Int×Int :=
 match d.k with
 | .text | .head | .note=>(kE (cD us n),jz (cD us n))
 | .shelf=>(((ay ds n).map (cj ls bs)).sum,((ay ds n).map (lX ls bs)).sum)
 | .grid=>(kD ls (aB ls n 7) ((ay ds n).map λm=>(m,(aT bs m).1)),kD ls (aB ls n 7) ((ay ds n).map λm=>(m,(aT bs m).2)))
 | _=>(cf ((ay ds n).map λm=>(cM ds ls bs m).1),cf ((ay ds n).map λm=>(cM ds ls bs m).2))
def eR(ds:List Nd)(ls:TB)(us:List (List Un))(bs:TC)(n:Nat):Int×Int :=
 match ds[n]? with
 | none=>(0,0)
 | some d=>if d.k=.picture then(gF d,gF d)else((ja ds ls us bs n d).1+2*aB ls n 3,(ja ds ls us bs n d).2+2*aB ls n 3)
def dU(ds:List Nd)(ls:TB)(us:List (List Un)):Nat->List (Int×Int)
 | 0=>List.replicate ds.length (0,0)
 | k+1=>(dU ds ls us k).set (ds.length-1-k) (eR ds ls us (dU ds ls us k) (ds.length-1-k))
def vn(ds:List Nd)(ls:TB)(us:List (List Un)):TC:=dU ds ls us ds.length
section
variable{ds:List Nd}{ls:TB}{us:List (List Un)}
def pY:∀k,(dU ds ls us k).length=ds.length
 | 0=>by simp[dU]
 | k+1=>by rw[dU,uN,pY k]
def MG{bs:TC}{i m:Nat}{v:Int×Int}(h:i≠m):aT (bs.set i v) m=aT bs m:=by
 unfold aT;rw[List.getElem?_set_ne h]
def MH{bs:TC}{i:Nat}{v:Int×Int}(h:i<bs.length):aT (bs.set i v) i=v:=by
 unfold aT;rw[List.getElem?_set_self h];rfl
def dC{n m:Nat}(h:m∈ay ds n):m<ds.length:=xF.mp (xL.mp h).1
def Bh{n m:Nat}(h:m∈ay ds n):∃d,ds[m]?=!d/\d.e=(n:Int):=by
 have h2:=rH (xL.mp h).2;let⟨d,e1,e2⟩:=Option.map_eq_some_iff.mp h2;show⟨d,e1,e2⟩
def Behind(ds:List Nd):=∀(m:Nat) (d:Nd),ds[m]?=!d->d.e<(m:Int)
end
theorem E7:∀(l:TN) (a:Int),a<=l.foldl max a/\∀x∈l,x<=l.foldl max a
 | [],a=>⟨Int.le_refl _,λx hx=>nomatch hx⟩
 | y :: l, a => by
   let⟨h1,h2⟩:=E7 l (max a y)
   rw[xE]
   show⟨(),λx hx=>?_⟩
   rcases qO.mp hx with rfl | hx
   · omega
   · show h2 x hx
theorem MI:∀(l:TN) (a:Int),l.foldl max a∈a::l
 | [],a=>∅
 | y :: l, a => by
   rw[xE]
   rcases qO.mp (MI l (max a y))with e | h
   · rw[e]
     by_cases z:a<=y
     · rw[Int.max_eq_right z];simp
     · rw[Int.max_eq_left ()];simp
   · show qU _ (qU _ h)
def kF{l:TN}(h:l≠[]):cf l∈l:=by
 cases l with
 | nil=>show absurd O h
 | cons x l=>show MI l x
theorem oi{l:TN}:∀x∈l,x<=cf l:=by
 cases l with
 | nil=>intro x hx;cases hx
 | cons y l =>
   intro x hx
   rcases qO.mp hx with rfl | hx
   · show(E7 l x).1
   · show(E7 l y).2 x hx
def Bi{l:TN}(h:∀x∈l,0<=x):0<=cf l:=by
 cases l with
 | nil=>show Int.le_refl _
 | cons x l=>show h _ (kF ∅)
def Yu(ds:List Nd)(n:Nat):jx ds n ds.length=(ay ds n).map λ(j:Nat)=>(j:Int):=rfl
def lZ(ds:List Nd)(n:Nat):(ay ds n).length<=ds.length:=rF (rR _ _) ∅
theorem fY{α β:Type}{F:α->β->Prop}{l1:List α}{l2:List β}(h:Paired F l1 l2){i:Nat}{b:β}(e:l2[i]?=!b):∃a,l1[i]?=!a/\F a b:=by
 induction h generalizing i with
 | nil=>cases e
 | @cons a b l1 l2 q t ih =>
   cases i with
   | zero=>cases e;show⟨a,O,q⟩
   | succ i=>show ih ‹e›
theorem _root_.PySem.Paired.set{α β:Type}{F:α->β->Prop}{l1:List α}{l2:List β}(h:Paired F l1 l2){a:α}{b:β}(q:F a b):∀i,Paired F (l1.set i a) (l2.set i b):=by
 induction h with
 | nil=>intro i;show .nil
 | cons q' t ih =>
   intro i
   cases i with
   | zero=>show .cons q t
   | succ i=>show .cons q' (ih i)
def PrAt(H:Hp)(a:Addr)(x:Int×Int):=H a=!.tup [.int x.1,.int x.2]
def LkAt(H:Hp)(a:Addr)(l:TN):=H a=!.lst (l.map V.int)
def PrAt.same(s:Same H H'){x:Int×Int}(h:PrAt H a x):PrAt H' a x:=s _ _ h
def LkAt.same(s:Same H H'){x:TN}(h:LkAt H a x):LkAt H' a x:=s _ _ h
def eJ{β:Type}{F:Hp->Addr->β->Prop}(hF:∀a x,F H a x->F H' a x)(s:Same H H'){xs:List β}(h:LstAt F H L xs):LstAt F H' L xs:=by
 let⟨as,e,p⟩:=h;show⟨as,s _ _ e,p.mono hF⟩
def cU(s:Same H H'){ls:TB}(h:LstAt LkAt H p ls):LstAt LkAt H' p ls:=eJ (λ_ _=>LkAt.same s) s h
def fZ(s:Same H H'){bs:TC}(h:LstAt PrAt H p bs):LstAt PrAt H' p bs:=eJ (λ_ _=>PrAt.same s) s h
structure LkOk(l:TN):Prop where
 len:l.length=13
 ins:0<=l.getD 3 0
 least:0<=l.getD 5 0
 most:0<=l.getD 6 0
 cols:1<=l.getD 7 0/\l.getD 7 0<=6
 span:1<=l.getD 8 0/\l.getD 8 0<=6
 wide:0<=l.getD 11 0
structure Ctx(ds:List Nd)(ls:TB)(us:List (List Un)):Prop where
 le:ds.length<=100
 ll:ls.length=ds.length
 ul:us.length=ds.length
 lk:∀l∈ls,LkOk l
 pos:∀r∈us,r.length<=100/\∀u∈r,0<=u.w/\0<=u.b
 un:∀(n:Nat) (d:Nd),ds[n]?=!d->(d.k=.text\/d.k=.head\/d.k=.note)->cD us n≠[]
 pic:∀(n:Nat) (d:Nd),ds[n]?=!d->d.k=.picture->∃a b:Int,d.st=[.int a,.int b]/\0<=a
 gr:∀(n:Nat) (d:Nd),ds[n]?=!d->d.k=.grid->ay ds n≠[]
 bh:Behind ds
def Ctx.look{ls:TB}(c:Ctx ds ls us){n:Nat}(h:n<ds.length):∃l,ls[n]?=!l/\LkOk l/\∀i,aB ls n i=l.getD i 0:=by
 have hl:n<ls.length:=by rw[c.ll];show h
 show⟨ls[n],qB hl,c.lk _ (rL hl),λi=>?_⟩;unfold aB;rw[qB hl];rfl
def iH(y:Str)(j:Nat):Prop:=vm[j]?=!y/\∀i:Nat,i<j->vm[i]?≠!y
structure MJ(K:W.Frag)(a:Addr):Prop where
 tup:∀H:Hp,SqT K H a (vm.map V.str)
 ob:∃o,K.lookup a=!o/\o.cls=.type "tuple" /\ o.dict=none
inductive fz:List V->Hp->VK->XK->Prop
|m (p:Addr) (n j:Nat) (y:Str) (ls:TB):vs=[.ref p,.int n,.str y]->LstAt LkAt H p ls->n<ls.length->(∀l∈ls,l.length=13)->j<13->iH y j->Q (.int (aB ls n j)) H->fz vs H Q E
inductive E8:List V->Hp->VK->XK->Prop
|m (p:Addr) (n:Nat) (a b:Int) (ls:TB):vs=[.ref p,.int n,.int a,.int b]->LstAt LkAt H p ls->n<ls.length->(∀l∈ls,l.length=13)->(∀(t:Addr) (H':Hp),Same H H'->PrAt H' t (a+2*aB ls n 3,b+2*aB ls n 3)->Q (.ref t) H')->E8 vs H Q E
inductive jb(f:TB->List (Int×Int)->Nat->Int):List V->Hp->VK->XK->Prop
|m (p L:Addr) (m:Nat) (ls:TB) (bs:TC):vs=[.ref p,.ref L,.int m]->LstAt LkAt H p ls->LstAt PrAt H L bs->m<ls.length->m<bs.length->(∀l∈ls,l.length=13)->Q (.int (f ls bs m)) H->jb f vs H Q E
inductive E9:List V->Hp->VK->XK->Prop
|m (l s:Int):vs=[.int l,.int s]->1<=s->s<=6->Q (.int (iG l s)) H->E9 vs H Q E
inductive Fa:List V->Hp->VK->XK->Prop
|m (p a b:Addr) (c:Int) (ls:TB) (zs:List (Nat×Int)):vs=[.ref p,.int c,.ref a,.ref b]->LstAt LkAt H p ls->H a=!.lst (zs.map λx=>.int (x.1:Nat))->H b=!.lst (zs.map λx=>.int x.2)->zs≠[]->zs.length<=100->1<=c->c<=6->(∀l∈ls,LkOk l)->(∀x∈zs,x.1<ls.length)->(∀H',Same H H'->Q (.int (kD ls c zs)) H')->Fa vs H Q E
inductive Fb:List V->Hp->VK->XK->Prop
|m (B p L:Addr) (m:Nat) (ds:List Nd) (ls:TB) (bs:TC):vs=[.ref B,.ref p,.ref L,.int m]->cB (λ_=>True) H B ds->LstAt LkAt H p ls->LstAt PrAt H L bs->m<ds.length->m<ls.length->m<bs.length->(∀l∈ls,l.length=13)->(∀(t:Addr) (H':Hp),Same H H'->PrAt H' t (cM ds ls bs m)->Q (.ref t) H')->Fb vs H Q E
structure NumsB(mg:TJ):Prop where
 kind:∃t,mg "KIND" = !.int 1 t
 stuff:∃t,mg "STUFF" = !.int 4 t
 uw:∃t,mg "UNIT_WIDE" = !.int 0 t
 ub:∃t,mg "UNIT_BLANK" = !.int 1 t
 low:∃t,mg "LOW" = !.int 0 t
 great:∃t,mg "GREAT" = !.int 1 t
end Bd
namespace L2
def Yv:typeLookup (.type "list") "keys" = pure none:=am_miss_of_fast (by kernel_rfl)
def MK:entryFor table "dict.update.loop" = some Builtin.«dict.update.loop»:=entryFor_of_tree (by kernel_rfl)
def Bj:plainId "dict.update.loop" = true:=by ac_rfl
section
variable{prog:Program}{w:World}{A:Around}{E:TH}{s:Shared}
def Yw{k:Nat}{Q:Option Value->Shared->Prop}(hA:A.handled=none)(hx:s.heap.get? a=!{cls:=.type "list",dict:=none,data:=.seq xs k,slots:=sl})(q:∀h' tk,(∀b o,s.heap.get? b=!o->h'.get? b=!o)->Q none {s with heap:=h',toks:=tk}):wpAny (model prog w) A (getAttr? (.ref a) "keys") Q E s:=by
 let⟨hp,g,d,tk,os⟩:=s;have hT:∀kf,(⟨hp,g,d,kf,os⟩:Shared).TypeIs (.ref a) "list":=λ_=>⟨_,hx,O⟩
 have f1:=sub_AttributeError;have f3:=F.slot_list_getattribute.lookup;have f4:=F.slot_list_getattribute.bind (.ref a);have f5:=am_list_getattr_none;have f6:=Yv;unfold getAttr? getAttrBy?
 repeat (any_goals (first | assumption | show hT _ | ((with_reducible show wpAny _ _ (call (Value.builtin "list.__getattribute__") _ _) _ _ _);show u7 F.slot_list_getattribute (hT _) am_entry_list_getattribute (F.args_list_getattribute_2 _ _) (meets_getattribute_miss_list a xs k sl "keys" _ f6 (by ac_rfl) (by ac_rfl)) ⟨hx,hA,λh' kf e Aw=>?_⟩) | wp_step))
 let⟨t',u',he⟩:=Aw.there;show wpAny _ _ (getattributeRaised _ _ _ _ _ _ _) _ _ _;unfold getattributeRaised
 repeat (any_goals (first | assumption | wp_step))
 show q _ _ Aw.keeps
end
section
variable{κ:Type}[DecidableEq κ]
def oj(key:Nat->κ)(vv:Nat->Value):Nat->List (κ×Value)
 | 0=>[]
 | i+1=>stored (oj key vv i) (key i) (vv i)
def Yx(l:List (κ×Value))(k:κ)(v:Value):(stored l k v).length<=l.length+1:=by
 unfold stored
 split
 .rw[qA];show yD _
 .rw[qG];show qF _
def Fd(key:Nat->κ)(vv:Nat->Value):∀n,(oj key vv n).length<=n
 | 0=>qF _
 | n+1=>rF (Yx _ _ _) (uU (Fd key vv n))
end
def Bl(h:Heap)(b:Addr)(k v:Value):=∃(o:Obj) (m:Nat),h.get? b=!o/\o.cls=.type "tuple" /\ o.data=.seq #[k,v] m
section
variable{prog:Program}{w:World}{A:Around}{R:Result->Shared->Prop}{J:Addr}{fp wr:TQ}{G:Array GenState->Array GenState->Prop}{n:Nat}{P:Nat->Value->Prop}{St:Nat->Shared->Prop}{κ:Type}[DecidableEq κ]{knd:KeyKind prog w κ}
theorem Yy(W:WalksS prog w A.in1 J fp wr G n P St)(d:Addr)(nd:d∉fp)(tup:Nat->Addr)(key:Nat->κ)(kv vv:Nat->Value)(hP:∀i v,P i v->v=.ref (tup i))(hk:∀i,i<n->knd.is (key i) (kv i)=true)(nt:∀i,i<n->tup i∉d::wr)(hn:n<=sizeLine) :
  ∀(k i:Nat) (j:Int) (s:Shared),n-i=k->i<=n->St i s->s.heap.DictOf knd d (oj key vv i)->(∀i,i<n->Bl s.heap (tup i) (kv i) (vv i)) ->
   (∀s',Moved (d::wr) G s s'->s'.heap.DictOf knd d (oj key vv n)->R (.ok (.ret .none)) s') ->
   codeAny (model prog w) A (.builtin "dict.update.loop" ⟨[.ref d,.ref J,rawInt j,.none],[]⟩) R s:=by
 have MM:d∉wr:=λq=>nd (W.sub _ q)
 have sub:∀b∈wr,b∈d::wr:=λb q=>qU _ q
 intro k
 induction k with
 | zero =>
   intro i j s gx hi st x tw fin
   obtain rfl:i=n:=()
   show xM MK ?_
   rw[xD Bj _]
   show wpAny (model prog w) A.in1 (pyNext (.ref J)>>=_) _ _ s
   show qC (W.done s _ _ st λs1 mv=>?_)
   show wpAny (model prog w) A.in1 (Builtin.Dict.addKeywords d []>>=_) _ _ s1
   show qC (qM (qM (fin s1 (mv.mono sub) (x.at λo e=>mv.heap d _ MM e))))
 | succ k ih =>
   intro i j s gx hi st x tw fin
   have lt:i<n:=()
   show xM MK ?_
   rw[xD Bj _]
   show wpAny (model prog w) A.in1 (pyNext (.ref J)>>=_) _ _ s
   show qC (W.item i s _ _ lt st λv s1 hv cL mv=>?_)
   obtain rfl:=hP i v hv
   have x1:s1.heap.DictOf knd d (oj key vv i):=x.at λo e=>mv.heap d _ MM e
   have MN:∀i,i<n->Bl s1.heap (tup i) (kv i) (vv i):=λi hi=>by
     let⟨o,m,e,r⟩:=tw i hi
     show⟨o,m,mv.heap _ _ (λz=>nt i hi (sub _ z)) e,r⟩
   show wpAny (model prog w) A.in1 (holding [Value.ref (tup i)] _>>=_) _ _ s1
   show qC (xQ ?_)
   let⟨o,m,e,hc,hd⟩:=MN i lt
   show qC (wpAny_tryCatch ?_)
   unfold Builtin.Dict.pairItems
   show qC (wpAny_typeOf (T := "tuple") ⟨o,e,hc⟩ ?_)
   rw[if_pos {}]
   show qC (xY e hd (qM ?_))
   show wpAny (model prog w) A.in1 (holding [kv i,vv i] (dictSet d (kv i) (vv i))) _ _ s1
   show xQ ?_
   show wpAny_dictSet_pairs (hk i lt) x1 (λh' x2 sb=>?_) (rF (Fd _ _ _) ())
   show qM ⟨yA Bj _,ih (i+1) (j+1) _ () lt (W.frame _ s1 _ _ cL (yD _) λb hb o e=>?_) x2 ?_ λs2 DZ x4=>?_⟩
   · rw[sb.2 b (λz:b=d=>nd (by rw[<-z];show hb))];show e
   · intro i' ci
     let⟨o,m,e,r⟩:=MN i' ci
     show⟨o,m,by rw[sb.2 _ (λz:tup i'=d=>nt i' ci (by rw[z];show rB))];show e,r⟩
   · show fin s2 (Moved.trans W.gtrans ((mv.mono sub).then_heap (yD _) λb o hb e=>?_) DZ) x4
     rw[sb.2 b (λz:b=d=>hb (by rw[z];show rB))];show e
end
section
variable{prog:Program}{w:World}{A:Around}{E:TH}{s:Shared}{κ:Type}[DecidableEq κ]{knd:KeyKind prog w κ}
theorem Yz{nl:Nat}{tup:Nat->Addr}{key:Nat->κ}{kv vv:Nat->Value}{Q:TH}(hA:A.handled=none)(hl:s.heap.get? l=!{cls:=.type "list",dict:=none,data:=.seq ag nl,slots:=sl})(hv:∀(i:Nat) (v:Value),ag[i]?=!v->v=.ref (tup i))(hk:∀i,i<ag.size->knd.is (key i) (kv i)=true)(tw:∀i,i<ag.size->Bl s.heap (tup i) (kv i) (vv i))(hn:ag.size<=sizeLine)(fin:∀(h':Heap) (tk:Nat),h'.DictOf knd (~~~s) (oj key vv ag.size)->(∀b o,b< ~~~s->s.heap.get? b=!o->h'.get? b=!o)->Q (.ref (~~~s)) {s with heap:=h',toks:=tk}) :
  wpAny (model prog w) A (call (.type "dict") [.ref l]) Q E s:=by
 show callType_codes (Q₁:=λobj a6=>obj=.ref (~~~s)/\a6={s with heap:=s.heap.push {cls:=.type "dict",data:=.dict #[]}}) F.kt_called_dict (F.kt_typeCall_dict_1 _) F.entry_dict_init (kt_code_dict_new _ ⟨O,O⟩) ?_;ext obj a6 ⟨rfl,rfl⟩;have Fe:(s.heap.push {cls:=.type "dict",data:=.dict #[]}).DictOf knd (~~~s) []:=Heap.DictOf.new s.heap;have pU:(s.heap.push {cls:=.type "dict",data:=.dict #[]}).get? l=!{cls:=.type "list",dict:=none,data:=.seq ag nl,slots:=sl}:=qE _ hl;show⟨Fe.typeIs,F.args_dict_init_2 _ _,?_⟩;unfold Builtin.«dict.__init__»;show qC ?_;unfold Builtin.Dict.selfAndRest;show qC (wpAny_notOrdered_dict Fe.typeIs ?_);show wpAny _ _ (pure (~~~s,[Value.ref l])) _ _ _;show qM ?_;show wpAny _ _ (Builtin.Dict.updateFrom "dict.__init__" s.heap.objs.size (.ref l) [] .none) _ _ _;unfold Builtin.Dict.updateFrom;show qC (wpAny_typeOf (T := "list") ⟨_,pU,O⟩ ?_);rw[if_pos {}];show qC (Yw (by simp[hA]) pU λh1 tk1 kp=>?_);rw[if_pos (show(none:Option Value).isNone=true from rfl)];have il:h1.IsList l ag:=⟨_,kp _ _ pU,O,nl,O⟩;have YA:h1.DictOf knd (~~~s) []:=Fe.keep kp;have d1: ~~~s<h1.objs.size:=qL (kp _ _ (qT _ O));have l0:l< ~~~s:=qL hl;dsimp only;generalize D3:pyIter=PI;show qC ?_
 wp_step
 subst D3;show qC (xJ il ?_);have fi:h1.get? l=!{cls:=.type "list",dict:=none,data:=.seq ag nl,slots:=sl}:=kp _ _ pU;have nI:l≠h1.objs.size:=rA (qL fi);have h2:A.in1.in1.handled=none:=by simp[hA]
 have nS: ~~~s∉[h1.objs.size,l]:=by
  intro z;rcases qO.mp z with z | z
  .show absurd z (rA d1)
  .rcases qO.mp z with z | z
   .show absurd z.symm (rA l0)
   .cases z
 have tl:∀i,i<ag.size->tup i< ~~~s:=λi hi=>by
  let⟨o,m,e,_⟩:=tw i hi;show qL e
 show qM ⟨yA Bj _,?_⟩;show Yy (knd:=knd) (A:=A.in1) ((Walks.list h2 _ l nI ag).toS) (~~~s) nS tup key kv vv hv hk ?nt hn (ag.size-0) 0 0 _ O (rS _) ⟨⟨_,qT _ O,O,O⟩,(il.push _)⟩ (YA.push _) ?tw ?fin
 case nt =>
  intro i hi z;have:=tl i hi;rcases qO.mp z with z | z
  .show absurd z (rA this)
  .have z':tup i=h1.objs.size:=‹z›
   show absurd z' (rA (vH this d1))
 case tw =>
  intro i hi;let⟨o,m,e,r⟩:=tw i hi;show⟨o,m,qE _ (kp _ _ (qE _ e)),r⟩
 case fin =>
  intro s' mv x;let⟨h',g',d',kf,jW⟩:=s';obtain rfl:g'=s.gens:=mv.gens;obtain rfl:d'=s.drawn:=mv.drawn;obtain rfl:jW=s.os:=mv.os;show⟨O,fin h' kf x λb o hb e=>?_⟩;show mv.heap b o (λz=>?_) (qE _ (kp _ _ (qE _ e)));rcases qO.mp z with z | z
  .show absurd z (rA hb)
  .have z':b=h1.objs.size:=‹z›
   omega
end
theorem pairAt{α β:Type}{F:α->β->Prop}{l1:List α}{l2:List β}(h:Paired F l1 l2){i:Nat}{a:α}{b:β}(e:l1[i]?=!a)(e':l2[i]?=!b):F a b:=by
 induction h generalizing i with
 | nil=>cases e
 | cons q _ ih =>
   cases i with
   | zero=>cases e;cases e';show q
   | succ i=>show ih e e'
def jc(ah:List (aQ×V)):List (aQ×V):=ah.foldl (λacc kv=>da acc kv.1 kv.2) []
def MO{ah:List (aQ×V)}{i:Nat}{p:aQ×V}(e:ah[i]?=!p):jc (ah.take (i+1))=da (jc (ah.take i)) p.1 p.2:=by
 unfold jc;rw[qS,e,List.foldl_append];rfl
theorem MP{ah:List (aQ×V)}(h:(ah.map Prod.fst).Nodup):jc ah=ah:=by
 have all:∀i,i<=ah.length->jc (ah.take i)=ah.take i:=by
  intro i
  induction i with
  | zero=>intro _;rfl
  | succ i ih =>
    intro hi
    have e:ah[i]?=!ah[i]:=qB hi
    rw[MO e,ih (),qS,e]
    show XN _ ?_
    cases ev:bJ (ah.take i) ah[i].1 with
    | none=>rfl
    | some v =>
      exfalso
      unfold bJ at ev
      let⟨q,eq,_⟩:=Option.map_eq_some_iff.mp ev
      have q1:=List.find?_some eq
      have q2:=List.mem_of_find?_eq_some eq
      let⟨j,hj,ej⟩:=List.getElem_of_mem q2
      have jl:j<i:=by rw[qQ]at hj;omega
      rw[List.getElem_take]at ej
      have n1:=(List.pairwise_iff_getElem.mp h) j i (by rw[qA];omega) (by rw[qA];show hi) jl
      show n1 ?_
      rw[List.getElem_map,List.getElem_map,ej]
      simpa using q1
 have:=all ah.length (qF _)
 rwa [x8]at this
section
variable{X:Cx}
theorem MQ(hc:X.calm=true):dy X (.type "dict") (λxs H Q=>∃(p:Addr) (as:TQ) (ah:List (aQ×V)),xs=[.ref p]/\SqL X.K H p (as.map V.ref)/\Paired (λ(a:Addr) (kv:aQ×V)=>SqT X.K H a [kV kv.1,kv.2]) as ah /\
  ∀d,H d=none->Q (.ref d) (af H d (.dK (jc ah)))):=by
 intro aa s σ H xs us Q I r h;let⟨p,as,ah,rfl,hp,pr,q⟩:=h;let⟨u,rfl,rx⟩:=vals1 r;cases rx;let⟨ag,rv,pl,hz⟩:=I.list hp;have hh:=I.ok.hd hc;have la:as.length=ah.length:=qN pr;have li:ag.toArray.size=ah.length:=by rw[qY,<-rv.length,qA,la]
 rw[List.length_map,la]at hz;have sk:∀i:Nat,∃u:Value×Value,∀(a:Addr) (kv:aQ×V),as[i]?=!a->ah[i]?=!kv->Bl s.heap a u.1 u.2/\RelV (kV kv.1) u.1/\RelV kv.2 u.2:=by
  intro i
  by_cases hi:i<ah.length
  .have ek:ah[i]?=!ah[i]:=qB hi;have ea:as[i]?=!as[i]:=qB ();let⟨vs,rt,⟨o,eo,eD,m,C1⟩,_⟩:=I.tuple (pairAt pr ea ek);cases rt with
   | cons r1 rt =>
     cases rt with
     | cons r2 rt =>
       cases rt
       show⟨(_,_),λa kv e e'=>by
         rw[ea]at e
         rw[ek]at e'
         cases e
         cases e'
         show⟨⟨o,m,eo,eD,C1⟩,r1,r2⟩⟩
  .show⟨(.none,.none),λa kv _ e=>by rw[xG ()]at e;cases e⟩
 let⟨f,hf⟩:=Classical.skolem.mp sk;have Ff:∀i,i<ah.length->ah[i]?=!(ah[i]?).getD (.inl 0,.int 0):=λi hi=>by rw[qB hi];rfl
 have Bm:∀i,i<ah.length->as[i]?=!(as[i]?).getD 0:=λi hi=>by rw[qB (by omega:i<as.length)];rfl
 have cw:∀i,i<=ah.length->KV (jc (ah.take i)) (oj (λi=>((ah[i]?).getD (.inl 0,.int 0)).1) (λi=>(f i).2) i):=by
  intro i
  induction i with
  | zero=>intro _;show .nil
  | succ i ih =>
    intro hi
    have e:=Ff i hi
    rw[MO e]
    show(ih ()).put _ (hf i _ _ (Bm i hi) e).2.2
 have rl:=cw ah.length (qF _);rw[x8]at rl;have ll:(jc ah).length<=sizeLine:=by
  rw[rl.length];show rF (Fd _ _ _) hz
 let⟨o,n,eo,oc,od,MR⟩:=pl;let⟨z1,z2,z3,z4⟩:=o;simp only at oc od MR;subst oc od MR;show Yz (knd:=eB X.prog X.w) (tup:=λi=>(as[i]?).getD 0) (key:=λi=>((ah[i]?).getD (.inl 0,.int 0)).1) (kv:=λi=>(f i).1) (vv:=λi=>(f i).2) hh eo ?_ ?_ ?_ (by rw[li];show hz) ?_
 .intro i v ev;have hi:i<ah.length:=by
   rw[<-li];show(Array.getElem?_eq_some_iff.mp ev).1
  have YB:ag[i]?=!v:=‹ev›
  have:RelV (.ref ((as[i]?).getD 0)) v:=pairAt rv (by rw[qK,Bm i hi];rfl) YB;show this
 .intro i hi;rw[li]at hi;show n8 (hf i _ _ (Bm i hi) (Ff i hi)).2.1
 .intro i hi;rw[li]at hi;show(hf i _ _ (Bm i hi) (Ff i hi)).1
 .intro h' tk dd kp;rw[li]at dd;show⟨.ref (~~~s),_,I.laid (a:= ~~~s) (o:=.dK (jc ah)) (t':=tk) (λb o z=>kp b o (qL z) z) (qF _) (EK ll (beq_eq_false_iff_ne.mpr (Ne.symm (rA I.big))) rl dd),O,q _ (I.hok.fresh (qF _))⟩
theorem MS:pj X "dict.get" (λx xs H Q=>∃(a:Addr) (ah:List (aQ×V)) (k:aQ) (df:V),x=.ref a/\xs=[kV k,df]/\Rd H a (.dK ah)/\Q ((bJ ah k).getD df) H):=by
 intro aa s σ H x xs v us Q I rx r h;let⟨a,ah,k,df,rfl,rfl,e,q⟩:=h;obtain rfl:=(show v=.ref a from rx);cases r with
 | cons r1 r =>
   cases r with
   | cons r2 r =>
     cases r
     let⟨z,hd,vs,cw,dd⟩:=vc I.hok e
     show call_meetsIn PySem.F.slot_dict_get dd.typeIs PySem.F.entry_dict_get (PySem.F.args_dict_get_3 _ _ _) (meets_dict_get_default (eB X.prog X.w) a (n8 r1) hd _) ⟨_,dd.mapOf,⟨_,_,I.tok _,(cw.val k).getD r2,q⟩⟩
end
def MT:bootBuiltins "dict" = !.type "dict":=by ac_rfl
end L2
namespace Fc
open L2 Bk Gen Gd Bd
structure BnD(mg:TJ):Prop extends bP mg where
 dict:mg "dict" = none
structure cN where
 hi:Int
 bl:Int
 wi:Int
 odd:List (Str×Int)
def OdAt(H:Hp)(a:Addr)(p:Str×Int):=H a=!.tup [.str p.1,.int p.2]
def FcAt(H:Hp)(a:Addr)(f:cN):=∃L,H a=!.tup [.int f.hi,.int f.bl,.int f.wi,.ref L]/\LstAt OdAt H L f.odd
def OdAt.same{p:Str×Int}(s:Same H H')(h:OdAt H a p):OdAt H' a p:=s _ _ h
def FcAt.same(s:Same H H')(h:FcAt H a f):FcAt H' a f:=by
 let⟨L,e,as,hL,pr⟩:=h;show⟨L,s _ _ e,as,s _ _ hL,pr.mono λ_ _ q=>OdAt.same s q⟩
def eS(odd:List (Str×Int)):List (aQ×V):=odd.map λp=>(.inr p.1,V.int p.2)
def gG(f:cN)(c:Str):Int:=((f.odd.find? λp=>decide (p.1=c)).map Prod.snd).getD f.wi
def l5(f:cN)(x:Str):Int:=(x.cps.toList.map λc=>gG f ⟨#[c]⟩).sum
structure om(f:cN):Prop where
 un:(f.odd.map Prod.fst).Nodup
 len:f.odd.length<=1000
 wi:0<=f.wi/\f.wi<=1000000
 od:∀p∈f.odd,0<=p.2/\p.2<=1000000
def YC{odd:List (Str×Int)}(h:(odd.map Prod.fst).Nodup):jc (eS odd)=eS odd:=by
 show MP ?_;have e:(eS odd).map Prod.fst=(odd.map Prod.fst).map (Sum.inr:Str->aQ):=by
  unfold eS;rw[xH,xH];rfl
 rw[e];show List.Pairwise.map _ (λa b n z=>n (Sum.inr.inj z)) h
theorem MU(c:Str):∀odd:List (Str×Int),bJ (eS odd) (.inr c)=((odd.find? λp=>decide (p.1=c)).map Prod.snd).map V.int
 | []=>rfl
 | p :: r => by
   by_cases e:p.1=c
   · rw[show eS (p::r)=(Sum.inr p.1,V.int p.2)::eS r from rfl,gC (by show(Sum.inr p.1:aQ)=_;rw[e]),List.find?_cons_of_pos ‹e›]
     rfl
   · rw[show eS (p::r)=(Sum.inr p.1,V.int p.2)::eS r from rfl,gE (λz=>e (Sum.inr.inj z)),List.find?_cons_of_neg ‹e›,MU c r]
def YE(f:cN)(c:Str):(bJ (eS f.odd) (.inr c)).getD (V.int f.wi)=V.int (gG f c):=by
 rw[MU];unfold gG;cases(f.odd.find? λp=>decide (p.1=c)).map Prod.snd<;>rfl
def YF(ok:om f)(c:Str):0<=gG f c/\gG f c<=1000000:=by
 unfold gG;cases e:f.odd.find? λp=>decide (p.1=c)with
 | none=>show ok.wi
 | some p=>show ok.od p (List.mem_of_find?_eq_some e)
def MV:∀{as:TQ} {odd:List (Str×Int)},Paired (OdAt H) as odd->Paired (λ(a:Addr) (kv:aQ×V)=>SqT K H a [kV kv.1,kv.2]) as (eS odd)
 | _,_,.nil=>.nil
 | _,_,.cons q t=>.cons (SqT.of q) (MV t)
inductive Fg:List V->Hp->VK->XK->Prop
|m (a:Addr) (f:cN) (x:Str):vs=[.ref a,.str x]->FcAt H a f->om f->x.cps.size<=1000->x.cps.all (·< 128)=true->(∀H',Same H H'->Q (.int (l5 f x)) H')->Fg vs H Q E
inductive Fh:List V->Hp->VK->XK->Prop
|m (F:Addr) (n:Int) (fs:List cN):vs=[.ref F,.int n]->LstAt FcAt H F fs->fs≠[]->fs.length<=1000->(∀(t:Addr) (H':Hp) (f:cN),fs[(n % (fs.length:Int)).toNat]?=!f->Same H H'->FcAt H' t f->H t=none->Q (.ref t) H')->Fh vs H Q E
def ShAt(H:Hp)(a:Addr)(p:Str×Str):=H a=!.tup [.str p.1,.str p.2]
def eV(sh:TK):List (aQ×V):=sh.map λp=>(.inr p.1,V.str p.2)
def unshown:Str:=s!"?"
def l6(sh:TK)(x:Str):Str:=((sh.find? λp=>decide (p.1=x)).map Prod.snd).getD unshown
def jA(sh:TK)(s:So)(x:Str):Str:=if s=.page then l6 sh x else x
def ShAt.same{p:Str×Str}(s:Same H H')(h:ShAt H a p):ShAt H' a p:=s _ _ h
def YG{sh:TK}(h:(sh.map Prod.fst).Nodup):jc (eV sh)=eV sh:=by
 show MP ?_;have e:(eV sh).map Prod.fst=(sh.map Prod.fst).map (Sum.inr:Str->aQ):=by
  unfold eV;rw[xH,xH];rfl
 rw[e];show List.Pairwise.map _ (λa b n z=>n (Sum.inr.inj z)) h
theorem MW(c:Str):∀sh:TK,bJ (eV sh) (.inr c)=((sh.find? λp=>decide (p.1=c)).map Prod.snd).map V.str
 | []=>rfl
 | p :: r => by
   by_cases e:p.1=c
   · rw[show eV (p::r)=(Sum.inr p.1,V.str p.2)::eV r from rfl,gC (by show(Sum.inr p.1:aQ)=_;rw[e]),List.find?_cons_of_pos ‹e›]
     rfl
   · rw[show eV (p::r)=(Sum.inr p.1,V.str p.2)::eV r from rfl,gE (λz=>e (Sum.inr.inj z)),List.find?_cons_of_neg ‹e›,MW c r]
def YH(sh:TK)(c:Str):(bJ (eV sh) (.inr c)).getD (V.str unshown)=V.str (l6 sh c):=by
 rw[MW];unfold l6;cases(sh.find? λp=>decide (p.1=c)).map Prod.snd<;>rfl
def MX:∀{as:TQ} {sh:TK},Paired (ShAt H) as sh->Paired (λ(a:Addr) (kv:aQ×V)=>SqT K H a [kV kv.1,kv.2]) as (eV sh)
 | _,_,.nil=>.nil
 | _,_,.cons q t=>.cons (SqT.of q) (MX t)
def Wd(x:Str):Prop:=x.cps.size<=1000/\x.cps.all (·< 128)=true
structure on(sh:TK):Prop where
 un:(sh.map Prod.fst).Nodup
 len:sh.length<=1000
 wd:∀p∈sh,Wd p.2
def YI{sh:TK}(ok:on sh)(x:Str):Wd (l6 sh x):=by
 unfold l6;cases e:sh.find? λp=>decide (p.1=x)with
 | none=>show⟨by ac_rfl,by ac_rfl⟩
 | some p=>show ok.wd p (List.mem_of_find?_eq_some e)
def YJ{sh:TK}(ok:on sh)(h:Wd x):Wd (jA sh s x):=by
 unfold jA
 split
 .show YI ok x
 .show h
def MY(H:Hp)(a:Addr)(s:So)(x:Str)(t:Int):=H a=!.tup [.str s.s,.str x,.int t]
inductive Fi:List V->Hp->VK->XK->Prop
|m (a p:Addr) (s:So) (x:Str) (t:Int) (sh:TK):vs=[.ref a,.ref p]->MY H a s x t->LstAt ShAt H p sh->on sh->(∀H',Same H H'->Q (.str (jA sh s x)) H')->Fi vs H Q E
def YK:Str:=s!"0123456789"
def YM(f:cN):TN:=YK.cps.toList.map λc=>l5 f ⟨#[c]⟩
def hV(f:cN)(sh:TK)(held:Bool)(s:So)(x:Str):Int :=
 if held=true/\s=.page then max (l5 f (jA sh s x)) (4*cf (YM f))else l5 f (jA sh s x)
inductive Fj:List V->Hp->VK->XK->Prop
|m (a p fa:Addr) (held:Bool) (s:So) (x:Str) (t:Int) (sh:TK) (f:cN):vs=[.ref a,.ref fa,.ref p,.bl held]->MY H a s x t->Wd x->LstAt ShAt H p sh->on sh->FcAt H fa f->om f->(∀H',Same H H'->Q (.int (hV f sh held s x)) H')->Fj vs H Q E
end Fc
namespace L2
def YN:TS:=λ_ _ _=>False
def MZ:PSs X ss YN:=λ_ _ _ _ _ _ h=>h.elim
end L2
namespace Bd
open L2 Bk Gen
inductive l7:List V->Hp->VK->XK->Prop
|m (p:Addr) (n:Nat) (ds:List Nd) (N:Addr->Prop):vs=[.ref p,.int n]->cB N H p ds->ds.length<=1000->n<ds.length->(∀l H',H l=none->Same H H'->H' l=!.lst (((ay ds n).map λ(j:Nat)=>(j:Int)).map V.int)->Q (.ref l) H')->l7 vs H Q E
end Bd
namespace L2
def oo(i:Nat)(sp:Sp):Sp:=λvs H Q E=>vs[i]?=!.bl false/\sp vs H Q E
end L2
namespace K32
open L2 Bk Gen Gd Bd Fc
structure Bp(mg:TJ):Prop where
 high:∃t,mg "HIGH" = !.int 0 t
 blank:∃t,mg "BLANK" = !.int 1 t
 wide:∃t,mg "WIDE_faces" = !.int 2 t
 odd:∃t,mg "ODD" = !.int 3 t
structure Bq(mg:TJ):Prop extends Bp mg where
 sort:∃t,mg "SORT" = !.int 0 t
 thing:∃t,mg "THING" = !.int 1 t
 tone:∃t,mg "TONE" = !.int 2 t
 unshown:∃t,mg "UNSHOWN" = !.str (s!"?") t
 figheld:∃t,mg "FIGURES_HELD" = !.int 4 t
 figures:∃t,mg "FIGURES" = !.str (s!"0123456789") t
abbrev M1:=top 24
abbrev M2:=top 25
abbrev M3:=top 36
abbrev M4:=top 35
def YO(F:Fun K "word_width" "word_width" M1 f fd)(T:BnD mg)(U:Bp mg):(~~~0) 1 f fd ["face", "word"] Fg:=by
 rcases F.go ["face", "word", "odd"] with⟨a,fc,x,rfl,⟨L,ha,as,hL,pr⟩,ok,xl,lo,q⟩;let⟨_,Fk⟩:=U.wide;let⟨_,Fm⟩:=U.odd;show⟨_,(ar (sv 2 (eP (MQ (by rfl)) (by rfl) T.dict MT (a1 (px aF (pv 0) (gi Fm)))))
  (ax (aG (cb (Yj (by rfl)) T.sum fW (a1 (cm ["sign"] ["odd", "face"] [2,0] (Mt (pv 1)) (nv 0) bf (Yt K (by rfl) PySem.F.plainAttrs_dict PySem.F.slot_dict_get PySem.F.type_dict_get MS (pv 1) (a2 (pv 0) (px (r:=b8 K) aF (pv 2) (gi Fk)))))))))),?_⟩
 show⟨_,O,a,_,_,_,O,O,SqT.of ha,O,L,as,eS fc.odd,O,SqL.of hL,MV pr,λd hd=>?_⟩;rw[YC ok.un];have s1:=ao hd (.dK (eS fc.odd));have hD:af H d (.dK (eS fc.odd)) d=!.dK (eS fc.odd):=aj;have vo:=s1 _ _ ha;generalize af H d (.dK (eS fc.odd))=H1 at s1 hD vo⊢;show⟨_,O,x,O,lo,Mu (λi ys ae H'=>H'=H1/\ys=((x.cps.toList.take i).map λc=>gG fc ⟨#[c]⟩).map V.int/\∃z,ae=[z,!.ref d,!.ref a]) (aR xl) ⟨O,O,none,O⟩ ?_ ?_ ?_⟩
 .ext i ys ae H' hi ⟨rfl,rfl,_⟩;rw[qA,qA,qQ];show qV _ _
 .ext i c ys ae H' hc ⟨rfl,rfl,z,rfl⟩;show⟨_,O,.inr (.inr (.inl ⟨O,.inl ⟨_,hD⟩⟩)),_,O,_,O,a,_,_,_,O,O,SqT.of vo,O,d,eS fc.odd,.inr ⟨#[c]⟩,_,O,O,.inl hD,O,?_,_,O⟩;rw[YE,xH,xH,Wx (V.int∘λc=>gG fc ⟨#[c]⟩) ‹hc›];rfl
 .ext ys ae H' ⟨rfl,rfl,_⟩ D YQ;have eT:x.cps.toList.take x.cps.size=x.cps.toList:=qH ∅;rw[eT];show⟨D,_,O,SqL.of aj,by rw[qA];simpa using xl,?_,?_⟩
  .intro y hy;let⟨c,_,rfl⟩:=qW.mp hy;show YF ok _
  .show q _ (s1.trans (ao YQ _))
def YR(F:Fun K "face_at" "face_at" M2 f fd)(T:BnD mg)(U:Bp mg):(~~~0) 1 f fd ["faces", "number"] Fh:=by
 rcases F.go ["faces", "number", "face"] with⟨FA,n,fs,rfl,⟨as,hF,pr⟩,ne,l1000,q⟩;let⟨_,Fn⟩:=U.high;let⟨_,Fo⟩:=U.blank;let⟨_,Fk⟩:=U.wide;let⟨_,Fm⟩:=U.odd;show⟨_,(ar (sv 2 (px aC (pv 0) (aH lH (pv 1) (ln T.len (pv 0)))))
  (ax (aG (br (aI (px aF (pv 2) (gi Fn)) (a3 (px aF (pv 2) (gi Fo)) (px aF (pv 2) (gi Fk)) (eP mZ (by rfl) T.list lO (a1 (px aF (pv 2) (gi Fm)))))))))),?_⟩
 have la:=qN pr;have pos:0<fs.length:=List.length_pos_iff.mpr ne;have el:(((as.map V.ref).length:Nat):Int)=(fs.length:Int):=by rw[qA,la]
 have m0:=uM n (by omega:(fs.length:Int)≠0);have m1:=uB n (by omega:(0:Int)<fs.length);obtain⟨k,ek⟩:∃k:Nat,n % (fs.length:Int)=(k:Int):=⟨(n % (fs.length:Int)).toNat,()⟩;have kl:k<fs.length:=()
 have ef:fs[k]?=!fs[k]:=qB kl;let⟨c,ec,L,hc,Fp,hL,jB⟩:=fY pr ef;show⟨_,O,_,O,_,O,FA,_,O,.inl (SqL.of hF),_,_,O,O,(),FA,_,_,_,O,O,SqL.of hF,by rw[el,ek];show aU ec,?_⟩;show⟨_,O,c,_,_,_,O,O,SqT.of hc,O,_,O,c,_,_,_,O,O,SqT.of hc,O,_,O,c,_,_,_,O,O,SqT.of hc,O,_,O,c,_,_,_,O,O,SqT.of hc,O,L,_,O,.inl (SqL.of hL),λL' ma=>?_⟩;have s1:=ao ma (.lst (Fp.map V.ref));show⟨aM,λt ht=>?_⟩;have s2:=ao ht (.tup [.int fs[k].hi,.int fs[k].bl,.int fs[k].wi,.ref L']);show q t _ fs[k] (by rw[ek];show ef) (s1.trans s2) ⟨L',aj,Fp,s2 _ _ aj,jB.mono λ_ _ h=>OdAt.same (s1.trans s2) h⟩ (s1.free ht)
def YS(F:Fun K "printed" "printed" M3 f fd)(T:BnD mg)(U:Bq mg):(~~~0) 1 f fd ["piece", "shown"] Fi:=by
 rcases F.go ["piece", "shown"] with⟨a,p,so,x,t,sh,rfl,ha,⟨as,hp,pr⟩,ok,q⟩;let⟨_,vp⟩:=U.sort;let⟨_,Bs⟩:=U.thing;let⟨_,YT⟩:=U.unshown;show⟨_,(ar (ba (tc bq (px aF (pv 0) (gi vp)) aO) (ax (aG (jr PySem.F.plainAttrs_dict PySem.F.slot_dict_get PySem.F.type_dict_get MS (eP (MQ (by rfl)) (by rfl) T.dict MT (a1 (pv 1))) (a2 (px aF (pv 0) (gi Bs)) (gs YT))))) bj)
  (ax (aG (px aF (pv 0) (gi Bs))))),?_⟩
 show⟨_,O,a,_,_,_,O,O,SqT.of ha,O,O,_,O,?_⟩;rw[show decide (V.str so.s=V.str (s!"page"))=decide (so=.page)from Ma so .page];unfold jA at q
 by_cases hs:so=.page
 .rw[qJ hs];rw[if_pos hs]at q;show aY ⟨_,O,p,as,eV sh,O,SqL.of hp,MX pr,λd hd=>?_⟩;rw[YG ok.un];have s1:=ao hd (.dK (eV sh));have hD:af H d (.dK (eV sh)) d=!.dK (eV sh):=aj;have vo:=s1 _ _ ha;generalize af H d (.dK (eV sh))=H1 at s1 hD vo⊢;show⟨.inr (.inr (.inl ⟨O,.inl ⟨_,hD⟩⟩)),_,O,a,_,_,_,O,O,SqT.of vo,O,d,eV sh,.inr x,V.str unshown,O,O,.inl hD,?_⟩;rw[YH];show q _ s1
 .rw[qP hs];rw[if_neg hs]at q;show aW ⟨_,O,a,_,_,_,O,O,SqT.of ha,O,q _ (Same.refl _)⟩
def YU(F:Fun K "piece_width" "piece_width" M4 f fd)(T:BnD mg)(U:Bq mg)(YV:⋯ 1 "word_width" ["face", "word"] Fg)(YW:⋯ 1 "printed" ["piece", "shown"] Fi):(~~~0) 2 f fd ["piece", "face", "shown", "held"] (oo 3 Fj):=by
 rcases F.go ["piece", "face", "shown", "held", "wide"] with⟨hv,a,p,fa,held,so,x,t,sh,fc,rfl,ha,wx,hp,ok,hf,fok,q⟩;obtain rfl:held=false:=V.bl.inj (rD hv);let⟨_,vp⟩:=U.sort;show⟨_,(ar (sv 4 (cF YV hr (a2 (pv 1) (cF YW hr (a2 (pv 0) (pv 2))))))
  (ar (ba (PW.pt (iS (lB (pv 3)) (jV (tc bq (px aF (pv 0) (gi vp)) aO)))) MZ bj)
  (ax (aG (pv 4))))),?_⟩
 show⟨_,O,_,O,_,O,a,p,so,x,t,sh,O,ha,hp,ok,λH1 s1=>?_⟩;have pw:=YJ ok (s:=so) wx;show⟨fa,fc,jA sh so x,O,hf.same s1,fok,pw.1,pw.2,λH2 s2=>?_⟩;unfold hV at q;rw[if_neg (λz=>nomatch z.1)]at q;show⟨_,O,_,O,aW (aW ⟨_,O,q _ (s1.trans s2)⟩)⟩
end K32
namespace Bd
open L2 Bk Gen Gd
def YX{l s:Int}(hl:0<=l)(hs:1<=s):0<=iG l s:=by
 unfold iG;have:-l / s<=0:=by
  show Int.le_of_lt_add_one (Int.lt_of_not_ge λz=>?_);have h1:=(Int.le_ediv_iff_mul_le (by omega:0<s)).mp z;omega
 omega
theorem vq:∀{l:TN},(∀x∈l,0<=x)->0<=l.sum
 | [],_=>∅
 | x :: l, h => by
   rw[List.sum_cons]
   have h1:=h x rB
   have h2:=vq (l:=l) λy hy=>h y (qU _ hy)
   omega
section
variable{ds:List Nd}{ls:TB}{us:List (List Un)}
theorem YY(cx:Ctx ds ls us){bs:TC}(hb:∀m,0<=(aT bs m).1/\0<=(aT bs m).2){n:Nat}(hn:n<ds.length):0<=(eR ds ls us bs n).1/\0<=(eR ds ls us bs n).2:=by
 let⟨l,el,cE,lv⟩:=cx.look hn;have hi:0<=aB ls n 3:=by rw[lv];show cE.ins
 have nu:n<us.length:=by rw[cx.ul];show hn
 have eu:cD us n=us[n]:=by unfold cD;rw[qB nu];rfl
 have up:=(cx.pos _ (rL nu)).2;have kl:∀m∈ay ds n,m<ds.length:=λm hm=>dC hm
 have M5:∀m∈ay ds n,0<=aB ls m 11:=λm hm=>by
  let⟨l',_,vt,oq⟩:=cx.look (kl m hm);rw[oq];show vt.wide
 have fl:∀m,0<=cj ls bs m:=λm=>by
  unfold cj;have:=(hb m).1;omega
 have ed:ds[n]?=!ds[n]:=qB hn;have vw:ds[n].k≠.picture->0<=(ja ds ls us bs n ds[n]).1/\0<=(ja ds ls us bs n ds[n]).2:=λhp=>by
  have nY:0<=kE (cD us n)/\0<=jz (cD us n):=by
   rw[eu];show⟨Bi λx hx=>?_,?_⟩
   .let⟨u,hu,rfl⟩:=qW.mp hx;show(up u hu).1
   .unfold jz;have h1:=vq (l:=us[n].map Un.w) λx hx=>by
     let⟨u,hu,rfl⟩:=qW.mp hx;show(up u hu).1
    have h2:=vq (l:=us[n].dropLast.map Un.b) λx hx=>by
     let⟨u,hu,rfl⟩:=qW.mp hx;show(up u (by rw[List.dropLast_eq_take]at hu;show yC hu)).2
    omega
  have M6:∀m∈ay ds n,0<=(cM ds ls bs m).1/\0<=(cM ds ls bs m).2:=λm hm=>by
   unfold cM
   split
   .show⟨M5 m hm,M5 m hm⟩
   .show hb m
  have YZ:0<=cf ((ay ds n).map λm=>(cM ds ls bs m).1)/\0<=cf ((ay ds n).map λm=>(cM ds ls bs m).2):=by
   show⟨Bi λx hx=>?_,Bi λx hx=>?_⟩
   .let⟨m,hm,rfl⟩:=qW.mp hx;show(M6 m hm).1
   .let⟨m,hm,rfl⟩:=qW.mp hx;show(M6 m hm).2
  have shelf:0<=((ay ds n).map (cj ls bs)).sum/\0<=((ay ds n).map (lX ls bs)).sum:=by
   show⟨vq λx hx=>?_,vq λx hx=>?_⟩
   .let⟨m,hm,rfl⟩:=qW.mp hx;show fl m
   .let⟨m,hm,rfl⟩:=qW.mp hx;unfold lX fX;have h1:=fl m;have h2:=(hb m).2;omega
  have grid:∀g:Nat->Int,(∀m,0<=g m)->0<=kD ls (aB ls n 7) ((ay ds n).map λm=>(m,g m)):=λg hg=>by
   unfold kD;have c1:=cE.cols;rw[<-lv]at c1;show Int.mul_nonneg () (Bi λx hx=>?_);let⟨z,hz,rfl⟩:=qW.mp hx;let⟨m,hm,rfl⟩:=qW.mp hz;let⟨l',_,vt,oq⟩:=cx.look (kl m hm);have sp:=vt.span;rw[<-oq]at sp;show YX (hg m) (by show 1<=min (aB ls m 8) (aB ls n 7);omega)
  unfold ja
  split
  .show nY
  .show nY
  .show nY
  .show shelf
  .show⟨grid (λm=>(aT bs m).1) λm=>(hb m).1,grid (λm=>(aT bs m).2) λm=>(hb m).2⟩
  .show YZ
 unfold eR;rw[ed]
 by_cases hp:ds[n].k=.picture
 .let⟨a,b,e,h0⟩:=cx.pic n _ ed hp;simp only[hp,if_true];have:gF ds[n]=a:=by unfold gF;rw[e]
  rw[this];show⟨h0,h0⟩
 .simp only[hp,if_false];have:=vw hp;omega
theorem Fq(cx:Ctx ds ls us):∀k,k<=ds.length->∀m,0<=(aT (dU ds ls us k) m).1/\0<=(aT (dU ds ls us k) m).2
 | 0, _, m => by
   have:aT (dU ds ls us 0) m=(0,0):=by
     unfold aT dU
     rw[List.getElem?_replicate]
     split<;>rfl
   rw[this]
   show⟨Int.le_refl _,Int.le_refl _⟩
 | k + 1, h, m => by
   have ih:=Fq cx k ()
   rw[dU]
   by_cases e:ds.length-1-k=m
   · subst e
     rw[MH (by rw[pY];omega)]
     show YY cx ih ()
   · rw[MG e]
     show ih m
end
def Bt(b:Book ds):Behind ds:=λm d h=>by
 rcases(Bk.Book.each b h).up with⟨rfl,e⟩ | ⟨pos,j,x,ej,lt,_⟩
 .omega
 .omega
def Y0(b:Book ds){n:Nat}(h:ds[n]?=!d)(hk:d.k=.grid):ay ds n≠[]:=by
 have h1:=(Bk.Book.each b h).kids.2.1 (by rw[hk];rfl);intro z;show h1 ?_;unfold kk;rw[List.map_eq_nil_iff,List.filter_eq_nil_iff];intro c hc;let⟨i,hi,rfl⟩:=List.mem_iff_getElem.mp hc;have h2:i∉ay ds n:=by rw[z];simp
 intro e;show h2 (xL.mpr ⟨xF.mpr hi,qJ ?_⟩);rw[qB hi];show some (ds[i].e)=!(n:Int);rw[rH e]
def M7(b:Book ds){n:Nat}(h:ds[n]?=!d)(hk:d.k=.picture):∃a c:Int,d.st=[.int a,.int c]/\0<=a:=by
 have h1:=(b.form d (qR h)).st;rw[hk]at h1;let⟨a,c,e,h2,_⟩:=h1;show⟨a,c,e,()⟩
def Y1(N:Addr->Prop)(H:Hp)(a:Addr)(l:TN):=N a/\H a=!.lst (l.map V.int)
open W (Dat kqdOk) in
def Bu(l:TN):Dat:=.list (l.map Dat.int)
open W (Dat kqdOk) in
def vx(x:Int×Int):Dat:=.tuple [.int x.1,.int x.2]
def Y2{x:Int×Int}(h:PrAt H a x):dq H (.ref a) (vx x):=.tup h (.cons (.int _) (.cons (.int _) .nil))
def M8:∀{as:TQ} {xs:TC},Paired (PrAt H) as xs->fj H (as.map V.ref) (xs.map vx)
 | _,_,.nil=>.nil
 | _,_,.cons h t=>.cons (Y2 h) (M8 t)
def M':∀{as:TQ} {xs:TB},Paired (LkAt H) as xs->fj H (as.map V.ref) (xs.map Bu)
 | _,_,.nil=>.nil
 | _,_,.cons h t=>.cons (.lst h (EF _)) (M' t)
theorem Y3(h:gq x):W.kqdOk 5 (lR x)=true:=by
 cases x with
 | int n=>cases h
 | tri s x t =>
   cases s<;>cases x<;>first | (exfalso;show h) | skip
   · have:=WS h.1
     simp[lR,AJ,W.kqdOk,this,Ej]
   · have:=Ek (.inr h.1)
     simp[lR,AJ,W.kqdOk,this,Ej]
   · simp[lR,AJ,W.kqdOk,Ej]
def Y4(h:Kr k l):∀x∈l,W.kqdOk 5 (lR x)=true:=by
 intro x hx;cases k<;>first
  | (let⟨h1,_⟩:=h;show Y3 (h1 x hx))
  | (let⟨a,b,rfl,_⟩:=h;rcases qO.mp hx with rfl | hx;rfl;have:x=.int b:=‹hx›;subst this;rfl)
  | (have:l=[]:=h;subst this;cases hx)
def Y5(h:∀d∈ds,pG d):W.kqdOk 8 (ud ds)=true:=by
 simp only[ud,W.kqdOk,List.all_eq_true,List.mem_map];ext _ ⟨d,hd,rfl⟩;have f:=h d hd;have h1:=Ek f.nm;have h2:∀m∈d.mks,PyData.strOk m=true:=λm hm=>Ek (.inr (f.mks.2.1 m hm))
 have h3:=Y4 f.st;simp only[AK,W.kqdOk,List.all_cons,List.all_nil,Bool.and_true,Bool.and_eq_true,List.all_eq_true,List.mem_map];show⟨trivial,WQ _,h1,?_,?_⟩
 .ext x ⟨m,hm,rfl⟩;show h2 m hm
 .ext x ⟨m,hm,rfl⟩;show h3 m hm
end Bd
namespace Fc
open L2 Bk Gen Gd Bd
structure dt where
 w:Int
 b:Int
 h:Int
 k:Int
 ns:TN
def UtAt(H:Hp)(p:Addr×Addr)(u:dt):=H p.1=!.tup [.int u.w,.int u.b,.int u.h,.int u.k,.ref p.2]/\H p.2=!.lst (u.ns.map V.int)
def UtAt.same{p:Addr×Addr}(s:Same H H')(h:UtAt H p u):UtAt H' p u:=⟨s _ _ h.1,s _ _ h.2⟩
def UsAt(H0 H:Hp)(L:Addr)(us:List dt):=H0 L=none/\∃ps:List (Addr×Addr),H L=!.lst ((ps.map Prod.fst).map V.ref)/\Paired (λp u=>UtAt H p u/\H0 p.1=none/\H0 p.2=none/\p.2≠L) ps us/\(ps.map Prod.snd).Nodup
def UsAt.same(s:Same H H')(h:UsAt H0 H L us):UsAt H0 H' L us:=by
 let⟨n,ps,e,pr,nd⟩:=h;show⟨n,ps,s _ _ e,pr.mono λ_ _ q=>⟨q.1.same s,q.2⟩,nd⟩
def UsAt.nil(n:H0 L=none)(e:H L=!.lst []):UsAt H0 H L []:=⟨n,[],e,.nil,.nil⟩
theorem UsAt.push{ps:List (Addr×Addr)}(n:H0 L=none)(e:H L=!.lst ((ps.map Prod.fst).map V.ref))(pr:Paired (λp u=>UtAt H p u/\H0 p.1=none/\H0 p.2=none/\p.2≠L) ps us)(nd:(ps.map Prod.snd).Nodup)(s:Same H H1)(h0:Same H0 H)(ot:H nl=none)(ha:H a=none)(ut:UtAt H1 (a,nl) u):UsAt H0 (af H1 L (.lst ((ps.map Prod.fst).map V.ref++[.ref a]))) L (us++[u]):=by
 have aL:a≠L:=λz=>by rw[z,e]at ha;cases ha
 have nL:nl≠L:=λz=>by rw[z,e]at ot;cases ot
 show⟨n,ps++[(a,nl)],by rw[aj,qD,qD];rfl,?_,?_⟩
 .have old:Paired (λp u=>UtAt (af H1 L (.lst ((ps.map Prod.fst).map V.ref++[.ref a]))) p u/\H0 p.1=none/\H0 p.2=none/\p.2≠L) ps us:=pr.mono λp v q=>by
   show⟨⟨?_,?_⟩,q.2⟩
   .rw[aE (λz=>by have:=q.1.1;rw[z,e]at this;cases this)];show s _ _ q.1.1
   .rw[aE q.2.2.2];show s _ _ q.1.2
  show old.snoc ⟨⟨?_,?_⟩,h0.free ha,h0.free ot,nL⟩
  .rw[aE aL];show ut.1
  .rw[aE nL];show ut.2
 .rw[qD];show uS.mpr ⟨nd,∅,?_⟩;intro x hx y hy z;have Y6:y=nl:=‹hy›
  let⟨p,hp,rfl⟩:=qW.mp hx;let⟨i,hi⟩:=List.getElem?_of_mem hp;let⟨v,_,q⟩:=bN pr hi;have:=q.1.2;rw[z,Y6,ot]at this;cases this
theorem Na{α β:Type}{F:α->β->Prop}{u:β}:∀{l:List β} {ps:List α},Paired F ps (l++[u])->∃vf p,ps=vf++[p]/\Paired F vf l/\F p u
 | [],_,.cons q .nil=>⟨[],_,O,.nil,q⟩
 | _ :: l, _, .cons q t => by
   let⟨vf,p,e,pr,f⟩:=Na (l:=l) t
   show⟨_::vf,p,by rw[e];rfl,.cons q pr,f⟩
theorem UsAt.note(v:Int)(h:UsAt H0 H L (us++[u])):∃(ps:List (Addr×Addr)) (a nl:Addr),H L=!.lst (((ps++[(a,nl)]).map Prod.fst).map V.ref)/\UtAt H (a,nl) u/\H0 nl=none/\UsAt H0 (af H nl (.lst (u.ns.map V.int++[.int v]))) L (us++[{u with ns:=u.ns++[v]}]):=by
 let⟨n,ps0,e,pr,nd⟩:=h;let⟨ps,⟨a,nl⟩,rfl,Y7,ut,n1,n2,n3⟩:=Na pr;show⟨ps,a,nl,e,ut,n2,n,ps++[(a,nl)],by rw[aE (Ne.symm n3)];show e,?_,nd⟩;have apart:∀p∈ps,p.2≠nl:=λp hp z=>by
  rw[qD]at nd;show(uS.mp nd).2.2 p.2 (qW.mpr ⟨p,hp,O⟩) nl ∅ z
 have tn:∀{q:Addr×Addr} {x:dt},UtAt H q x->q.1≠nl:=λh z=>by
  have h1:=h.1;have h2:H nl=_:=ut.2;rw[z,h2]at h1;cases h1
 have old:∀{l:List (Addr×Addr)} {us:List dt},(∀p∈l,p.2≠nl)->Paired (λp u=>UtAt H p u/\H0 p.1=none/\H0 p.2=none/\p.2≠L) l us->Paired (λp x=>UtAt (af H nl (.lst (u.ns.map V.int++[.int v]))) p x/\H0 p.1=none/\H0 p.2=none/\p.2≠L) l us:=by
  intro l us ap q
  induction q with
  | nil=>show .nil
  | cons q t ih =>
    show .cons ⟨⟨?_,?_⟩,q.2⟩ (ih λp hp=>ap p (qU _ hp))
    · rw[aE (tn q.1)];show q.1.1
    · rw[aE (ap _ rB)];show q.1.2
 show(old apart Y7).snoc ⟨⟨?_,?_⟩,n1,n2,n3⟩
 .rw[aE (tn ut)];show ut.1
 .show af H nl _ nl=_;rw[aj,qD];rfl
def dW(fs:List cN)(n:Int):cN:=(fs[(n % (fs.length:Int)).toNat]?).getD ⟨0,0,0,[]⟩
def kG(acc:List dt)(v:Int):List dt:=match acc.getLast? with
 | none=>acc
 | some u=>acc.dropLast++[{u with ns:=u.ns++[v]}]
def jC(fs:List cN)(sh:TK)(held:Bool)(num:Int)(kids:TN)(i:Nat)(acc:List dt):Th->List dt
 | .tri .note (.inr j) _=>kG acc ((kids[j.toNat]?).getD 0)
 | .tri s (.inl x) t=>acc++[⟨hV (dW fs (num+t)) sh held s x,(dW fs (num+t)).bl,(dW fs (num+t)).hi,i,[]⟩]
 | _=>acc
def cV(fs:List cN)(sh:TK)(held:Bool)(num:Int)(kids:TN)(st:List Th):Nat->List dt
 | 0=>[]
 | i + 1 => match st[i]? with
   | some x=>jC fs sh held num kids i (cV fs sh held num kids st i) x
   | none=>cV fs sh held num kids st i
def Bv(h:acc≠[])(v:Int):∃us u,acc=us++[u]/\kG acc v=us++[{u with ns:=u.ns++[v]}]:=by
 show⟨acc.dropLast,acc.getLast h,(List.dropLast_concat_getLast h).symm,?_⟩;unfold kG;rw[List.getLast?_eq_some_getLast h]
theorem Fs{sh:TK}{held:Bool}{num:Int}{kids:TN}(ok:∀x∈st,gq x)(hd:∃x r,st=x::r/\gV x=false):∀i,i<st.length->cV fs sh held num kids st (i+1)≠[]
 | 0, h => by
   let⟨x,r,rfl,nx⟩:=hd
   have o:=ok x rB
   unfold cV
   show jC fs sh held num kids 0 [] x≠[]
   cases x with
   | int n=>show o.elim
   | tri s y t=>cases s<;>cases y<;>first | show o.elim | (cases nx;done) | simp[jC]
 | i + 1, h => by
   have ih:=Fs (fs:=fs) (sh:=sh) (held:=held) (num:=num) (kids:=kids) ok hd i ()
   rw[cV,qB h]
   show jC fs sh held num kids (i+1) _ st[i+1]≠[]
   have o:=ok _ (rL h)
   generalize st[i+1]=x at o
   cases x with
   | int n=>show o.elim
   | tri s y t =>
     cases s<;>cases y<;>first
       | show o.elim
       | (simp[jC];done)
       | (show kG _ _≠[]
          let⟨us,u,_,e⟩:=Bv ih _
          rw[e]
          simp)
def Nb{x:Str}(h:∀c∈x.cps.toList,c<128):x.cps.all (·< 128)=true:=by
 rw[<-Array.all_toList,y9];show λc hc=>qJ (h c hc)
def Y8{x:Str}(h:AA x):Wd x:=⟨by have:=h.2.1;unfold Str.length at this;omega,Nb λc hc=>(show∀c∈pF,c<128 by ac_rfl) c (h.2.2 c hc)⟩
def Y9{x:Str}(h:Name x):Wd x:=⟨by have:=h.2.1;unfold Str.length at this;omega,Nb λc hc=>by have:=(h.2.2 c hc).2;omega⟩
structure Ft(ds:List Nd)(fs:List cN)(sh:TK):Prop where
 le:ds.length<=100
 fne:fs≠[]
 fl:fs.length<=1000
 fok:∀f∈fs,om f
 sok:on sh
 pcs:∀(n:Nat) (d:Nd),ds[n]?=!d->(d.k=.text\/d.k=.head\/d.k=.note)->(∀x∈d.st,gq x)/\(∃x r,d.st=x::r/\gV x=false)/\d.st.length<=60/\∀(t j:Int),Th.tri .note (.inr j) t∈d.st->j.toNat<(ay ds n).length
def mf(ds:List Nd)(fs:List cN)(sh:TK)(held:Bool)(num:Int)(n:Nat):List dt:=match ds[n]? with
 | some d=>if d.k=.text\/d.k=.head\/d.k=.note then cV fs sh held num ((ay ds n).map λ(j:Nat)=>(j:Int)) d.st d.st.length else[]
 | none=>[]
def UsAt.base(s:Same H H0)(h:UsAt H0 H1 L us):UsAt H H1 L us:=by
 let⟨n,ps,e,pr,nd⟩:=h;show⟨s.free n,ps,e,pr.mono λ_ _ q=>⟨q.1,s.free q.2.1,s.free q.2.2.1,q.2.2.2⟩,nd⟩
inductive Fu:List V->Hp->VK->XK->Prop
|m (B F p:Addr) (num:Int) (held:Bool) (n:Nat) (ds:List Nd) (fs:List cN) (sh:TK):vs=[.ref B,.int num,.ref F,.ref p,.bl held,.int n]->cB (λ_=>True) H B ds->LstAt FcAt H F fs->LstAt ShAt H p sh->n<ds.length->Ft ds fs sh->(∀(L:Addr) (H':Hp),Same H H'->UsAt H H' L (mf ds fs sh held num n)->Q (.ref L) H')->Fu vs H Q E
def Nc(s:Same H H')(h:LstAt FcAt H p fs):LstAt FcAt H' p fs:=eJ (λ_ _=>FcAt.same s) s h
def Nf(s:Same H H'){sh:TK}(h:LstAt ShAt H p sh):LstAt ShAt H' p sh:=eJ (λ_ _=>ShAt.same s) s h
def Y'{n:Int}(e:fs[(n % (fs.length:Int)).toNat]?=!f):dW fs n=f:=by unfold dW;rw[e];rfl
theorem Za{sh:TK}{held:Bool}{num:Int}{kids:TN}{i:Nat}(h:∀u∈acc,u.ns.length<=i)(x:Th):∀u∈jC fs sh held num kids i acc x,u.ns.length<=i+1:=by
 have note:∀v,∀u∈kG acc v,u.ns.length<=i+1:=λv u hu=>by
  by_cases e:acc=[]
  .rw[e]at hu;cases hu
  .let⟨us,w,e1,e2⟩:=Bv e v;rw[e2]at hu;rcases rG.mp hu with q | q
   .show yG (h u (by rw[e1];show uG _ q))
   .have:u={w with ns:=w.ns++[v]}:=‹q›
    have hw:=h w (by rw[e1];simp);rw[this];show(w.ns++[v]).length<=i+1;rw[qG];show uU hw
 have same:∀u∈acc,u.ns.length<=i+1:=λu hu=>yG (h u hu)
 have more:∀(a b c d:Int),∀u∈acc++[(⟨a,b,c,d,[]⟩:dt)],u.ns.length<=i+1:=λa b c d u hu=>by
  rcases rG.mp hu with q | q
  .show same u q
  .have:u=⟨a,b,c,d,[]⟩:=‹q›
   rw[this];show rS _
 cases x with
 | int n=>show same
 | tri s y t=>cases s<;>cases y<;>first | show note _ | show more _ _ _ _ | show same
theorem Fv{sh:TK}{held:Bool}{num:Int}{kids:TN}:∀i,∀u∈cV fs sh held num kids st i,u.ns.length<=i
 | 0=>λu hu=>by cases hu
 | i + 1 => by
   unfold cV
   cases st[i]? with
   | none=>show λu hu=>yG (Fv i u hu)
   | some x=>show Za (Fv i) x
def jD(ds:List Nd)(fs:List cN)(sh:TK)(held:Bool)(ls:TB):List (List dt):=(List.range ds.length).map λn=>mf ds fs sh held (aB ls n 0) n
end Fc
namespace K32
open L2 Bk Gen Gd Bd Fc
abbrev Ng:=top 14
abbrev Nh:=top 18
abbrev Ni:=top 34
def pieceKinds:TV:=[s!"text",s!"head",s!"note"]
def vy(k:Kd):lK (.str k.s) (pieceKinds.map V.str)=decide (k=.text\/k=.head\/k=.note):=by
 rw[XH];cases k<;>ac_rfl
def Zb{n:Nat}(h:0<n):fO n (-1)=!n-1:=by
 unfold fO;rw[if_neg {},if_pos ()]
 congr 1
 omega
def atI_last(as:TQ)(al:Addr):bD ((as++[al]).map V.ref) (-1)=!.ref al:=by
 unfold bD;rw[Zb ∅];simp
def Zc(F:Fun K "holds" "holds" Ng f fd)(T:Bn mg)(tE:∃t,mg "ELDER" = !.int 0 t):(~~~0) 1 f fd ["book", "node"] l7:=by
 rcases F.go ["book", "node"] with⟨p,n,ds,N,rfl,⟨as,hp,nd⟩,le,hn,q⟩;let⟨tE,pZ⟩:=tE;show⟨_,(ar (ba (rh (Uz Dk lI aw (pv 1) (ln T.len (pv 0)))) MZ bj)
  (ax (aG (cm ["number", "other"] ["node"] [1] (tG (by rfl) T.enumerate (a1 (pv 0))) (kj K (n:=2) (by rfl) (by rfl) (bv (nv 0) (bv (nv 1) dO))) (iA (tc bq (px (r:=b8 K) aF (pv 1) (gi pZ)) (pv 2))) (pv 0))))),?_⟩
 have kr:as.length=ds.length:=nd.length;show⟨_,O,_,_,O,O,_,O,?_⟩;rw[qJ (show(0:Int)<=(n:Int) by omega)];show aY ⟨_,O,p,_,O,.inl (SqL.of hp),_,_,O,O,_,O,?_⟩;rw[qJ (show(n:Int)<(((as.map V.ref).length:Nat):Int) by rw[qA];omega)];show aW ?_;show⟨_,O,p,O,⟨_,SqL.of hp⟩,Lh (xs:=as.map V.ref) (λi ys ae H'=>Same H H'/\ys=(jx ds n i).map V.int/\∃a b,ae=[a,b,!.int n]) (by rw[qA];show aR ()) ⟨Same.refl H,O,none,none,O⟩ ?_ ?_ ?_⟩
 .ext i ys ae H' hi ⟨s1,rfl,_⟩;show⟨SqL.of (s1 _ _ hp),by rw[qA];show XE _ _ _⟩
 .ext i x ys ae H' t hx ht ⟨s1,rfl,a,b,rfl⟩;let⟨a',ea,rfl⟩:=cC hx;let⟨d,ed,Zd⟩:=nd.at ea;let⟨m',s',kC,_⟩:=Zd.ex;have s2:=s1.trans (ao ht (.tup [.int (i:Nat),.ref a']));show⟨t,_,O,SqT.of aj,O,_,_,O,_,_,O,O,?_⟩;show⟨_,O,a',_,_,_,O,O,SqT.of (s2 _ _ kC),O,_,O,O,_,O,?_⟩
  by_cases he:d.e=n
  .rw[qJ (xC V.int he)];show aY ⟨_,O,s2,?_,_,_,O⟩;rw[XC ed he,qD];rfl
  .rw[qP λz=>he (V.int.inj z)];show aW ⟨s2,?_,_,_,O⟩;rw[XD ed he]
 .ext ys ae H' ⟨s1,rfl,_⟩ D hD;show q D _ (s1.free hD) (s1.trans (ao hD _)) ?_;rw[aj,qA,kr,Yu]
def Ze(F:Fun K "look_at" "look_at" Nh f fd)(Zf:mg "PROPERTIES" = !.ref Nj)(PT:MJ K Nj):(~~~0) 1 f fd ["looks", "node", "word"] fz:=by
 rcases F.go ["looks", "node", "word"] with⟨p,n,j,y,ls,rfl,⟨as,hp,pr⟩,hn,cO,hj,ip,q⟩;let⟨o,Zg,Zh,Zi⟩:=PT.ob;show⟨_,(ax (aG (px aC (px aC (pv 0) (pv 1)) (jr PySem.F.plainAttrs_tuple PySem.F.slot_tuple_index PySem.F.type_tuple_index Yn (gr Zf) (a1 (pv 2)))))),?_⟩;let⟨a,ea,ha⟩:=fY pr (qB hn);have l13:=cO _ (rL hn);have ej:ls[n][j]?=!ls[n][j]'(by omega):=qB ();have ev:aB ls n j=ls[n][j]'(by omega):=by
  unfold aB;rw[qB hn,Option.getD_some,qX,ej];rfl
 rw[ev]at q;show⟨_,O,_,O,p,_,_,_,O,O,SqL.of hp,aU ea,.inr (.inl ⟨O,o,Zg,Zh,Zi⟩),_,O,Nj,vm,y,j,O,O,PT.tup _,ip.1,ip.2,a,_,_,_,O,O,SqL.of ha,eG (by rw[qK,ej];rfl),q⟩
theorem Zj(F:Fun K "node_units" "node_units" Ni f fd)(T:BnD mg)(U:Bq mg)(tK:∃t,mg "KIND" = !.int 1 t)(tS:∃t,mg "STUFF" = !.int 4 t)(tN:∃t,mg "UNIT_NOTES" = !.int 4 t)(kH:mg "KINDS_OF_PIECES" = !.ref gH)(KP:∀H:Hp,SqT K H gH (pieceKinds.map V.str))(jd:⋯ 1 "holds" ["book", "node"] l7)(Zk:⋯ 1 "face_at" ["faces", "number"] Fh)(Zl:⋯ 2 "piece_width" ["piece", "face", "shown", "held"] (oo 3 Fj)):(~~~0) 3 f fd ["book", "number", "faces", "shown", "held", "node"] (oo 4 Fu):=by
 rcases F.go ["book", "number", "faces", "shown", "held", "node", "notes", "units", "place", "piece", "face"] with⟨Zm,B,FA,p,num,held,n,ds,fs,sh,rfl,⟨ab,hB,nd⟩,hF,hp,hn,cx,q⟩;let⟨_,dM⟩:=tK;let⟨_,mh⟩:=tS;let⟨_,Zn⟩:=tN;let⟨_,vp⟩:=U.sort;let⟨_,Bs⟩:=U.thing;let⟨_,Zo⟩:=U.tone;let⟨_,Fo⟩:=U.blank;let⟨_,Fn⟩:=U.high;have le:=cx.le;show⟨_,(ar (ba (tc Aq (px aF (px aC (pv 0) (pv 5)) (gi dM)) (gr kH)) (ax (aG (a0 bH))) bj)
  (ar (sv 6 (cF jd hr (a2 (pv 0) (pv 5))))
  (ar (sv 7 (a0 bH))
  (ar (fv (tG (by rfl) T.enumerate (a1 (px aF (px aC (pv 0) (pv 5)) (gi mh)))) (jp (by rfl) (bv (nv 8) (bv (nv 9) dO)))
  (ax (ba (tc bq (px aF (pv 9) (gi vp)) aO) (ax (bX (ap (px aF (px aC (pv 7) (dH dI aw)) (gi Zn)) (px aC (pv 6) (px aF (pv 9) (gi Bs)))))) (ar (sv 10 (cF Zk hr (a2 (pv 2) (aH bc (pv 1) (px aF (pv 9) (gi Zo))))))
  (ax (bX (ap (pv 7) (br (aI (cF Zl hr (aI (pv 9) (a3 (pv 10) (pv 3) (pv 4)))) (aI (px aF (pv 10) (gi Fo)) (a3 (px aF (pv 10) (gi Fn)) (pv 8) (a0 bH))))))))))))
  (ax (aG (pv 7))))))),?_⟩
 have ed:ds[n]?=!ds[n]:=qB hn;let⟨c,ec,nc⟩:=nd.get ed;let⟨m',s',hc,_,_,_,jE,fS,cQ⟩:=nc.ex;generalize ds[n]=d at ed hc cQ nc;show⟨_,O,_,O,B,_,_,_,O,O,SqL.of hB,aU ec,c,_,_,_,O,O,SqT.of hc,O,gH,_,O,.inr (KP _),O,ua _,_,O,?_⟩;rw[if_pos O,vy]
 by_cases ht:d.k=.text\/d.k=.head\/d.k=.note
 rotate_left
 .rw[qP ht];show aY ⟨aM,λL hL=>?_⟩;show q L _ (ao hL _) ?_;unfold mf;rw[ed];show UsAt H _ L (if d.k=.text\/d.k=.head\/d.k=.note then _ else[]);rw[if_neg ht];show UsAt.nil hL aj
 rw[qJ ht];show aW ?_;let⟨mi,pne,p60,Zp⟩:=cx.pcs n d ed ht;have q2:∀(L:Addr) (H':Hp),Same H H'->UsAt H H' L (cV fs sh held num ((ay ds n).map λ(j:Nat)=>(j:Int)) d.st d.st.length)->Q (.ref L) H':=λL H' s u=>q L H' s (by
  unfold mf;rw[ed];show UsAt H _ L (if d.k=.text\/d.k=.head\/d.k=.note then _ else[]);rw[if_pos ht];show u)
 clear q;show⟨_,O,_,O,B,n,ds,_,O,⟨ab,hB,nd⟩,(),hn,λK0 H1 hK s1 bM=>?_⟩;generalize Zq:((ay ds n).map λ(j:Nat)=>(j:Int))=kids at bM q2;have Zr:kids.length=(ay ds n).length:=by rw[<-Zq,qA]
 show⟨aM,λL hL=>?_⟩;have sL:=ao hL (.lst []);have bg:af H1 L (.lst []) L=!.lst []:=aj;generalize af H1 L (.lst [])=H2 at sL bg⊢;have aZ:=s1.trans sL;have lv:jE.length=d.st.length:=qN cQ;show⟨_,O,_,O,B,_,_,_,O,O,SqL.of (aZ _ _ hB),aU ec,c,_,_,_,O,O,SqT.of (aZ _ _ hc),O,s',O,⟨_,SqL.of (aZ _ _ fS)⟩,ES (xs:=jE) (λi σ H'=>Same H1 H'/\UsAt H1 H' L (cV fs sh held num kids d.st i)/\(cV fs sh held num kids d.st i).length<=i/\∃z8 z9 cp,σ=[!.ref B,!.int num,!.ref FA,!.ref p,!.bl held,!.int n,!.ref K0,!.ref L,z8,z9,cp]) ⟨sL,UsAt.nil hL bg,qF _,none,none,none,O⟩ ?_ ?_ ?_⟩
 .ext i σ H' hi ⟨s3,_⟩;show SqL.of (s3 _ _ (s1 _ _ fS))
 .rintro i v σ H3 t hv Zs ⟨s3,vz,wa,z8,z9,cp,rfl⟩;let⟨th,p7,it⟩:=bN cQ hv;have il:i<d.st.length:=(qI.mp p7).1;have po:=mi th (qR p7);have Nk:cV fs sh held num kids d.st (i+1)=jC fs sh held num kids i (cV fs sh held num kids d.st i) th:=by rw[cV,p7]
  rw[Nk];have nz:gV th=true->cV fs sh held num kids d.st i≠[]:=λhn=>by
   cases i with
   | zero =>
     let⟨x,r,e,nx⟩:=pne
     rw[e]at p7
     cases p7
     rw[nx]at hn
     cases hn
   | succ i=>show Fs mi pne i ()
  have sT:=ao Zs (.tup [.int (i:Nat),v]);have hT:af H3 t (.tup [.int (i:Nat),v]) t=!.tup [.int (i:Nat),v]:=aj;generalize af H3 t (.tup [.int (i:Nat),v])=H4 at sT hT⊢;have s4:=s3.trans sT;have Bx:=vz.same sT;clear vz s3 Nk;have sm:=Fv (fs:=fs) (sh:=sh) (held:=held) (num:=num) (kids:=kids) (st:=d.st) i;generalize cV fs sh held num kids d.st i=acc at Bx wa nz sm⊢;show⟨t,_,O,SqT.of hT,O,_,_,O,_,_,O,O,?_⟩;cases th with
  | int m=>show po.elim
  | tri so y tn =>
    let⟨a,rfl,_,Zt⟩:=it
    have ha:H4 a=_:=s4 _ _ (s1 _ _ Zt)
    show⟨_,O,a,_,_,_,O,O,SqT.of ha,O,O,_,O,?_⟩
    rw[show decide (V.str so.s=V.str (s!"note"))=decide (so=.note)from Ma so .note]
    by_cases By:so=.note
    · rw[decide_eq_true By]
      subst By
      cases y with
      | inl x=>show po.elim
      | inr j =>
        have i0:acc≠[]:=nz O
        let⟨us,u,e1,e2⟩:=Bv i0 ((kids[j.toNat]?).getD 0)
        have jl:j.toNat<kids.length:=by rw[Zr];show Zp tn j (qR p7)
        have j0:((j.toNat:Nat):Int)=j:=by have:=po.1;omega
        have ek:kids[j.toNat]?=!(kids[j.toNat]?).getD 0:=by rw[qB jl];rfl
        rw[show jC fs sh held num kids i acc (.tri .note (.inr j) tn)=kG acc ((kids[j.toNat]?).getD 0)from rfl,e2]
        rw[e1]at Bx
        let⟨ps,au,nl,wc,ut,Zu,Zv⟩:=Bx.note ((kids[j.toNat]?).getD 0)
        have Zw:H4 L=!.lst ((ps.map Prod.fst++[au]).map V.ref):=by rw[wc,qD];rfl
        have Zx:u.ns.length<=1000:=by
          have:=sm u (by rw[e1];simp)
          omega
        show aY ⟨_,O,_,O,L,_,_,_,O,O,SqL.of Zw,atI_last _ _,au,_,_,_,O,O,SqT.of ut.1,O,.inl ⟨O,_,SqL.of ut.2⟩,_,O,_,O,a,_,_,_,O,O,SqT.of ha,O,K0,_,_,_,O,O,SqL.of (s4 _ _ bM),by show bD (kids.map V.int) j=_;rw[<-j0];show eG (by rw[qK,ek];rfl),nl,_,_,O,O,ut.2,aR (by rw[qA];show Zx),?_⟩
        show⟨hG s4 Zu,Zv,?_,_,_,_,O⟩
        rw[qG]
        rw[e1,qG]at wa
        show yG wa
    · rw[decide_eq_false By]
      have hx:∃x,y=.inl x/\Wd x/\0<=tn/\jC fs sh held num kids i acc (.tri so y tn)=acc++[⟨hV (dW fs (num+tn)) sh held so x,(dW fs (num+tn)).bl,(dW fs (num+tn)).hi,i,[]⟩]:=by
        cases so<;>cases y<;>first
          | show po.elim
          | show absurd rfl By
          | show⟨_,rfl,Y8 po.1,po.2.1,rfl⟩
          | show⟨_,rfl,Y9 po.1,po.2.1,rfl⟩
      let⟨x,rfl,wx,_,iI⟩:=hx
      rw[iI]
      show aW ?_
      show⟨_,O,_,O,_,O,a,_,_,_,O,O,SqT.of ha,O,_,_,O,O,FA,num+tn,fs,O,Nc (s1.trans s4) hF,cx.fne,cx.fl,λtf H5 fc ef s5 hf hf0=>?_⟩
      rw[Y' ef]
      have ku:=s4.trans s5
      have fk:=cx.fok fc (qR ef)
      let⟨nL,ps,wc,Nl,Zy⟩:=Bx
      show⟨_,O,.inl ⟨O,_,SqL.of (s5 _ _ wc)⟩,_,O,_,O,_,O,_,O,Zm,a,p,tf,held,so,x,tn,sh,fc,O,s5 _ _ ha,wx,Nf (s1.trans ku) hp,cx.sok,hf,fk,λH6 s6=>?_⟩
      let⟨Lf,Nm,_⟩:=hf.same s6
      show⟨_,O,tf,_,_,_,O,O,SqT.of Nm,O,_,O,tf,_,_,_,O,O,SqT.of Nm,O,_,O,aM,λnl ot=>?_⟩
      have s7:=ao ot (.lst [])
      have Nn:af H6 nl (.lst []) nl=!.lst []:=aj
      generalize af H6 nl (.lst [])=H7 at s7 Nn⊢
      show⟨aM,λau No=>?_⟩
      have s8:=ao No (.tup [.int (hV fc sh held so x),.int fc.bl,.int fc.hi,.int (i:Nat),.ref nl])
      have Np:af H7 au (.tup [.int (hV fc sh held so x),.int fc.bl,.int fc.hi,.int (i:Nat),.ref nl]) au=!.tup [.int (hV fc sh held so x),.int fc.bl,.int fc.hi,.int (i:Nat),.ref nl]:=aj
      generalize af H7 au (.tup [.int (hV fc sh held so x),.int fc.bl,.int fc.hi,.int (i:Nat),.ref nl])=H8 at s8 Np⊢
      have Fy:=((s5.trans s6).trans s7).trans s8
      have lps:ps.length=acc.length:=qN Nl
      show⟨L,_,_,O,O,Fy _ _ wc,aR (by rw[qA,qA];omega),?_⟩
      show⟨hG (s4.trans Fy) nL,UsAt.push nL wc Nl Zy Fy s4 ((s5.trans s6).free ot) (((s5.trans s6).trans s7).free No) ⟨Np,s8 _ _ Nn⟩,?_,_,_,_,O⟩
      rw[qG]
      show uU wa
 .ext σ H3 ⟨s3,vz,wa,z8,z9,cp,rfl⟩;rw[lv]at vz;show⟨_,O,q2 L _ (s1.trans s3) (vz.base s1)⟩
end K32
namespace Bw
open L2 Bk Gen Gd
open Bd
def UnAt(H:Hp)(a:Addr)(u:Un):=∃nl,H a=!.tup [.int u.w,.int u.b,.int u.h,.int u.k,.ref nl]/\∃l,H nl=!.lst l
def RowAt(H:Hp)(a:Addr)(r:List Un):=LstAt UnAt H a r
def UnAt.same(s:Same H H')(h:UnAt H a x):UnAt H' a x:=by
 let⟨nl,h1,l,h2⟩:=h;show⟨nl,s _ _ h1,l,s _ _ h2⟩
def RowAt.same(s:Same H H')(h:RowAt H a x):RowAt H' a x:=eJ (λ_ _=>UnAt.same s) s h
def units_same(s:Same H H')(h:LstAt RowAt H p us):LstAt RowAt H' p us:=eJ (λ_ _=>RowAt.same s) s h
structure In(H:Hp)(B Lk U:Addr)(ds:List Nd)(ls:TB)(us:List (List Un)):Prop where
 bk:cB (λ_=>True) H B ds
 lk:LstAt LkAt H Lk ls
 un:LstAt RowAt H U us
def In.same{ls:TB}(h:In H B Lk U ds ls us)(s:Same H H'):In H' B Lk U ds ls us:=by
 let⟨as,e,nd⟩:=h.bk;show⟨⟨as,s _ _ e,nd.keep s.keep λ_ _ _=>trivial⟩,cU s h.lk,units_same s h.un⟩
inductive Fz:List V->Hp->VK->XK->Prop
|m (p:Addr) (r:List Un):vs=[.ref p]->RowAt H p r->r≠[]->r.length<=100->(∀H',Same H H'->Q (.int (kE r)) H')->Fz vs H Q E
inductive Bz:List V->Hp->VK->XK->Prop
|m (p:Addr) (r:List Un):vs=[.ref p]->RowAt H p r->r≠[]->r.length<=100->(∀H',Same H H'->Q (.int (jz r)) H')->Bz vs H Q E
inductive FB:List V->Hp->VK->XK->Prop
|m (B p U L:Addr) (n:Nat) (ds:List Nd) (ls:TB) (us:List (List Un)) (bs:TC):vs=[.ref B,.ref p,.ref U,.ref L,.int n]->In H B p U ds ls us->LstAt PrAt H L bs->bs.length=ds.length->n<ds.length->Ctx ds ls us->(∀(t:Addr) (H':Hp),Same H H'->PrAt H' t (eR ds ls us bs n)->Q (.ref t) H')->FB vs H Q E
inductive spAll:List V->Hp->VK->XK->Prop
|m (B p U:Addr) (ds:List Nd) (ls:TB) (us:List (List Un)):vs=[.ref B,.ref p,.ref U]->In H B p U ds ls us->Ctx ds ls us->(∀(L:Addr) (H':Hp),H L=none->Same H H'->LstAt PrAt H' L (vn ds ls us)->Q (.ref L) H')->spAll vs H Q E
inductive spRowsHigh:List V->Hp->VK->XK->Prop
|m (a:Addr) (us:List Un):vs=[.ref a]->RowAt H a us->us≠[]->us.length<=100->(∀H',Same H H'->Q (.int (cf (us.map Un.h))) H')->spRowsHigh vs H Q E
end Bw
namespace K32
open L2 Bk Gen Gd Bd Fc
abbrev Nq:=top 37
def Zz(F:Fun K "rows_high" "rows_high" Nq f fd)(T:bP mg)(tH:∃t,mg "UNIT_HIGH" = !.int 2 t):(~~~0) 1 f fd ["units"] Bw.spRowsHigh:=by
 rcases F.go ["units"] with⟨a,us,rfl,⟨ps,ha,pr⟩,ne,l9,q⟩;let⟨_,ZA⟩:=tH;show⟨_,(ax (aG (cb (pV (by rfl)) T.max eQ (a1 (cm ["unit"] [] [] (a9 (pv 0)) (nv 0) bf (px (r:=b8 K) aF (pv 0) (gi ZA))))))),?_⟩;have lp:=qN pr;show⟨_,O,a,O,⟨_,SqL.of ha⟩,bw (xs:=ps.map V.ref) (λi ys ae H'=>H'=H/\ys=((us.take i).map Un.h).map V.int/\∃z,ae=[z]) (by rw[qA];show aR ()) ⟨O,O,none,O⟩ ?_ ?_ ?_⟩
 .ext i ys ae H' hi ⟨rfl,rfl,_⟩;show⟨SqL.of ha,?_⟩;rw[qA,qA,qQ];show qV _ _
 .ext i y ys ae H' hy ⟨rfl,rfl,z,rfl⟩;let⟨c,ec,rfl⟩:=cC hy;let⟨u,eu,_,hu,_⟩:=bN pr ec;show⟨_,O,c,_,_,_,O,O,SqT.of hu,O,O,?_,_,O⟩;rw[qS,eu,qD,qD];rfl
 .ext ys ae H' ⟨rfl,rfl,_⟩ D hD;rw[show us.take (ps.map V.ref).length=us from qH (by rw[qA];omega)];show⟨D,_,cf (us.map Un.h),O,SqL.of aj,kF ‹ne›,oi,q _ (ao hD _)⟩
end K32
namespace Fc
open L2 Bk Gen Gd Bd
def ZB(s:Same H H')(h:cB (λ_=>True) H p ds):cB (λ_=>True) H' p ds:=by
 let⟨ab,e,nd⟩:=h;show⟨ab,s _ _ e,nd.keep s.keep λ_ _ _=>trivial⟩
end Fc
namespace Br
open L2 Bk Gen Gd Bd
section
variable{X:Cx}{pos:Pos}
inductive Nr(K:W.Frag)(n:Nat)(t:Af):V->St->Hp->(St->Hp->Prop)->Prop
|m a xs:v=.ref a->SqL K H a xs->xs.length=n->t xs σ H Q->Nr K n t v σ H Q
def pg_tupL{k:Nat}{n:Nat}(hc:X.calm=true)(h:oW X es t)(hn:(assignEach es X.env).length=n:=by rfl)(b7:(assignEach es X.env).findIdx? (·.1)=none:=by rfl):PG X (.Tuple es k pos) (Nr X.K n t):=by
 intro aa s σ H v u Q I r hw;let⟨a,xs,e1,hq,hl,hw⟩:=hw;subst e1;cases r;let⟨ag,rv,ht,hz⟩:=I.list hq;have hL:s.heap.IsList a ag.toArray:=ht.isList;have C2:(assignEach es X.env).length=ag.toArray.size:=by simp[hn,<-hl,rv.length]
 show wpAny _ _ (assign (.Tuple es k pos) X.env (.ref a)) _ _ s;rw[PyProof.Rows.assign_Tuple];show qC (vE ?_);unfold unpack;rw[C2,b7];show qC (xQ (W.kun_itemsOf (I.ok.hd hc) hL λh' hx=>?_));have I1:Inv X aa σ H {s with heap:=h'}:=I.kept (t':=s.toks) λb o e=>hx b o (rA (qL e)) e
 show h aa _ σ H xs _ Q I1 ‹rv› hw
end
def ov:Option Int->V
 | none=>.non
 | some x=>.int x
def UOk(u:Un):=1<=u.w/\u.w<=960/\0<=u.b/\u.b<=960
def cR(wd:Int)(nw:Int×Int)(row:Int):Int:=if row<nw.1 then max (wd-nw.2) 0 else wd
def jF(us:List Un)(i j:Nat):List Un:=(us.drop i).take (j-i)
def dX(us:List Un)(i j:Nat):Int:=jz (jF us i j)
def du(us:List Un)(i j:Nat)(room:Int):Option Int :=
 if room-dX us i j<0 then(if j-i=1 then !1000000-(room-dX us i j)else none)
 else !(if j=us.length then 0 else(room-dX us i j)*(room-dX us i j))
def Nt{i j:Nat}(h:u∈jF us i j):u∈us:=uW (yC h)
def ZC{i j:Nat}(h:j<=us.length):(jF us i j).length=j-i:=by
 unfold jF;rw[qQ,uI];omega
def ZD(ok:∀u∈us,UOk u)(i j:Nat):0<=dX us i j:=by
 unfold dX jz;have h1:=(Bc (B:=960) {} (ns:=(jF us i j).map Un.w) λx hx=>by
  let⟨u,hu,rfl⟩:=qW.mp hx;let⟨h1,h2,_⟩:=ok u (Nt hu);omega).1
 have h2:=(Bc (B:=960) {} (ns:=(jF us i j).dropLast.map Un.b) λx hx=>by
  let⟨u,hu,rfl⟩:=qW.mp hx;let⟨_,_,h1,h2⟩:=ok u (Nt ((List.dropLast_sublist _).subset hu));omega).1
 omega
theorem ZE{α β:Type}{F:α->β->Prop}{l1:List α}{l2:List β}(h:Paired F l1 l2)(i n:Nat):Paired F ((l1.drop i).take n) ((l2.drop i).take n):=by
 have tk:∀{l1:List α} {l2:List β},Paired F l1 l2->∀n,Paired F (l1.take n) (l2.take n):=by
  intro l1 l2 h
  induction h with
  | nil=>intro n;simp only[List.take_nil];show .nil
  | cons h t ih =>
    intro n
    cases n with
    | zero=>show .nil
    | succ n=>show .cons h (ih n)
 have dp:∀{l1:List α} {l2:List β},Paired F l1 l2->∀n,Paired F (l1.drop n) (l2.drop n):=by
  intro l1 l2 h
  induction h with
  | nil=>intro n;simp only[List.drop_nil];show .nil
  | cons h t ih =>
    intro n
    cases n with
    | zero=>show .cons h t
    | succ n=>show ih n
 show tk (dp h i) n
def ZF{as:TQ}{i j:Nat}(h:j<=as.length)(hi:i<=j):fN (as.map V.ref) (!(i:Int)) (!(j:Int))=((as.drop i).take (j-i)).map V.ref:=by
 unfold fN;have e1:HT.sIx (as.map V.ref).length 0 (!(i:Int))=i:=by
  show(if(i:Int)<0 then((i:Int)+(((as.map V.ref).length:Nat):Int)).toNat else min (i:Int).toNat (as.map V.ref).length)=_;rw[if_neg (),qA];omega
 have e2:HT.sIx (as.map V.ref).length (as.map V.ref).length (!(j:Int))=j:=by
  show(if(j:Int)<0 then((j:Int)+(((as.map V.ref).length:Nat):Int)).toNat else min (j:Int).toNat (as.map V.ref).length)=_;rw[if_neg (),qA];omega
 rw[e1,e2,<-vN,<-uV]
def ZG{as:TQ}{k:Int}{m:Nat}{c:Addr}(e:k=(m:Int))(h:as[m]?=!c):bD (as.map V.ref) k=!.ref c:=by
 rw[e];show aU h
def sql_same(s:Same H H')(h:SqL K H a xs):SqL K H' a xs:=by
 rcases h with(h | ⟨o,h⟩) | h
 .show .inl (.inl (s _ _ h))
 .show .inl (.inr ⟨o,s _ _ h⟩)
 .show .inr h
def sqt_same(s:Same H H')(h:SqT K H a xs):SqT K H' a xs:=by
 rcases h with(h | ⟨o,h⟩) | h
 .show .inl (.inl (s _ _ h))
 .show .inl (.inr ⟨o,s _ _ h⟩)
 .show .inr h
abbrev PrK(K:W.Frag)(H:Hp)(t:Addr)(nw:Int×Int):Prop:=SqT K H t [.int nw.1,.int nw.2]
inductive FC(K:W.Frag):List V->Hp->VK->XK->Prop
|m (t:Addr) (wd row:Int) (nw:Int×Int):vs=[.int wd,.ref t,.int row]->PrK K H t nw->Q (.int (cR wd nw row)) H->FC K vs H Q E
structure BnR(mg:TJ):Prop extends lV mg where
 tw:∃t,mg "UNIT_WIDE" = !.int 0 t
 tb:∃t,mg "UNIT_BLANK" = !.int 1 t
end Br
namespace L2
open PyProof.Rows
def ZH(K:W.Frag):List V->Hp->VK->Prop:=λxs H Q=>∃(p:Addr) (ns:TN) (m:Int),xs=[.ref p]/\SqL K H p (ns.map V.int)/\m∈ns/\(∀x∈ns,m<=x)/\Q (.int m) H
section
variable{X:Cx}
def BA{ns:TN}{m:Int}{n:Nat}(hn:n=ns.length)(hm:m∈ns)(le:∀x∈ns,m<=x):ns.getD (argBest (λi j=>decide (ns.getD i 0<ns.getD j 0)) (n-1)) 0=m:=by
 let⟨h1,h2⟩:=argBest_lt (λi=>ns.getD i 0) (n-1);let⟨j,hj,e⟩:=List.mem_iff_getElem.mp hm;have h3:=h2 j ();have e1:ns.getD j 0=m:=by rw[qX,qB hj,e];rfl
 have h4:argBest (λi j=>decide (ns.getD i 0<ns.getD j 0)) (n-1)<ns.length:=()
 have h5:=le _ (rL h4);have e2:ns.getD (argBest (λi j=>decide (ns.getD i 0<ns.getD j 0)) (n-1)) 0=ns[argBest (λi j=>decide (ns.getD i 0<ns.getD j 0)) (n-1)]:=by
  rw[qX,qB h4];rfl
 rw[e2]at h3⊢;rw[e1]at h3;omega
theorem Nu(hc:X.calm=true):dy X (.builtin "min") (ZH X.K):=by
 intro aa s σ H xs us Q I r h;let⟨p,ns,m,rfl,hp,hm,le,q⟩:=h;let⟨u,rfl,rx⟩:=vals1 r;cases rx;let⟨ag,rv,pl,hz⟩:=I.list hp;have hh:=I.ok.hd hc;have lp:p< ~~~s:=by
  let⟨o,e,_⟩:=pl.isList;show qL e
 have hn:ag.toArray.size=ns.length:=by rw[qY,<-rv.length,qA]
 have h0:0<ag.toArray.size:=by rw[hn];show List.length_pos_of_mem hm
 show call_min_walk (xJ pl.isList ?_);show⟨~~~s,_,_,_,_,_,_,O,Walks.list ‹hh› (~~~s) p (rA lp) ag.toArray,⟨⟨_,qT _ O,O,O⟩,pl.isList.push _⟩,λb hb'=>?_,h0,CmpOf.ints_lt (λi=>ns.getD i 0) (kB rv),λv h' tk hP k=>?_⟩
 .rw[rM];rcases qO.mp hb' with rfl | hb'
  .show rX _
  .rcases qO.mp hb' with rfl | hb'
   .show xP lp
   .cases hb'
 .let⟨t,rfl⟩:=kB rv _ _ hP;rw[BA hn hm le];show⟨.int m,H,I.kept λb o e=>k b o ‹rA (qL e)› (qE _ e),⟨t,O⟩,q⟩
inductive Nv:V->List V->Hp->VK->Prop
|m l xs y:x=.ref l->vs=[.int 0,y]->H l=!.lst xs->xs.length<sizeLine->Q .non (af H l (.lst (y::xs)))->Nv x vs H Q
theorem ZI:Ar X "list.insert" Nv:=by
 intro aa s σ H x vs v us Q I rx rv h;let⟨l,xs,y,rfl,rfl,hH,hz,q⟩:=h;cases rx;obtain⟨u0,u,rfl,ZJ,ru⟩:∃u0 u,us=[u0,u]/\RelV (.int 0) u0/\RelV y u:=by
  cases rv with
  | cons r1 r2 => cases r2 with
    | cons r3 r4=>cases r4;show⟨_,_,O,r1,r3⟩
 let⟨t0,rfl⟩:=ZJ;let⟨z,ag,n,r,hl,e⟩:=I.lstM hH;show u7 F.slot_list_insert ⟨_,e,O⟩ F.entry_list_insert (F.args_list_insert_3 _ _ _) (AutoSeq1.list_insert_list_int_val_1 l ag.toArray n 0 t0 u {} (by rw[qY];omega)) ⟨e,?_⟩;show⟨.non,_,I.lset (its':=u::ag) hH e ∅ (.cons ru r) ?_,O,q⟩;rw[rC];omega
inductive Nw(K:W.Frag):V->List V->Hp->VK->Prop
|m (l:Addr) (os:List (Option Int)) (y:Int) (j:Nat):x=.ref l->vs=[.int y]->H l=!.lst (os.map Br.ov)->os.length<=1000->os[j]?=!!y->(∀i:Nat,i<j->os[i]?≠!!y)->Q (.int j) H->Nw K x vs H Q
theorem Nx:pj X "list.index" (Nw X.K):=by
 intro aa s σ H x xs v us Q I rx rv h;let⟨l,os,y,j,rfl,rfl,hH,lz,hj,aX,q⟩:=h;cases rx;let⟨u,rfl,ru⟩:=Vals.one rv;let⟨t,rfl⟩:=ru;let⟨z,ag,n,r,hl,e⟩:=I.lstM hH;rw[qA]at hl;have mj:∀(i:Nat) (hi:i<ag.toArray.size),∃o,os[i]?=!o/\RelV (Br.ov o) ag.toArray[i]:=λi hi=>by
  have ci:i<os.length:=by rw[hl];simpa using hi
  let⟨w',e2,r2⟩:=r.get (i:=i) (x:=Br.ov os[i]) (by rw[qK,qB ci];rfl);show⟨os[i],qB ci,?_⟩;have e3:ag.toArray[i]=w':=by
   have:=(qI.mp e2).2;simpa using this
  rw[e3];show r2
 have jl:j<ag.toArray.size:=by
  have:=(qI.mp hj).1;rw[qY];omega
 have eqv:∀w':Value,∀o:Option Int,RelV (Br.ov o) w'->(match w' with | .int i _=>i == y | _=>false)=decide (o=!y):=λw' o ro=>by
  cases o with
  | none=>have:w'=Value.none:=ro;subst this;simp
  | some i=>let⟨t',rfl⟩:=ro;show(i == y)=_;by_cases h:i=y<;>simp[h]
 show u7 F.slot_list_index ⟨_,e,O⟩ F.entry_list_index (F.args_list_index_2 _ _)
  (SeqAt.list_indexAt l ag.toArray n none #[] (.int y t) (λw'=>match w' with | .int i _=>i == y | _=>false) j jl (by rw[qY]at jl;omega) ?_ (λm hm ZK=>?_)) ⟨e,λw' ZM=>?_,⟨.int j,H,I.tok _,⟨_,O⟩,q⟩⟩
 .let⟨o,eo,ro⟩:=mj j jl;rw[eqv _ o ro];rw[hj]at eo;show qJ (rD eo).symm
 .let⟨o,eo,ro⟩:=mj m hm;rw[eqv _ o ro];show qP λz=>aX m ZK (by rw[eo,z])
 .obtain⟨i,hi,rfl⟩:=Array.mem_iff_getElem.mp ZM;let⟨o,eo,ro⟩:=mj i hi;cases o with
  | none =>
    have ev:ag.toArray[i]=Value.none:=ro
    rw[ev]
    show SeqAt.EqAt.none_int _ _
  | some k =>
    let⟨t',ev⟩:=ro
    rw[ev]
    show SeqAt.EqAt.int_int _ _ _ _
end
def PS.nox{X:Cx}{st:Stmt}{t:TS}(h:PS X.nox st t):PS X st t:=λaa s σ H D I hw =>
 xB (h aa s σ H D (I.wish _) hw) (λ_ _ q=>q.unwish) λ_ _ z=>False.elim z
end L2
namespace Br
open L2 Bk Gen Gd Bd
def paired_mem{α β:Type}{F G:α->β->Prop}:∀{as:List α} {xs:List β},Paired F as xs->(∀a x,x∈xs->F a x->G a x)->Paired G as xs
 | _,_,.nil,_=>.nil
 | _,_,.cons h t,k=>.cons (k _ _ (rB ..) h) (paired_mem t λa x hx=>k a x (qU _ hx))
def ig(us:List Un)(j:Nat)(room:Int):Nat->List (Nat×Int)
 | 0=>[]
 | k + 1 => match du us k j room with
   | none=>[]
   | some b=>(k,b)::ig us j room k
def fA(us:List Un)(j:Nat)(room:Int):List (Nat×Int):=ig us j room j
def ZN{i j:Nat}(h:i<j)(e:us[i]?=!u):jF us i j=u::jF us (i+1) j:=by
 unfold jF;let⟨hl,rfl⟩:=qI.mp e;rw[List.drop_eq_getElem_cons hl,show j-i=(j-(i+1))+1 by omega,List.take_succ_cons]
def ZO(hb:0<=u.b)(hw:0<=u.w)(r:List Un):jz r<=jz (u::r):=by
 unfold jz;cases r with
 | nil=>simp;omega
 | cons v r=>simp;omega
def ZP(ok:∀u∈us,UOk u){i j:Nat}(h:i<j)(hj:j<=us.length):dX us (i+1) j<=dX us i j:=by
 unfold dX;have e:=qB (show i<us.length by omega);let⟨h1,h2,h3,h4⟩:=ok _ (qR e);rw[ZN h e];show ZO h3 () _
theorem Ny(ok:∀u∈us,UOk u){j:Nat}(hj:j<=us.length){k:Nat}(hk:k<=j):∀d,d<=k->dX us k j<=dX us (k-d) j
 | 0,_=>Int.le_refl _
 | d + 1, h => by
   have h1:=Ny ok hj hk d ()
   have h2:=ZP ok (i:=k-(d+1)) (j:=j) () hj
   rw[show k-(d+1)+1=k-d by omega]at h2
   omega
def ZQ(ok:∀u∈us,UOk u){i k j:Nat}{room:Int}(hj:j<=us.length)(hk:k<j)(hi:i<=k)(h:du us k j room=none):du us i j room=none:=by
 have h1:=Ny ok hj (k:=k) () (k-i) ();rw[show k-(k-i)=i by omega]at h1;unfold du at h⊢
 by_cases c:room-dX us k j<0
 .rw[if_pos c]at h
  by_cases d:j-k=1
  .rw[if_pos d]at h;cases h
  .rw[if_pos (),if_neg ()]
 .rw[if_neg c]at h;cases h
theorem Nz(ok:∀u∈us,UOk u){j:Nat}{room:Int}(hj:j<=us.length){i:Nat}{b:Int}:∀k,k<=j->((i,b)∈ig us j room k↔i<k/\du us i j room=!b)
 | 0,_=>by simp[ig]
 | k + 1, h => by
   have ih:=Nz ok hj (room:=room) (i:=i) (b:=b) k ()
   unfold ig
   cases e:du us k j room with
   | none =>
     constructor
     · intro z;cases z
     · ext⟨h1,h2⟩
       rw[ZQ ok hj () (show i<=k by omega) e]at h2
       cases h2
   | some b' =>
     show(i,b)∈(k,b')::ig us j room k↔_
     rw[qO,ih]
     constructor
     · ext(z | ⟨h1,h2⟩)
       · cases z;show⟨rX _,e⟩
       · show⟨(),h2⟩
     · rintro⟨h1,h2⟩
       by_cases z:i=k
       · subst z
         rw[e]at h2
         cases h2
         show .inl O
       · show .inr ⟨(),h2⟩
def NA(ok:∀u∈us,UOk u){j:Nat}{room:Int}(hj:j<=us.length){i:Nat}{b:Int}:(i,b)∈fA us j room↔i<j/\du us i j room=!b:=Nz ok hj j (qF _)
theorem BB(us:List Un)(j:Nat)(room:Int):∀k,(ig us j room k).length<=k
 | 0=>qF _
 | k + 1 => by
   unfold ig
   cases du us k j room with
   | none=>simp
   | some b=>simp;show BB us j room k
theorem FD{j:Nat}{room:Int}{x:Nat×Int}:∀k,x∈ig us j room k->x.1<k
 | 0,h=>by simp[ig]at h
 | k + 1, h => by
   unfold ig at h
   cases e:du us k j room with
   | none=>rw[e]at h;cases h
   | some b =>
     rw[e]at h
     rcases qO.mp h with rfl | h
     · show rX _
     · show xP (FD k h)
def mq:TN->Int
 | []=>0
 | x::l=>l.foldl min x
theorem FE:∀(l:TN) (a:Int),l.foldl min a<=a/\∀x∈l,l.foldl min a<=x
 | [],a=>⟨Int.le_refl _,λx hx=>nomatch hx⟩
 | y :: l, a => by
   let⟨h1,h2⟩:=FE l (min a y)
   rw[xE]
   show⟨(),λx hx=>?_⟩
   rcases qO.mp hx with rfl | hx
   · omega
   · show h2 x hx
theorem NB:∀(l:TN) (a:Int),l.foldl min a∈a::l
 | [],a=>∅
 | y :: l, a => by
   rw[xE]
   rcases qO.mp (NB l (min a y))with e | h
   · rw[e]
     by_cases z:a<=y
     · rw[Int.min_eq_left z];simp
     · rw[Int.min_eq_right ()];simp
   · show qU _ (qU _ h)
def we{l:TN}(h:l≠[]):mq l∈l:=by
 cases l with
 | nil=>show absurd O h
 | cons x l=>show NB l x
theorem p8{l:TN}:∀x∈l,mq l<=x:=by
 cases l with
 | nil=>intro x hx;cases hx
 | cons y l =>
   intro x hx
   rcases qO.mp hx with rfl | hx
   · show(FE l x).1
   · show(FE l y).2 x hx
def oA(os:List (Option Int))(i:Nat):Option Int:=os.getD i none
def cands(os:List (Option Int))(bs:List (Nat×Int)):TN:=bs.filterMap λx=>(oA os x.1).map (·+ x.2)
def iJ(os:List (Option Int))(bs:List (Nat×Int)):Option Int:=if cands os bs=[]then none else !mq (cands os bs)
def NC{os:List (Option Int)}{bs:List (Nat×Int)}{m:Int}:m∈cands os bs↔∃i b s,(i,b)∈bs/\oA os i=!s/\s+b=m:=by
 unfold cands;rw[yL];constructor
 .ext⟨⟨i,b⟩,h1,h2⟩;let⟨s,h3,h4⟩:=Option.map_eq_some_iff.mp h2;show⟨i,b,s,h1,h3,h4⟩
 .ext⟨i,b,s,h1,h3,h4⟩;show⟨(i,b),h1,by rw[h3];show xC some h4⟩
def ZR{os:List (Option Int)}{bs:List (Nat×Int)}{m:Int}(h:iJ os bs=!m):m∈cands os bs:=by
 unfold iJ at h
 by_cases c:cands os bs=[]
 .rw[if_pos c]at h;cases h
 .rw[if_neg c]at h;rw[<-rD h];show we c
def ZS{os:List (Option Int)}{bs:List (Nat×Int)}{m:Int}(h:m∈cands os bs):∃m',iJ os bs=!m'/\m'<=m:=by
 unfold iJ;rw[if_neg (λz=>by rw[z]at h;cases h)];show⟨_,O,p8 m h⟩
def wf(us:List Un):List (Option Int):=some 0::List.replicate us.length none
def bC(us:List Un)(room:Nat->Int):Nat->List (Option Int)
 | 0=>wf us
 | r+1=>(List.range (us.length+1)).map λj=>iJ (bC us room r) (fA us j (room r))
def p9(us:List Un)(room:Nat->Int):∀r,(bC us room r).length=us.length+1
 | 0=>by simp[bC,wf]
 | r+1=>by simp[bC]
def ND{room:Nat->Int}{r j:Nat}(h:j<=us.length):oA (bC us room (r+1)) j=iJ (bC us room r) (fA us j (room r)):=by
 show((List.range (us.length+1)).map λj=>iJ (bC us room r) (fA us j (room r))).getD j none=_;rw[qX,qK,rV ()];rfl
theorem ZT{room:Nat->Int}{j:Nat}{m:Int}(h:oA (bC us room 0) j=!m):j=0/\m=0:=by
 unfold oA bC wf at h;rw[qX]at h;cases j with
 | zero=>simp at h;show⟨O,h.symm⟩
 | succ j =>
   rw[rN,List.getElem?_replicate]at h
   split at h<;>cases h
inductive Fw(us:List Un)(room:Nat->Int):Nat->Nat->List (Nat×Nat)->Int->Prop
 | nil {r:Nat}:Fw us room r us.length [] 0
 | cons {r i j:Nat} {b s:Int} {rest:List (Nat×Nat)}:i<j->j<=us.length->du us i j (room r)=!b->Fw us room (r+1) j rest s->Fw us room r i ((i,j)::rest) (b+s)
theorem Fw.least(ok:∀u∈us,UOk u){room:Nat->Int}{r i:Nat}{rest:List (Nat×Nat)}{s:Int}(h:Fw us room r i rest s):∀{m:Int},oA (bC us room r) i=!m->∃M,oA (bC us room (r+rest.length)) us.length=!M/\M<=m+s:=by
 induction h with
 | nil=>intro m hm;show⟨m,hm,()⟩
 | cons hi hj hb f ih =>
   rename_i r i j b s rest
   intro m hm
   let⟨m',e,le⟩:=ZS (os:=bC us room r) (bs:=fA us j (room r)) (m:=m+b) (NC.mpr ⟨i,b,m,(NA ok hj).mpr ⟨hi,hb⟩,hm,O⟩)
   rw[<-ND hj]at e
   let⟨M,e2,le2⟩:=ih e
   show⟨M,?_,()⟩
   rw[rC,show r+(rest.length+1)=r+1+rest.length by omega]
   show e2
def BC(us:List Un)(room:Nat->Int)(k:Nat)(M:Int):Prop :=
 k<=us.length/\oA (bC us room k) us.length=!M/\(∀i m,i<=us.length->oA (bC us room i) us.length=!m->M<=m)/\∀i,i<k->oA (bC us room i) us.length≠!M
theorem NE(room:Nat->Int):∀k,k<=us.length->∃s rest,Fw us room (us.length-k) (us.length-k) rest s/\rest.length=k
 | 0,_=>⟨0,[],.nil,O⟩
 | k + 1, h => by
   let⟨s,rest,f,e⟩:=NE (us:=us) room k ()
   have e1:us.length-k=us.length-(k+1)+1:=()
   obtain⟨b,hb⟩:∃b,du us (us.length-(k+1)) (us.length-(k+1)+1) (room (us.length-(k+1)))=!b:=by
     unfold du
     by_cases c:room (us.length-(k+1))-dX us (us.length-(k+1)) (us.length-(k+1)+1)<0
     · rw[if_pos c,if_pos ()];show⟨_,O⟩
     · rw[if_neg c];show⟨_,O⟩
   rw[e1]at f
   show⟨b+s,_::rest,.cons (rX _) () hb f,by rw[rC,e]⟩
def ZU(ok:∀u∈us,UOk u)(room:Nat->Int):∃M,oA (bC us room us.length) us.length=!M:=by
 let⟨s,rest,f,e⟩:=NE (us:=us) room us.length (qF _);rw[Nat.sub_self]at f;have h0:oA (bC us room 0) 0=!0:=rfl;let⟨M,e2,_⟩:=f.least ok h0;rw[e,Nat.zero_add]at e2;show⟨M,e2⟩
def OsAt(H:Hp)(a:Addr)(os:List (Option Int)):=H a=!.lst (os.map ov)
def PnAt(H:Hp)(a:Addr)(x:Nat×Int):=H a=!.tup [.int x.1,.int x.2]
def OsAt.same(s:Same H H'){x:List (Option Int)}(h:OsAt H a x):OsAt H' a x:=s _ _ h
def PnAt.same(s:Same H H'){x:Nat×Int}(h:PnAt H a x):PnAt H' a x:=s _ _ h
def sums_same(s:Same H H'){x:List (List (Option Int))}(h:LstAt OsAt H p x):LstAt OsAt H' p x:=eJ (λ_ _=>OsAt.same s) s h
def qa(s:Same H H'){x:List (Nat×Int)}(h:LstAt PnAt H p x):LstAt PnAt H' p x:=eJ (λ_ _=>PnAt.same s) s h
abbrev qb(H:Hp)(a:Addr)(x:List (List (Nat×Int))):Prop:=LstAt (λH a x=>LstAt PnAt H a x) H a x
abbrev wg(H:Hp)(a:Addr)(x:List (List (List (Nat×Int)))):Prop:=LstAt (λH a x=>qb H a x) H a x
def BD(s:Same H H'){x:List (List (Nat×Int))}(h:qb H p x):qb H' p x:=eJ (F:=λH a x=>LstAt PnAt H a x) (λ_ _=>qa s) s h
def NF(s:Same H H'){x:List (List (List (Nat×Int)))}(h:wg H p x):wg H' p x:=eJ (F:=λH a x=>qb H a x) (λ_ _=>BD s) s h
def je(us:List Un)(room:Int):List (List (Nat×Int)):=(List.range (us.length+1)).map λj=>fA us j room
def jf(us:List Un)(room:Nat->Int):List (List (List (Nat×Int))):=(List.range us.length).map λr=>je us (room r)
def gI(us:List Un)(room:Nat->Int):List (List (Option Int)):=(List.range (us.length+1)).map (bC us room)
def cq(wd:Int)(nw:Int×Int)(r:Nat):Int:=cR wd nw (r:Int)
inductive FF:List V->Hp->VK->XK->Prop
|m (a b:Addr) (os:List (Option Int)) (bs:List (Nat×Int)):vs=[.ref a,.ref b]->OsAt H a os->LstAt PnAt H b bs->bs.length<=100->(∀x∈bs,x.1<os.length)->(∀H',Same H H'->Q (ov (iJ os bs)) H')->FF vs H Q E
def NG(os:List (Option Int))(bs:List (Nat×Int))(m:Int)(i:Nat):=(∃b s,(i,b)∈bs/\oA os i=!s/\s+b=m)/\∀i' b s,(i',b)∈bs->oA os i'=!s->s+b=m->i<=i'
inductive FG:List V->Hp->VK->XK->Prop
|m (a c:Addr) (os:List (Option Int)) (bs:List (Nat×Int)) (m:Int):vs=[.ref a,.ref c,.int m]->OsAt H a os->LstAt PnAt H c bs->bs.length<=100->(∀x∈bs,x.1<os.length)->m∈cands os bs->(∀i H',Same H H'->NG os bs m i->Q (.int (i:Nat)) H')->FG vs H Q E
inductive FH:List V->Hp->VK->XK->Prop
|m (a:Addr) (room:Nat->Int) (us:List Un):vs=[.ref a]->LstAt OsAt H a (gI us room)->us.length<=100->(∀u∈us,UOk u)->(∀(k:Nat) (M:Int) H',Same H H'->BC us room k M->Q (.int k) H')->FH vs H Q E
def NnAt(H:Hp)(a:Addr)(x:Nat×Nat):=H a=!.tup [.int x.1,.int x.2]
def NnAt.same(s:Same H H'){x:Nat×Nat}(h:NnAt H a x):NnAt H' a x:=s _ _ h
def nns_same(s:Same H H'){x:List (Nat×Nat)}(h:LstAt NnAt H p x):LstAt NnAt H' p x:=eJ (λ_ _=>NnAt.same s) s h
def FI{os:List (Option Int)}{i:Nat}(h:i<os.length):bD (os.map ov) (i:Int)=!ov (oA os i):=by
 show eG ?_;unfold oA;rw[qK,qX,qB h];rfl
def ZV{os:List (Option Int)}{n:Nat}(h:os.length=n+1):bD (os.map ov) (-1)=!ov (oA os n):=by
 unfold bD fO;rw[if_neg {},if_pos (by rw[qA,h];omega),qA,h];show(os.map ov)[((-1:Int)+((n+1:Nat):Int)).toNat]?=_;rw[show((-1:Int)+((n+1:Nat):Int)).toNat=n by omega,qK];unfold oA;rw[qX,qB (show n<os.length by omega)];rfl
def jG(os:List (Option Int))(m:Int)(bs:List (Nat×Int)):TM:=bs.filterMap λx=>if(oA os x.1).map (·+ x.2)=!m then !x.1 else none
def FJ{os:List (Option Int)}{m:Int}{bs:List (Nat×Int)}{i:Nat}:i∈jG os m bs↔∃b s,(i,b)∈bs/\oA os i=!s/\s+b=m:=by
 unfold jG;rw[yL];constructor
 .ext⟨⟨i',b⟩,h1,h2⟩
  by_cases c:(oA os i').map (·+ b)=!m
  .rw[if_pos c]at h2;cases h2;let⟨s,h3,h4⟩:=Option.map_eq_some_iff.mp c;show⟨b,s,h1,h3,h4⟩
  .rw[if_neg c]at h2;cases h2
 .ext⟨b,s,h1,h3,h4⟩;show⟨(i,b),h1,?_⟩;rw[if_pos (by show(oA os i).map (·+ b)=!m;rw[h3];show xC some h4)]
def dD(us:List Un)(room:Nat->Int):List (Option Int):=(List.range (us.length+1)).map λi=>oA (bC us room i) us.length
def BE{room:Nat->Int}{i:Nat}(h:i<=us.length):(dD us room)[i]?=!oA (bC us room i) us.length:=by
 unfold dD;rw[qK,rV ()];rfl
def BF(us:List Un)(room:Nat->Int):(dD us room).length=us.length+1:=by simp[dD]
theorem NH{m:Int}:∀{l:List (Option Int)},some m∈l->∃k:Nat,l[k]?=!!m/\∀i:Nat,i<k->l[i]?≠!!m
 | [],h=>nomatch h
 | x :: l, h => by
   by_cases c:x=!m
   · show⟨0,by rw[c];rfl,λi hi=>absurd hi (yO _)⟩
   · rcases qO.mp h with h | h
     · show absurd h.symm c
     · let⟨k,h1,h2⟩:=NH h
       show⟨k+1,by rw[rN];show h1,λi hi=>?_⟩
       cases i with
       | zero=>intro z;show c (rD z)
       | succ i=>rw[rN];show h2 i ()
theorem ZW(ok:∀u∈us,UOk u){room:Nat->Int}:(dD us room).filterMap id≠[]/\∀{k:Nat},(dD us room)[k]?=!!mq ((dD us room).filterMap id)->(∀i:Nat,i<k->(dD us room)[i]?≠!!mq ((dD us room).filterMap id))->BC us room k (mq ((dD us room).filterMap id)):=by
 have mem:∀{m:Int} {i:Nat},i<=us.length->oA (bC us room i) us.length=!m->m∈(dD us room).filterMap id:=λ{m i} hi e=>by
  show yL.mpr ⟨!m,?_,O⟩;have:=qR (BE (room:=room) hi);rw[e]at this;show this
 show⟨λz=>?_,λ{k} h1 h2=>?_⟩
 .let⟨M,e⟩:=ZU ok room;have:=mem (qF _) e;rw[z]at this;cases this
 .have kl:k<=us.length:=by
   have:=(qI.mp h1).1;rw[BF]at this;omega
  rw[BE kl]at h1;show⟨kl,rD h1,λi m hi e=>p8 m (mem hi e),λi hi z=>h2 i hi ?_⟩;rw[BE (),z]
def qe{room:Nat->Int}{r:Nat}(h:r<=us.length):(gI us room)[r]?=!bC us room r:=by
 unfold gI;rw[qK,rV ()];rfl
def BG{room:Nat->Int}{r:Nat}(h:r<us.length):(jf us room)[r]?=!je us (room r):=by
 unfold jf;rw[qK,rV h];rfl
def FK{room:Int}{j:Nat}(h:j<=us.length):(je us room)[j]?=!fA us j room:=by
 unfold je;rw[qK,rV ()];rfl
theorem ZX{H:Hp}{c S:Addr}{os:List (Option Int)}{as:TQ}(h:OsAt H c os)(ne:os≠[])(hS:H S=!.lst (as.map V.ref)):c≠S:=λz=>by
 rw[z]at h;unfold OsAt at h;rw[hS]at h;cases os with
 | nil=>show ne O
 | cons o l =>
   cases as with
   | nil=>simp at h
   | cons a as =>
     simp at h
     cases o with
     | none=>show absurd h.1 (λz=>nomatch z)
     | some x=>show absurd h.1 (λz=>nomatch z)
def ZY(us:List Un)(room:Nat->Int)(r:Nat):bC us room r≠[]:=λz=>by
 have:=p9 us room r;rw[z]at this;simp at this
end Br
namespace L2
open PyProof.Rows
def ZZ:bootBuiltins "range" = !.type "range":=by ac_rfl
end L2
namespace Br
open L2 Bk Gen Gd Bd
inductive Ch(us:List Un)(room:Nat->Int):Nat->Nat->List (Nat×Nat)->Prop
 | nil:Ch us room 0 0 []
 | snoc {r i j:Nat} {m:Int} {rows:List (Nat×Nat)}:Ch us room r i rows->oA (bC us room (r+1)) j=!m->NG (bC us room r) (fA us j (room r)) m i->Ch us room (r+1) j (rows++[(i,j)])
def Z0(H H':Hp)(B:Addr)(ss:List (List (Option Int))):=H B=none/\∃as:TQ,H' B=!.lst (as.map V.ref)/\Paired (λc os=>OsAt H' c os/\H c=none) as ss
inductive FL:List V->Hp->VK->XK->Prop
|m (a b:Addr) (room:Nat->Int) (us:List Un):vs=[.ref a,.ref b]->wg H a (jf us room)->LstAt OsAt H b (gI us room)->us.length<=100->(∀u∈us,UOk u)->(∀(L:Addr) (rows:List (Nat×Nat)) (k:Nat) (M:Int) H',H L=none->Same H H'->LstAt NnAt H' L rows->Ch us room k us.length rows->BC us room k M->Q (.ref L) H')->FL vs H Q E
end Br
namespace L2
open PyProof.Rows
end L2
namespace Br
open L2 Bk Gen Gd Bd
def ovD:Option Int->W.Dat
 | none=>.none
 | some x=>.int x
def Z1(o:Option Int):dq H (ov o) (ovD o):=by
 cases o with
 | none=>show .non
 | some x=>show .int x
def NI:∀os:List (Option Int),fj H (os.map ov) (os.map ovD)
 | []=>.nil
 | o::os=>.cons (Z1 o) (NI os)
def osD(os:List (Option Int)):W.Dat:=.list (os.map ovD)
def Z2{os:List (Option Int)}(h:OsAt H a os):dq H (.ref a) (osD os):=.lst h (NI os)
def NJ:∀{as:TQ} {ss:List (List (Option Int))},Paired (OsAt H) as ss->fj H (as.map V.ref) (ss.map osD)
 | _,_,.nil=>.nil
 | _,_,.cons h t=>.cons (Z2 h) (NJ t)
def sums_in{ss:List (List (Option Int))}(h:LstAt OsAt H a ss):dq H (.ref a) (.list (ss.map osD)):=by
 let⟨as,e,p⟩:=h;show .lst e (NJ p)
def nnD(x:Nat×Nat):W.Dat:=.tuple [.int x.1,.int x.2]
def Z4{x:Nat×Nat}(h:NnAt H a x):dq H (.ref a) (nnD x):=.tup h (.cons (.int _) (.cons (.int _) .nil))
def NK:∀{as:TQ} {xs:List (Nat×Nat)},Paired (NnAt H) as xs->fj H (as.map V.ref) (xs.map nnD)
 | _,_,.nil=>.nil
 | _,_,.cons h t=>.cons (Z4 h) (NK t)
def rows_inD{xs:List (Nat×Nat)}(h:LstAt NnAt H a xs):dq H (.ref a) (.list (xs.map nnD)):=by
 let⟨as,e,p⟩:=h;show .lst e (NK p)
end Br
namespace L2
open PyProof.Rows
structure FM(P:Program)(w:World)(K:W.Frag)(mg:TJ)(base:Heap)(CX:cZ)(k:Nat)(x:Str)(ps:TV)(ds:TU)(sp:Sp):Prop where
 ex:∃f fd,aK P w K mg base CX k f fd ps sp/\Binds K fd ps ds/\W.keepIn K (.ref f)=true/\mg x=!.ref f
section
variable{X:Cx}{CX:cZ}{k:Nat}{ps:TV}{sp:Sp}{E:XK}{x:Str}{p pos:Pos}{e:Expr}{es:TW}{t:TA}{ds:TU}{iX:List V}
def Z5(F:FM X.prog X.w X.K X.mg X.base CX k x ps ds sp)(hd:Vals iX ds)(hr:Room k X.A)(hg:Gl X x)(hx:sw CX X E)(ha:PA X (e::es) t)(gQ:(x == ("__debug__" : Str))=false:=by decide)(he:starEach (e::es) X.env=(false,eval e X.env)::starEach es X.env:=by rfl)(dJ:(backTo pos (starEach es X.env)).any (·.1)=false:=by rfl):PE X (.Call (.Name x p) (e::es) [] pos) (Ao sp iX E t):=by
 let⟨f,fd,G,b,kp,m⟩:=F.ex;show JL G hr hg m kp b hd hx ha gQ he dJ
end
end L2
namespace Fc
open L2 Bk Gen Gd Bd
def Ux(H0 H:Hp)(xs:List (Addr×List (Addr×Addr)))(rows:List (List dt)):Prop :=
 Paired (λx us=>H0 x.1=none/\H x.1=!.lst ((x.2.map Prod.fst).map V.ref)/\Paired (λp u=>UtAt H p u/\H0 p.1=none/\H0 p.2=none) x.2 us) xs rows/\((xs.map Prod.snd).flatten.map Prod.snd).Nodup/\∀x∈xs,∀p∈x.2,∀y∈xs,p.2≠y.1
theorem NL{H0 H:Hp}{xs:List (Addr×List (Addr×Addr))}{rows:List (List dt)}(h:Paired (λx us=>H0 x.1=none/\H x.1=!.lst ((x.2.map Prod.fst).map V.ref)/\Paired (λp u=>UtAt H p u/\H0 p.1=none/\H0 p.2=none) x.2 us) xs rows):∀x∈xs,(∃o,H x.1=!o)/\∀p∈x.2,∃o,H p.2=!o:=by
 have FN:∀{l:List (Addr×Addr)} {us:List dt},Paired (λp u=>UtAt H p u/\H0 p.1=none/\H0 p.2=none) l us->∀p∈l,∃o,H p.2=!o:=by
  intro l us q
  induction q with
  | nil=>intro p hp;cases hp
  | cons q t ih =>
    intro p hp
    rcases qO.mp hp with rfl | hp
    · show⟨_,q.1.2⟩
    · show ih p hp
 induction h with
 | nil=>intro x hx;cases hx
 | cons q t ih =>
   intro x hx
   rcases qO.mp hx with rfl | hx
   · show⟨⟨_,q.2.1⟩,FN q.2.2⟩
   · show ih x hx
theorem Ux.step{H0 H H2:Hp}{xs:List (Addr×List (Addr×Addr))}{rows:List (List dt)}{a:Addr}{us:List dt}(h:Ux H0 H xs rows)(s0:Same H0 H)(s:Same H H2)(u:UsAt H H2 a us):∃ps,Ux H0 H2 (xs++[(a,ps)]) (rows++[us]):=by
 obtain⟨pr,nd,ap⟩:=h;let⟨na,ps,ea,pu,Z6⟩:=u;have so:=NL pr;have nn:∀p∈ps,H p.2=none/\p.2≠a:=by
  have:∀{l:List (Addr×Addr)} {us:List dt},Paired (λp u=>UtAt H2 p u/\H p.1=none/\H p.2=none/\p.2≠a) l us->∀p∈l,H p.2=none/\p.2≠a:=by
   intro l us q
   induction q with
   | nil=>intro p hp;cases hp
   | cons q t ih =>
     intro p hp
     rcases qO.mp hp with rfl | hp
     · show⟨q.2.2.1,q.2.2.2⟩
     · show ih p hp
  show this pu
 show⟨ps,(pr.mono λx us q=>⟨q.1,s _ _ q.2.1,q.2.2.mono λp u z=>⟨z.1.same s,z.2⟩⟩).snoc ⟨s0.free na,ea,pu.mono λp u z=>⟨z.1,s0.free z.2.1,s0.free z.2.2.1⟩⟩,?_,?_⟩
 .rw[qD,List.flatten_append,qD];show uS.mpr ⟨nd,‹Z6›,λy hy z hz e=>?_⟩;let⟨p,hp,rfl⟩:=qW.mp hy;let⟨l,hl,dJ⟩:=List.mem_flatten.mp hp;let⟨x,hx,rfl⟩:=qW.mp hl;let⟨o,eo⟩:=(so x hx).2 p dJ;have vi:z∈ps.map Prod.snd:=‹hz›
  let⟨p',gp,rfl⟩:=qW.mp vi;rw[e,(nn p' gp).1]at eo;cases eo
 .intro x hx p hp y hy;rcases rG.mp hx with hx | hx
  .rcases rG.mp hy with hy | hy
   .show ap x hx p hp y hy
   .rw[List.mem_singleton.mp hy];let⟨o,eo⟩:=(so x hx).2 p hp;show λz=>by
     have z':p.2=a:=z;rw[z',na]at eo;cases eo
  .rw[List.mem_singleton.mp hx]at hp;rcases rG.mp hy with hy | hy
   .let⟨o,eo⟩:=(so y hy).1;show λz=>by rw[<-z,(nn p hp).1]at eo;cases eo
   .rw[List.mem_singleton.mp hy];show(nn p hp).2
def Ux.same{xs:List (Addr×List (Addr×Addr))}(h:Ux H0 H xs rows)(s:Same H H2):Ux H0 H2 xs rows:=⟨h.1.mono λx us q=>⟨q.1,s _ _ q.2.1,q.2.2.mono λp u z=>⟨z.1.same s,z.2⟩⟩,h.2⟩
inductive spAllU:List V->Hp->VK->XK->Prop
|m (B p F S:Addr) (held:Bool) (ds:List Nd) (fs:List cN) (sh:TK) (ls:TB):vs=[.ref B,.ref p,.ref F,.ref S,.bl held]->cB (λ_=>True) H B ds->LstAt LkAt H p ls->ls.length=ds.length->(∀l∈ls,l.length=13)->LstAt FcAt H F fs->LstAt ShAt H S sh->Ft ds fs sh->(∀(L:Addr) (xs:List (Addr×List (Addr×Addr))) (H':Hp),H L=none->Same H H'->H' L=!.lst ((xs.map Prod.fst).map V.ref)->(∀x∈xs,x.1≠L/\∀p∈x.2,p.2≠L)->Ux H H' xs (jD ds fs sh held ls)->Q (.ref L) H')->spAllU vs H Q E
end Fc
namespace L2
open PyProof.Rows
def Z7:Vals [V.bl false] [Value.bool false]:=.cons O .nil
end L2
namespace Fc
open L2 Bk Gen Gd Bd
theorem Z8(ds:List Nd)(n:Nat):(ay ds n).length=(kk ds n).length:=by
 have e:∀l:List Nd,(List.range l.length).filterMap (λj=>l[j]?)=l:=by
  intro l
  induction l with
  | nil=>rfl
  | cons a l ih =>
    rw[rC,List.range_succ_eq_map,yP,List.filterMap_map]
    show xC (a :: ·) ih
 unfold kk ay;rw[qA]
 conv=>rhs;rw[<-e ds]
 rw[<-List.countP_eq_length_filter,<-List.countP_eq_length_filter,List.countP_filterMap];apply List.countP_congr;intro j hj;rw[qB (xF.mp hj)];simp[vk]
def Z9{sh:TK}(b:Book ds)(le:ds.length<=100)(fne:fs≠[])(fl:fs.length<=1000)(fok:∀f∈fs,om f)(sok:on sh):Ft ds fs sh:=by
 show⟨le,fne,fl,fok,sok,λn d h hk=>?_⟩;have h1:=(b.form d (qR h)).st;have h2:=(Bk.Book.each b h).kids.2.2.2 (by rcases hk with e | e | e<;>rw[e]<;>rfl);have h3:(∀x∈d.st,gq x)/\(∃x r,d.st=x::r/\gV x=false)/\d.st.length<=60:=by
  rcases hk with e | e | e<;>rw[e]at h1<;>show h1
 show⟨h3.1,h3.2.1,h3.2.2,λt j hj=>?_⟩;rw[Z8];have:j∈fT d.st:=yL.mpr ⟨_,hj,O⟩;rw[h2]at this;let⟨i,hi,e⟩:=qW.mp this;have:=xF.mp hi;have e':(i:Int)=j:=e;omega
theorem NM{sh:TK}{held:Bool}{num:Int}{kids:TN}:∀i,(cV fs sh held num kids st i).length<=i
 | 0=>qF _
 | i + 1 => by
   have ih:=NM (fs:=fs) (sh:=sh) (held:=held) (num:=num) (kids:=kids) (st:=st) i
   unfold cV
   cases st[i]? with
   | none=>show yG ih
   | some x =>
     show(jC fs sh held num kids i _ x).length<=i+1
     generalize cV fs sh held num kids st i=acc at ih
     have nt:∀v,(kG acc v).length<=i+1:=λv=>by
       by_cases e:acc=[]
       · rw[e];show rS _
       · let⟨us,u,e1,e2⟩:=Bv e v
         rw[e2]
         rw[e1]at ih
         simp at ih⊢
         omega
     have mo:∀u:dt,(acc++[u]).length<=i+1:=λu=>by rw[qG];show uU ih
     have sm:acc.length<=i+1:=yG ih
     cases x with
     | int n=>show sm
     | tri s y t=>cases s<;>cases y<;>first | show nt _ | show mo _ | show sm
end Fc
namespace K32
open L2 Bk Gen Gd Bd Fc
abbrev mr:=top 33
def qaa:iH (s!"face") 0:=⟨by ac_rfl,λi h=>nomatch h⟩
theorem qab(F:FunD K "all_units" "all_units" mr f fd)(T:bP mg)(cg:⋯ 1 "look_at" ["looks", "node", "word"] fz)(qac:⋯ 3 "node_units" ["book", "number", "faces", "shown", "held", "node"] (oo 4 Fu)):(~~~0) 4 f fd ["book", "looks", "faces", "shown", "held"] (oo 4 spAllU):=by
 rcases F.go ["book", "looks", "faces", "shown", "held"] with⟨hv,B,p,FA,S,held,ds,fs,sh,ls,rfl,hB,hp,ll,l13,hF,hS,cx,q⟩;have le:=cx.le;let⟨ab,FO,nd⟩:=id hB;have lb:ab.length=ds.length:=qN nd;have lu:(jD ds fs sh held ls).length=ds.length:=by simp[jD]
 have el:(((ab.map V.ref).length:Nat):Int).toNat=ds.length:=by rw[qA];omega
 show⟨_,(ax (aG (cm ["node"] ["book", "faces", "shown", "held", "looks"] [0,2,3,4,1] (r1 T.range (ln T.len (pv 0))) (nv 0) bf (cF qac hr (aI (pv 1) (aI (cF cg hr (a3 (pv 5) (pv 0) aO)) (aI (pv 2) (a3 (pv 3) (pv 4) (pv 0))))))))),?_⟩;show⟨_,O,B,_,O,.inl (SqL.of FO),_,O,(),by rw[qA];omega,kg (n:=(((ab.map V.ref).length:Nat):Int).toNat) (λi ys ae H'=>Same H H'/\(∃z,ae=[z,!.ref B,!.ref FA,!.ref S,!.bl held,!.ref p])/\∃xs,ys=(xs.map Prod.fst).map V.ref/\xs.length=i/\Ux H H' xs ((jD ds fs sh held ls).take i)) (by rw[el];show aR ()) ⟨Same.refl _,⟨none,O⟩,[],O,O,.nil,u6,λx hx=>nomatch hx⟩ ?_ ?_ ?_⟩
 .ext i ys ae H' hi ⟨_,_,xs,rfl,lx,_⟩;rw[qA,qA,lx];show qF _
 .ext i ys ae H' hi ⟨s1,⟨z,rfl⟩,xs,rfl,lx,ux⟩;rw[el]at hi;have eu:(jD ds fs sh held ls)[i]?=!mf ds fs sh held (aB ls i 0) i:=by
   unfold jD;rw[qK,rV hi];rfl
  show a7 0 (V.int (0+(i:Int))) _ _ _;rw[uC];show⟨_,O,_,O,_,O,p,i,0,_,ls,O,cU s1 hp,(),l13,{},qaa,?_⟩;show⟨_,O,_,O,_,O,_,O,hv,B,FA,S,aB ls i 0,held,i,ds,fs,sh,O,ZB s1 hB,Nc s1 hF,Nf s1 hS,hi,cx,λR H2 s2 us2=>?_⟩;let⟨ps,ux2⟩:=ux.step s1 s2 us2;show⟨s1.trans s2,⟨_,O⟩,xs++[(R,ps)],by rw[qD,qD];rfl,by rw[qG,lx];rfl,?_⟩;rw[qS,eu];show ux2
 ext ys ae H' ⟨s1,_,xs,rfl,lx,ux⟩ D hD;rw[el,qH ()]at ux;have so:=NL ux.1;show q D xs _ (s1.free hD) (s1.trans (ao hD _)) aj (λx hx=>⟨λz=>?_,λp hp z=>?_⟩) (ux.same (ao hD _))
 .let⟨o,e⟩:=(so x hx).1;rw[z,hD]at e;cases e
 .let⟨o,e⟩:=(so x hx).2 p hp;rw[z,hD]at e;cases e
end K32
namespace Fc
open L2 Bk Gen
def ou(f:cN):=(1<=f.hi/\f.hi<=12)/\(0<=f.bl/\f.bl<=4)/\(1<=f.wi/\f.wi<=9)/\∀p∈f.odd,1<=p.2/\p.2<=9
def qf(x:Str):=Wd x/\1<=x.cps.size/\x.cps.size<=4
end Fc
namespace K32
open L2 Bk Gen Gd Bd Fc
abbrev NO:=top 123
def FcX(L:Addr)(H:Hp)(a:Addr)(f:cN):=∃M,M≠L/\H a=!.tup [.int f.hi,.int f.bl,.int f.wi,.ref M]/\LstAt OdAt H M f.odd
def FcX.at(h:FcX L H a f):FcAt H a f:=by
 let⟨M,_,e,l⟩:=h;show⟨M,e,l⟩
def jH{H:Hp}{L st:Addr}{as:TQ}(h:H L=!.lst (as.map V.ref))(S:StOk H st):L≠st:=λz=>by
 let⟨x,y,e,_⟩:=S;rw[z,e]at h;have:=HO.lst.inj (rD h);cases as with
 | nil=>cases this
 | cons a as=>cases this
def mw(h:H c=!.tup xs)(S:StOk H st):c≠st:=λz=>by
 let⟨x,y,e,_⟩:=S;rw[z,e]at h;cases h
def BH(S:StOk H st)(k:Keep1 st H H'){od:List (Str×Int)}(h:Paired (OdAt H) as od):Paired (OdAt H') as od:=h.mono λ_ _ e=>k _ _ (mw e S) e
def FcX.keep(S:StOk H st)(k:Keep1 st H H')(h:FcX L H a f):FcX L H' a f:=by
 let⟨M,n,e,as,eM,p⟩:=h;show⟨M,n,k _ _ (mw e S) e,as,k _ _ (jH eM S) eM,BH S k p⟩
def FcX.put(hL:H L=!.lst ys)(h:FcX L H a f):FcX L (af H L o) a f:=by
 let⟨M,n,e,as,eM,p⟩:=h;show⟨M,n,Tups.lst hL _ _ e,as,by rw[aE n];show eM,p.mono λ_ _ e=>Tups.lst hL _ _ e⟩
inductive FP:List V->Hp->VK->XK->Prop
|m (st:Addr):vs=[.ref st]->StOk H st->(∀(F:Addr) (fs:List cN) (H':Hp),H F=none->LstAt FcAt H' F fs->fs≠[]->fs.length<=4->(∀f∈fs,om f)->(∀f∈fs,ou f)->StOk H' st->Keep1 st H H'->Q (.ref F) H')->FP vs H Q E
def FQ:TV:=[s!"",s!"M",s!"Mi",s!"Mil"]
def mz(x:Str):TV:=x.cps.toList.map λc=>⟨#[c]⟩
def qad:∀x∈FQ,(mz x).Nodup/\x.cps.size<=3/\x.cps.all (·< 128)=true/\∀y∈mz x,PyData.strOk y=true:=by ac_rfl
theorem qae(F:Fun K "_law_faces" "_law_faces" NO f fd)(T:bP mg)(bx:⋯ 1 "_law_take" ["_law_stream_here", "_law_most"] gY):(~~~0) 2 f fd ["_law_stream_here"] FP:=by
 rcases F.go ["_law_stream_here", "_law_found", "_law_k", "_law_odd"] with⟨st,rfl,S0,q⟩;show⟨_,(ar (sv 1 (a0 bH))
  (ar (fv (r1 T.range (aH bc aw (cF bx hr (a2 (pv 0) aw)))) (nv 2)
  (ar (sm 3 ["_law_sign"] ["_law_stream_here"] [0] (Mt (px aC (a0 (aI aO (a3 aO aO aO))) (cF bx hr (a2 (pv 0) aw)))) (nv 0) bf (br (a2 (pv 0) (aH bc aw (cF bx hr (a2 (pv 1) aw))))))
  (ax (bX (ap (pv 1) (br (aI (aH bc aw (cF bx hr (a2 (pv 0) aw))) (a3 (cF bx hr (a2 (pv 0) aw)) (aH bc aw (cF bx hr (a2 (pv 0) aw))) (pv 3)))))))))
  (ax (aG (pv 1))))),?_⟩
 show⟨aM,λL hL=>?_⟩;have s1:=ao hL (.lst []);have bg:af H L (.lst []) L=!.lst (([]:TQ).map V.ref):=aj;generalize af H L (.lst [])=H1 at s1 bg⊢;have S1:=S0.same s1;show⟨_,O,st,4,O,S1,{},{},λr1 H2 r10 r11 S2 K2=>⟨_,_,O,O,_,O,(),(),gg (λi σ H'=>(∃z3 z4,σ=[!.ref st,!.ref L,z3,z4])/\StOk H' st/\Keep1 st H H'/\∃as fs,H' L=!.lst (as.map V.ref)/\Paired (FcX L H') as fs/\fs.length=i/\(∀f∈fs,om f)/\∀f∈fs,ou f) ⟨⟨_,_,O⟩,S2,s1.keep.trans K2,[],[],K2 _ _ (jH bg S1) bg,.nil,O,(λf hf=>nomatch hf),λf hf=>nomatch hf⟩ ?_ ?_⟩⟩
 .rintro i σ H' hi ⟨⟨z3,z4,rfl⟩,S3,K3,as,fs,bI,pr,lf,ok,FR⟩;have i8:i<=8:=()
  show⟨aM,λu hu=>?_⟩;have sU:=ao hu (.lst (FQ.map V.str));show⟨_,O,st,4,O,S3.same sU,{},{},λr4 H7 nM nN S7 K7=>?_⟩;let⟨x,ex,mx⟩:=Ef (nms:=FQ) nM nN;let⟨nss,BI,lo7,sso⟩:=qad x mx;have K37:Keep1 st H' H7:=sU.keep.trans K7;show⟨u,_,_,_,O,O,SqL.of (K7 _ _ (bO S3.some hu) aj),ex,?_⟩;show⟨x,O,lo7,Mu (x:=x) (λj ys ae H8=>∃bs od,ys=bs.map V.ref/\Paired (OdAt H8) bs od/\od.map Prod.fst=(mz x).take j/\(∀p∈od,1<=p.2/\p.2<=9)/\(∃z,ae=[z,!.ref st])/\StOk H8 st/\Keep1 st H7 H8) (aR ()) ⟨[],[],O,.nil,O,(λp hp=>nomatch hp),⟨none,O⟩,S7,KeepN.refl⟩ ?_ ?_ ?_⟩
  .ext j ys ae H8 hj ⟨bs,od,rfl,pb,eo,_,_,_,K8⟩;have:=xC List.length eo;rw[qA,qQ]at this;rw[qA,qN pb,this];show qV _ _
  .rintro j c ys ae H8 hy ⟨bs,od,rfl,pb,eo,ob,⟨z,rfl⟩,S8,K8⟩;show⟨_,O,_,O,st,9,O,S8,{},{},λr9 H9 r90 r91 S9 K9=>⟨_,_,O,O,aM,λt ht=>?_⟩⟩;have FS:=ao ht (.tup [.str ⟨#[c]⟩,.int (1+r9)]);show⟨bs++[t],od++[((⟨#[c]⟩:Str),1+r9)],by rw[qD];rfl,((BH S8 K9 pb).mono λ_ _ h=>OdAt.same FS h).snoc aj,?_,λp hp=>?_,⟨_,O⟩,S9.same FS,(K8.trans K9).trans FS.keep⟩
   .have ec:(mz x)[j]?=!⟨#[c]⟩:=by
     unfold mz;rw[qK,uF,hy];rfl
    rw[qD,eo,qS,ec];rfl
   .rcases rG.mp hp with hp | hp
    .show ob p hp
    .rw[List.mem_singleton.mp hp];show 1<=1+r9/\1+r9<=9;omega
  ext ys ae H8 ⟨bs,od,rfl,pb,eo,ob,_,S8,K8⟩ M hM;rw[qH (by unfold mz;rw[qA,xI];show qF _)]at eo;have sM:=ao hM (.lst (bs.map V.ref));have wj:LstAt OdAt (af H8 M (.lst (bs.map V.ref))) M od:=⟨bs,aj,pb.mono λ_ _ h=>OdAt.same sM h⟩;have K38:=K37.trans K8;have NP:=K38 _ _ (jH bI S3) bI;have ML:M≠L:=λz=>by rw[z,NP]at hM;cases hM
  generalize af H8 M (.lst (bs.map V.ref))=H9 at sM wj⊢;have S9:=S8.same sM;have K39:=K38.trans sM.keep;have hL9:=sM _ _ NP;show⟨_,O,.inl ⟨O,_,SqL.of hL9⟩,_,O,st,12,O,S9,{},{},λra Ha ra0 ra1 Sa Ka=>⟨_,_,O,O,_,O,st,5,O,Sa,{},{},λrb Hb rb0 rb1 Sb Kb=>⟨_,O,st,6,O,Sb,{},{},λrc Hc rc0 rc1 Sc Kc=>⟨_,_,O,O,_,O,aM,λt ht=>?_⟩⟩⟩⟩;have K9c:Keep1 st H9 Hc:=(Ka.trans Kb).trans Kc;have sT:=ao ht (.tup [.int (1+ra),.int rb,.int (1+rc),.ref M]);have eW:=aj (H:=Hc) (a:=t) (o:=.tup [.int (1+ra),.int rb,.int (1+rc),.ref M]);generalize af Hc t (.tup [.int (1+ra),.int rb,.int (1+rc),.ref M])=Hd at sT eW⊢;have FT:Keep1 st H9 Hd:=K9c.trans sT.keep;have Sd:=Sc.same sT;have FU:=K39.trans FT;have BJ:=FU _ _ (jH bI S3) bI;have la:=qN pr;show⟨L,_,_,O,O,BJ,aR (by rw[qA];omega),?_⟩;have Lst:=jH BJ Sd;let⟨sx,sy,es,ez⟩:=Sd;have fx:FcX L Hd t ⟨1+ra,rb,1+rc,od⟩:=by
   let⟨mas,eM,pM⟩:=wj;show⟨M,ML,eW,mas,FT _ _ (jH eM S9) eM,BH S9 FT pM⟩
  show⟨⟨_,_,O⟩,⟨sx,sy,by rw[aE (Ne.symm Lst)];show es,ez⟩,λb o n e=>by rw[aE (cH e hL)];show FU b o n (K3 b o n e),as++[t],fs++[⟨1+ra,rb,1+rc,od⟩],by rw[aj,qD];rfl,(pr.mono λ_ _ h=>(h.keep S3 FU).put BJ).snoc (fx.put BJ),by rw[qG,lf];rfl,λf hf=>?_,λf hf=>?_⟩
  rotate_left
  .rcases rG.mp hf with hf | hf
   .show FR f hf
   .rw[List.mem_singleton.mp hf];show⟨⟨by show 1<=1+ra;omega,by show 1+ra<=12;omega⟩,⟨rb0,by show rb<=4;omega⟩,⟨by show 1<=1+rc;omega,by show 1+rc<=9;omega⟩,ob⟩
  rcases rG.mp hf with hf | hf
  .show ok f hf
  .rw[List.mem_singleton.mp hf];have lo:od.length<=7:=by
    have lx:(mz x).length<=3:=by unfold mz;rw[qA,xI];show BI
    have:=xC List.length eo;rw[qA]at this;omega
   show⟨by show(od.map Prod.fst).Nodup;rw[eo];show nss,by show od.length<=1000;omega,by show 0<=1+rc/\1+rc<=1000000;omega,λp hp=>by have:=ob p hp;omega⟩
 .ext σ H' ⟨⟨z3,z4,rfl⟩,S3,K3,as,fs,bI,pr,lf,ok,FR⟩;show⟨_,O,q L fs H' hL ⟨as,bI,pr.mono λ_ _ h=>h.at⟩ (λz=>by rw[z]at lf;have:(0:Nat)=(1+r1).toNat:=lf;omega) () ok FR S3 K3⟩
end K32
namespace Tim
open PyProof.Rows
end Tim
namespace Shr
def qaf{x:Int}(h:1<=x/\x<=9):0<2520 / x/\2520 / x*x=2520:=by
 have:x=1\/x=2\/x=3\/x=4\/x=5\/x=6\/x=7\/x=8\/x=9:=()
 rcases this with rfl | rfl | rfl | rfl | rfl | rfl | rfl | rfl | rfl<;>decide
def NQ{M w:Int}(hM:0<M)(hw:0<w){t:Nat}(h:∀s:Nat,s<t->M*((s:Int)+1) % w≠0):(t:Int)<w:=by
 show Classical.byContradiction λc=>?_
 obtain⟨v,hv⟩:∃v:Nat,(v:Int)+1=w:=⟨(w-1).toNat,()⟩;show h v () ?_;rw[hv];show Int.mul_emod_left M w
end Shr
namespace L2
open PyProof.Rows
open PySem.W (KasT kas_sort kas_ask kas_asc kas_desc kas_rev kas_tail3 kas_descPart kas_count kas_place kas_bin)
end L2
namespace L2
open PyProof.Rows
variable{X:Cx}
end L2
namespace Gd
open L2 Gen
def big(l:TN):Int:=l.foldl max 0
theorem ox:∀(l:TN) (a:Int),a<=l.foldl max a/\∀x∈l,x<=l.foldl max a
 | [],a=>⟨Int.le_refl _,λx hx=>nomatch hx⟩
 | y :: l, a => by
   let⟨h1,h2⟩:=ox l (max a y)
   rw[xE]
   show⟨(),λx hx=>?_⟩
   rcases qO.mp hx with rfl | hx
   · omega
   · show h2 x hx
theorem wl:∀(l:TN) (a:Int),l.foldl max a∈a::l
 | [],a=>∅
 | y :: l, a => by
   rw[xE]
   have h:=wl l (max a y)
   rcases qO.mp h with e | h
   · rw[e]
     by_cases z:a<=y
     · rw[Int.max_eq_right z];simp
     · rw[Int.max_eq_left ()];simp
   · show qU _ (qU _ h)
def qag(l:TN):big l∈[0]++l:=wl l 0
def qah(l:TN):∀x∈[0]++l,x<=big l:=λx hx=>by
 rcases qO.mp hx with rfl | hx
 .show(ox l 0).1
 .show(ox l 0).2 x hx
def qai{l:TN}{B:Int}(hB:0<=B)(h:∀x∈l,x<=B):0<=big l/\big l<=B:=by
 show⟨(ox l 0).1,?_⟩;rcases qO.mp (wl l 0)with e | e
 .show l.foldl max 0<=B;rw[e];show hB
 .show h _ e
def cX(ps:List Pl):TN:=ps.map λp=>(p.r:Int)+p.d
def many(ps:List Pl):Nat:=(big (cX ps)).toNat
def BK(ps:List Pl):((many ps:Nat):Int)=big (cX ps):=by
 unfold many;have:=(ox (cX ps) 0).1;have e:big (cX ps)=(cX ps).foldl max 0:=rfl;omega
theorem qaj(h:ps≠[]):((many ps:Nat):Int)∈cX ps:=by
 rw[BK];rcases qO.mp (wl (cX ps) 0)with e | e
 .obtain⟨p,l,rfl⟩:∃p l,ps=p::l:=by
   cases ps with
   | nil=>show absurd O h
   | cons p l=>show⟨p,l,O⟩
  have h1:=(ox (cX (p::l)) 0).2 ((p.r:Int)+p.d) (by simp[cX]);rw[e]at h1;have h2:(p.r:Int)+p.d=0:=()
  have e':big (cX (p::l))=0:=e;rw[e',<-h2];simp[cX]
 .show e
def qak:∀x∈cX ps,x<=((many ps:Nat):Int):=λx hx=>by
 rw[BK];show(ox _ 0).2 x hx
def qal{B:Nat}(h:∀p∈ps,p.r+p.d<=B):many ps<=B:=by
 have h1:=(qai (l:=cX ps) (B:=B) () λx hx=>by
  let⟨p,hp,rfl⟩:=qW.mp hx;have:=h p hp;omega).2
 rw[<-BK]at h1;omega
def fB(zs:List (Pl×Int))(bF:TN)(row:Nat):TN:=(zs.filter λx=>decide (x.1.r+x.1.d=row+1)).map λx=>x.2-(bF.drop x.1.r).sum
def NR(zs:List (Pl×Int))(x:Pl×Int)(bF:TN)(row:Nat):fB (zs++[x]) bF row=fB zs bF row++if x.1.r+x.1.d=row+1 then[x.2-(bF.drop x.1.r).sum]else[]:=by
 unfold fB;rw[rT,qD]
 by_cases h:x.1.r+x.1.d=row+1<;>simp[h]
def cJ(zs:List (Pl×Int)):Nat->List Int
 | 0=>[]
 | n+1=>cJ zs n++[big (fB zs (cJ zs n) n)]
def NS(zs:List (Pl×Int)):∀n,(cJ zs n).length=n
 | 0=>rfl
 | n+1=>by rw[cJ,qG,NS zs n];rfl
theorem NT:∀{l:TN},(∀x∈l,0<=x)->0<=l.sum
 | [],_=>∅
 | x :: l, h => by
   rw[List.sum_cons]
   have h1:=h x rB
   have h2:=NT (l:=l) λy hy=>h y (qU _ hy)
   omega
def qam{ps:List Pl}{hs:TN}{i:Nat}{p:Pl}{h:Int}(e1:ps[i]?=!p)(e2:hs[i]?=!h):(ps.zip hs)[i]?=!(p,h):=by
 rw[List.getElem?_zip_eq_some];show⟨e1,e2⟩
def mB{hs:TN}{i:Nat}(h:(hs.map V.int)[i]?=!x):∃n,hs[i]?=!n/\x=.int n:=by
 rw[qK]at h;let⟨n,e,rfl⟩:=Option.map_eq_some_iff.mp h;show⟨n,e,O⟩
inductive FV:List V->Hp->VK->XK->Prop
|m (a:Addr) (p:Pl):vs=[.ref a]->PlAt H a p->Q (.int ((p.r:Int)+p.d)) H->FV vs H Q E
def qan{xs:TN}{r:Nat}:fN (xs.map V.int) (!(r:Int)) none=(xs.drop r).map V.int:=by
 unfold fN;rw[HT.sIx_nat,HT.sIx_none,qA,qH (by rw[uI,qA];show qF _),<-vN]
 by_cases h:r<=xs.length
 .rw[yW h]
 .rw[Nat.min_eq_right (),List.drop_length,List.drop_of_length_le ()]
def qao{xs:TN}{r e:Nat}(h1:r<=e)(h2:e<=xs.length):fN (xs.map V.int) (!(r:Int)) (!(e:Int))=((xs.drop r).take (e-r)).map V.int:=by
 unfold fN;rw[HT.sIx_nat,HT.sIx_nat,qA,yW (show r<=xs.length by omega),yW h2,<-vN,<-uV]
end Gd
namespace L2
open PyProof.Rows
abbrev dw(h:Heap)(T:Addr)(p q r:Value):Prop:=h.get? T=!{cls:=.type "tuple",data:=.seq #[p,q,r]}
structure Z3(z TI TO i1 i2 i3:Addr):Prop where
 nd:[z,TI,TO,i1,i2,i3].Nodup
abbrev Off(z TO i1 i2 i3 l:Addr):Prop:=l≠z/\l≠TO/\l≠i1/\l≠i2/\l≠i3
def Z3.all{z TI TO i1 i2 i3:Addr}(D:Z3 z TI TO i1 i2 i3):(TI≠z/\TO≠z/\i1≠z/\i2≠z/\i3≠z)/\(TI≠TO/\TI≠i1/\TI≠i2/\TI≠i3)/\(TO≠i1/\TO≠i2/\TO≠i3)/\(i1≠i2/\i1≠i3)/\i2≠i3:=by
 have h:=D.nd;simp only[List.nodup_cons,List.mem_cons,List.not_mem_nil,or_false,not_or,List.nodup_nil,and_true,not_false_eq_true]at h;let⟨⟨a1,a2,a3,a4,a5⟩,⟨b1,b2,b3,b4⟩,⟨c1,c2,c3⟩,⟨d1,d2⟩,e⟩:=h;show⟨⟨Ne.symm a1,Ne.symm a2,Ne.symm a3,Ne.symm a4,Ne.symm a5⟩,⟨b1,b2,b3,b4⟩,⟨c1,c2,c3⟩,⟨d1,d2⟩,e⟩
section
variable{prog:Program}{w:World}{A:Around}{E:TH}{s:Shared}
def FW{k:Nat}{Q:Unit->Shared->Prop}(hT:dw s.heap T p q r)(h:∀g,g.get? T=!{cls:=.type "tuple",data:=.seq ((#[p,q,r]:Array Value).setIfInBounds k x)}->Heap.SameBut T s.heap g->Q Unit.unit {s with heap:=g}) :
  wpAny (model prog w) A (updateSeq T (·.setIfInBounds k x)) Q E s:=by
 show uE hT O (h _ ?_ (Heap.SameBut.update ..));rw[xT _ hT O];simp[Obj.mapSeq]
theorem qap{z TI TO i1 i2 i3 l1 l2 l3:Addr}{k:Nat}{xs ys zs:Array Value}{x y v p q r:Value}{Q:TH}(D:Z3 z TI TO i1 i2 i3)(f1:Off z TO i1 i2 i3 l1)(f2:Off z TO i1 i2 i3 l2)(f3:Off z TO i1 i2 i3 l3)(hz:IsZip s.heap z TI TO .none)(ti:dw s.heap TI (.ref i1) (.ref i2) (.ref i3))(to:dw s.heap TO p q r)(a1:s.heap.IsListIter i1 l1 k)(a2:s.heap.IsListIter i2 l2 k)(a3:s.heap.IsListIter i3 l3 k)(b1:s.heap.IsList l1 xs)(b2:s.heap.IsList l2 ys)(b3:s.heap.IsList l3 zs)(hx:xs[k]?=!x)(hy:ys[k]?=!y)(hv:zs[k]?=!v)(hQ:∀g,IsZip g z TI TO (rawInt (~~~s))->dw g TO x y v->g.IsListIter i1 l1 (k+1)->g.IsListIter i2 l2 (k+1)->g.IsListIter i3 l3 (k+1)->dw g (~~~s) x y v->g.objs.size= ~~~s+1 ->
   (∀c o,Off z TO i1 i2 i3 c->s.heap.get? c=!o->g.get? c=!o)->Q (.ref (~~~s)) {s with heap:=g}) :
  wpAny (model prog w) A (Builtin.«zip.__next__» ⟨[.ref z],[]⟩) (λfin s'=>∃u,fin=.done (.ret u)/\Q u s') E s:=by
 let⟨⟨d1,d2,d3,d4,d5⟩,⟨_,e1,e2,e3⟩,⟨c1,c2,c3⟩,⟨j1,j2⟩,j3⟩:=D.all;show wpAny _ _ (field (.ref z) 2>>=_) _ _ _;show qC (wpAny_field hz O (x:=.bool false) O ?_);show wpAny _ _ (field (.ref z) 3>>=_) _ _ _;show qC (wpAny_field hz O (x:=.ref TI) O ?_);show qC (xY ti O ?_);show wpAny _ _ (Builtin.SmallTypes.ownedTupleIsFree (.ref z)>>=_) _ _ _;show qC ?_;unfold Builtin.SmallTypes.ownedTupleIsFree;show qC (wpAny_field hz O (x:=.none) O (qM ?_));simp only[if_true];show qC (wpAny_rule ?_);show qC (wpAny_field hz O (x:=.ref TO) O ?_);show qC (wpAny_setField_rec hz ∅ λg1 z1 s1=>?_);replace z1:IsZip g1 z TI TO .ellipsis:=z1;show qC ?_;simp only[List.zipIdx_cons,List.zipIdx_nil,List.forIn_cons,List.forIn_nil];have k1:∀c o,c≠z->s.heap.get? c=!o->g1.get? c=!o:=λc o n e=>s1.extBut _ _ n e
 show qC (qC (wpAny_onRaise ?_));show wpAny _ _ (Builtin.SmallTypes.nextOf (.ref i1)>>=_) _ _ _;show qC (wpAny_nextOf_list_item (a1.at λo e=>k1 _ o d3 e) (b1.at λo e=>k1 _ o f1.1 e) hx λg2 m1 s2=>qM ?_);have k2:∀c o,c≠z->c≠i1->s.heap.get? c=!o->g2.get? c=!o:=λc o n n' e=>s2.extBut _ _ n' (k1 c o n e)
 have t2:dw g2 TO p q r:=k2 _ _ d2 c1 to;show qC (xY t2 O ?_);show qC (FW t2 λg3 t3 s3=>?_);replace t3:dw g3 TO x q r:=t3;have k3:∀c o,c≠z->c≠i1->c≠TO->s.heap.get? c=!o->g3.get? c=!o:=λc o n n' n2 e=>s3.extBut _ _ n2 (k2 c o n n' e)
 show qC (wpAny_letGo (qM ?_));show qC (qC (wpAny_onRaise ?_));show wpAny _ _ (Builtin.SmallTypes.nextOf (.ref i2)>>=_) _ _ _;show qC (wpAny_nextOf_list_item (a2.at λo e=>k3 _ o d4 (Ne.symm j1) (Ne.symm c2) e) (b2.at λo e=>k3 _ o f2.1 f2.2.2.1 f2.2.1 e) hy λg4 m2 s4=>qM ?_);have k4:∀c o,c≠z->c≠i1->c≠TO->c≠i2->s.heap.get? c=!o->g4.get? c=!o:=λc o n n' n2 n3 e=>s4.extBut _ _ n3 (k3 c o n n' n2 e)
 have t4:dw g4 TO x q r:=s4.extBut _ _ c2 t3;show qC (xY t4 O ?_);show qC (FW t4 λg5 t5 s5=>?_);replace t5:dw g5 TO x y r:=t5;have k5:∀c o,c≠z->c≠i1->c≠TO->c≠i2->s.heap.get? c=!o->g5.get? c=!o:=λc o n n' n2 n3 e=>s5.extBut _ _ n2 (k4 c o n n' n2 n3 e)
 show qC (wpAny_letGo (qM ?_));show qC (qC (wpAny_onRaise ?_));show wpAny _ _ (Builtin.SmallTypes.nextOf (.ref i3)>>=_) _ _ _;show qC (wpAny_nextOf_list_item (a3.at λo e=>k5 _ o d5 (Ne.symm j2) (Ne.symm c3) (Ne.symm j3) e) (b3.at λo e=>k5 _ o f3.1 f3.2.2.1 f3.2.1 f3.2.2.2.1 e) hv λg6 m3 s6=>qM ?_);have k6:∀c o,Off z TO i1 i2 i3 c->s.heap.get? c=!o->g6.get? c=!o:=λc o n e=>s6.extBut _ _ n.2.2.2.2 (k5 c o n.1 n.2.2.1 n.2.1 n.2.2.2.1 e)
 have t6:dw g6 TO x y r:=s6.extBut _ _ c3 t5;show qC (xY t6 O ?_);show qC (FW t6 λg7 t7 s7=>?_);replace t7:dw g7 TO x y v:=t7;have k7:∀c o,Off z TO i1 i2 i3 c->s.heap.get? c=!o->g7.get? c=!o:=λc o n e=>s7.extBut _ _ n.2.1 (k6 c o n e)
 show qC (wpAny_letGo (qM (qM ?_)));show qC (xY t7 O ?_);show qC (wpAny_newTuple ?_);have hsz:g7.objs.size= ~~~s:=by rw[s7.1,s6.1,s5.1,s4.1,s3.1,s2.1,s1.1]
 have z7:IsZip g7 z TI TO .ellipsis:=s7.extBut _ _ (Ne.symm d2) (s6.extBut _ _ (Ne.symm d5) (s5.extBut _ _ (Ne.symm d2) (s4.extBut _ _ (Ne.symm d4) (s3.extBut _ _ (Ne.symm d2) (s2.extBut _ _ (Ne.symm d3) z1)))));have n1:g7.IsListIter i1 l1 (k+1):=m1.at λo e=>s7.extBut _ _ (Ne.symm c1) (s6.extBut _ _ j2 (s5.extBut _ _ (Ne.symm c1) (s4.extBut _ _ j1 (s3.extBut _ _ (Ne.symm c1) e))))
 have n2:g7.IsListIter i2 l2 (k+1):=m2.at λo e=>s7.extBut _ _ (Ne.symm c2) (s6.extBut _ _ j3 (s5.extBut _ _ (Ne.symm c2) e))
 have n3:g7.IsListIter i3 l3 (k+1):=m3.at λo e=>s7.extBut _ _ (Ne.symm c3) e
 have oh:z<g7.objs.size:=qL z7;show wpAny _ _ (Builtin.SmallTypes.ownedTupleHandOut (.ref z) (.ref g7.objs.size)>>=_) _ _ _;show qC ?_;unfold Builtin.SmallTypes.ownedTupleHandOut;have z8:IsZip (g7.push {cls:=.type "tuple",data:=.seq #[x,y,v]}) z TI TO .ellipsis:=qE _ z7;show qC (wpAny_setField_rec z8 ∅ λg9 z9 s9=>?_);replace z9:IsZip g9 z TI TO (rawInt g7.objs.size):=z9;show wpAny_setField_rec z9 ∅ λwm cp jI=>?_
 replace cp:IsZip wm z TI TO (rawInt g7.objs.size):=cp;have up:∀c o,c≠z->g7.get? c=!o->wm.get? c=!o:=λc o n e=>jI.extBut _ _ n (s9.extBut _ _ n (qE _ e))
 have hT:dw wm g7.objs.size x y v:=jI.extBut _ _ (xV oh) (s9.extBut _ _ (xV oh) (qT _ O));have NU:wm.objs.size=g7.objs.size+1:=by rw[jI.1,s9.1,rM]
 rw[hsz]at cp hT NU;show qM ⟨_,O,?_⟩;show Q (.ref g7.objs.size) _;rw[hsz];show hQ wm cp (up _ _ d2 t7) (n1.at λo e=>up _ o d3 e) (n2.at λo e=>up _ o d4 e) (n3.at λo e=>up _ o d5 e) hT NU λc o n e=>up c o n.1 (k7 c o n e)
def qaq{z TI TO i1 i2 i3 l1:Addr}{k:Nat}{xs:Array Value}{p q r:Value}{Q:Fin->Shared->Prop}(hh:A.handled=none)(D:Z3 z TI TO i1 i2 i3)(f1:Off z TO i1 i2 i3 l1)(hz:IsZip s.heap z TI TO .none)(ti:dw s.heap TI (.ref i1) (.ref i2) (.ref i3))(a1:s.heap.IsListIter i1 l1 k)(b1:s.heap.IsList l1 xs)(hx:xs[k]?=none)(hE:∀g e,(∀c o,Off z TO i1 i2 i3 c->s.heap.get? c=!o->g.get? c=!o)->(∃o,g.get? e=!o/\o.cls=.type "StopIteration")->E (.ref e) {s with heap:=g}) :
  wpAny (model prog w) A (Builtin.«zip.__next__» ⟨[.ref z],[]⟩) Q E s:=by
 let⟨⟨d1,d2,d3,d4,d5⟩,_⟩:=D.all;show wpAny _ _ (field (.ref z) 2>>=_) _ _ _;show qC (wpAny_field hz O (x:=.bool false) O ?_);show wpAny _ _ (field (.ref z) 3>>=_) _ _ _;show qC (wpAny_field hz O (x:=.ref TI) O ?_);show qC (xY ti O ?_);show wpAny _ _ (Builtin.SmallTypes.ownedTupleIsFree (.ref z)>>=_) _ _ _;show qC ?_;unfold Builtin.SmallTypes.ownedTupleIsFree;show qC (wpAny_field hz O (x:=.none) O (qM ?_));simp only[if_true];show qC (wpAny_rule ?_);show qC (wpAny_field hz O (x:=.ref TO) O ?_);show qC (wpAny_setField_rec hz ∅ λg1 z1 s1=>?_);replace z1:IsZip g1 z TI TO .ellipsis:=z1;show qC ?_;simp only[List.zipIdx_cons,List.zipIdx_nil,List.forIn_cons,List.forIn_nil];show qC (qC (wpAny_onRaise ?_));show wpAny _ _ (Builtin.SmallTypes.nextOf (.ref i1)>>=_) _ _ _;show qC (wpAny_nextOf_list_end hh (a1.at λo e=>s1.extBut _ o d3 e) (b1.at λo e=>s1.extBut _ o f1.1 e) hx λg2 ex s2 he=>?_);let⟨oe,FX,NV⟩:=he;have z2:IsZip g2 z TI TO .ellipsis:=s2 _ _ (Ne.symm d3) z1;have hez:ex≠z:=λy=>by subst y;rw[z2]at FX;cases FX;simp at NV
 show wpAny_setField_rec z2 ∅ λg3 _ s3=>hE g3 ex (λc o n y=>s3.extBut _ _ n.1 (s2 _ _ n.2.2.1 (s1.extBut _ _ n.1 y))) ⟨oe,s3.extBut _ _ hez FX,NV⟩
theorem qar{z TI TO i1 i2 i3 l1 l2 l3:Addr}{k:Nat}{xs ys zs:Array Value}{x y v p q r:Value}{Q:Option Value->Shared->Prop}(D:Z3 z TI TO i1 i2 i3)(f1:Off z TO i1 i2 i3 l1)(f2:Off z TO i1 i2 i3 l2)(f3:Off z TO i1 i2 i3 l3)(hz:IsZip s.heap z TI TO .none)(ti:dw s.heap TI (.ref i1) (.ref i2) (.ref i3))(to:dw s.heap TO p q r)(a1:s.heap.IsListIter i1 l1 k)(a2:s.heap.IsListIter i2 l2 k)(a3:s.heap.IsListIter i3 l3 k)(b1:s.heap.IsList l1 xs)(b2:s.heap.IsList l2 ys)(b3:s.heap.IsList l3 zs)(hx:xs[k]?=!x)(hy:ys[k]?=!y)(hv:zs[k]?=!v)(hQ:∀g,IsZip g z TI TO (rawInt (~~~s))->dw g TO x y v->g.IsListIter i1 l1 (k+1)->g.IsListIter i2 l2 (k+1)->g.IsListIter i3 l3 (k+1)->dw g (~~~s) x y v->g.objs.size= ~~~s+1 ->
   (∀c o,Off z TO i1 i2 i3 c->s.heap.get? c=!o->g.get? c=!o)->Q (!.ref (~~~s)) {s with heap:=g}) :
  wpAny (model prog w) A (pyNext (.ref z)) Q E s:=by
 have hT:s.TypeIs (.ref z) "zip":=⟨_,hz,O⟩;unfold pyNext;show qC (wpAny_attempt (wpAny_callSpecial?_slot (name:=s!"__next__") hT F.slot_zip_next (yT F.slot_zip_next hT F.entry_zip_next ?_ (F.args_zip_next_1 _))));show qap D f1 f2 f3 hz ti to a1 a2 a3 b1 b2 b3 hx hy hv λg y1 y2 y3 y4 y5 y6 y7 y8=>qM (hQ g y1 y2 y3 y4 y5 y6 y7 y8)
def qas{z TI TO i1 i2 i3 l1:Addr}{k:Nat}{xs:Array Value}{Q:Option Value->Shared->Prop}(hh:A.handled=none)(D:Z3 z TI TO i1 i2 i3)(f1:Off z TO i1 i2 i3 l1)(hz:IsZip s.heap z TI TO .none)(ti:dw s.heap TI (.ref i1) (.ref i2) (.ref i3))(a1:s.heap.IsListIter i1 l1 k)(b1:s.heap.IsList l1 xs)(hx:xs[k]?=none)(hQ:∀g,(∀c o,Off z TO i1 i2 i3 c->s.heap.get? c=!o->g.get? c=!o)->Q none {s with heap:=g}):wpAny (model prog w) A (pyNext (.ref z)) Q E s:=by
 have hT:s.TypeIs (.ref z) "zip":=⟨_,hz,O⟩;unfold pyNext;show qC (wpAny_attempt (wpAny_callSpecial?_slot (name:=s!"__next__") hT F.slot_zip_next (yT F.slot_zip_next hT F.entry_zip_next (qaq (p:=.none) (q:=.none) (r:=.none) hh D f1 hz ti a1 b1 hx λg e hk he=>?_) (F.args_zip_next_1 _))));let⟨o,ho,hc⟩:=he;show qC (vG (T := "StopIteration") (b:=true) ⟨o,ho,hc⟩ isSubtype_stop (qM (hQ _ hk)))
end
abbrev f'(l:Addr):Obj:={cls:=.type "list_iterator",data:=.fields #[.ref l,.int 0 0]}
abbrev BL(h:Heap)(l1 l2 l3:Addr):Heap:=((h.push (f' l1)).push (f' l2)).push (f' l3)
abbrev BM(h:Heap)(l1 l2 l3:Addr):Heap:=(BL h l1 l2 l3).push {cls:=.type "tuple",data:=.seq #[.ref h.objs.size,.ref (h.push (f' l1)).objs.size,.ref ((h.push (f' l1)).push (f' l2)).objs.size]}
abbrev BN(h:Heap)(l1 l2 l3:Addr):Heap:=(BM h l1 l2 l3).push {cls:=.type "tuple",data:=.seq #[.none,.none,.none]}
abbrev oy(h:Heap)(l1 l2 l3:Addr):Heap:=(BN h l1 l2 l3).push {cls:=.type "zip",data:=.fields #[.none,.bool false,.bool false,.ref (BL h l1 l2 l3).objs.size,.ref (BM h l1 l2 l3).objs.size]}
theorem qat(l1 l2 l3:Addr)(xs ys zs:Array Value) :
  Meets (Builtin.«zip.__new__» ⟨[.type "zip",.ref l1,.ref l2,.ref l3],[]⟩) (λ_ R s=>s.heap.IsList l1 xs/\s.heap.IsList l2 ys/\s.heap.IsList l3 zs /\
   R (.ok (.ret (.ref (BN s.heap l1 l2 l3).objs.size))) {s with heap:=oy s.heap l1 l2 l3}) :=
 .of_wp λprog w A R s h=>by
  let⟨hp,g,d,tk,os⟩:=s;let⟨b1,b2,b3,h⟩:=h;have hsub:=sub_zip;have c1:Heap.IsList (Shared.heap ⟨hp,g,d,tk,os⟩) l1 xs:=b1;have c2:Heap.IsList (Shared.heap ⟨hp.push (f' l1),g,d,tk,os⟩) l2 ys:=Heap.IsList.push b2 _;have c3:Heap.IsList (Shared.heap ⟨(hp.push (f' l1)).push (f' l2),g,d,tk,os⟩) l3 zs:=Heap.IsList.push (Heap.IsList.push b3 _) _
  wp_walk using xJ c1,xJ c2,xJ c3
  show⟨_,O,h⟩
def qau(a b c:Value):checkTypeCall "zip" ⟨[a,b,c],[]⟩=pure Unit.unit:=by kernel_rfl
def qav(a b c:Value):checkBuiltinCall "zip.__new__" ⟨[.type "zip",a,b,c],[]⟩=pure Unit.unit:=by kernel_rfl
def qaw(a b c d:Value):argsOk "object.__init__" ⟨[a,b,c,d],[]⟩:=by
 unfold argsOk;rw[signature?_of (id := "object.__init__") (n:=['_','_','t','i','n','i','_','_']) (o:=['t','c','e','j','b','o']) (by kernel_rfl) F.owner_object]
 kernel_rfl
theorem qax{E:TH}{Q:TH}(b1:s.heap.IsList l1 xs)(b2:s.heap.IsList l2 ys)(b3:s.heap.IsList l3 zs)(h:∀g,IsZip g (~~~s+5) (~~~s+3) (~~~s+4) .none->dw g (~~~s+3) (.ref (~~~s)) (.ref (~~~s+1)) (.ref (~~~s+2)) ->
   dw g (~~~s+4) .none .none .none->g.IsListIter (~~~s) l1 0->g.IsListIter (~~~s+1) l2 0->g.IsListIter (~~~s+2) l3 0 ->
   (∀c o,s.heap.get? c=!o->g.get? c=!o)->Q (.ref (~~~s+5)) {s with heap:=g}) :
  wpAny (model prog w) A (call (.type "zip") [.ref l1,.ref l2,.ref l3]) Q E s:=by
 show callType_new F.called_zip {} (qau _ _ _) (qav _ _ _) (λobj=>qaw obj _ _ _) F.entry_zip_new (qat l1 l2 l3 xs ys zs) ⟨b1,b2,b3,?_⟩;have y1:(s.heap.push (f' l1)).objs.size= ~~~s+1:=rM ..;have y2:((s.heap.push (f' l1)).push (f' l2)).objs.size= ~~~s+2:=by rw[rM,y1]
 have y3:(BL s.heap l1 l2 l3).objs.size= ~~~s+3:=by rw[rM,y2]
 have y4:(BM s.heap l1 l2 l3).objs.size= ~~~s+4:=by rw[rM,y3]
 have y5:(BN s.heap l1 l2 l3).objs.size= ~~~s+5:=by rw[rM,y4]
 have u:∀{g:Heap} {o o':Obj} {c:Addr},g.get? c=!o->(g.push o').get? c=!o:=λe=>qE _ e
 have g6:(oy s.heap l1 l2 l3).get? (BN s.heap l1 l2 l3).objs.size=!_:=qT _ O;have g5:(oy s.heap l1 l2 l3).get? (BM s.heap l1 l2 l3).objs.size=!_:=u (qT _ O);have g4:(oy s.heap l1 l2 l3).get? (BL s.heap l1 l2 l3).objs.size=!_:=u (u (qT _ O));have g3:(oy s.heap l1 l2 l3).get? ((s.heap.push (f' l1)).push (f' l2)).objs.size=!_:=u (u (u (qT _ O)));have g2:(oy s.heap l1 l2 l3).get? (s.heap.push (f' l1)).objs.size=!_:=u (u (u (u (qT _ O))));have g1:(oy s.heap l1 l2 l3).get? (~~~s)=!_:=u (u (u (u (u (qT _ O)))));show _/\_;rw[y3,y4,y5]at g6;rw[y4]at g5;rw[y1,y2,y3]at g4;rw[y2]at g3;rw[y1]at g2;rw[y5];show⟨⟨_,g6,O⟩,h _ g6 g4 g5 ⟨_,g1,O,O⟩ ⟨_,g2,O,O⟩ ⟨_,g3,O,O⟩ λc o x=>u (u (u (u (u (u x)))))⟩
def wn(K:W.Frag)(a b c:Addr):It :=
 ⟨λi H=>∃xs ys zs x y z,SqL K H a xs/\SqL K H b ys/\SqL K H c zs/\xs[i]?=!x/\ys[i]?=!y/\zs[i]?=!z,
  λi H v H'=>∃T x y z,H T=none/\v=.ref T/\H'=af H T (.tup [x,y,z])/\∀xs ys zs,SqL K H a xs->SqL K H b ys->SqL K H c zs->xs[i]?=!x/\ys[i]?=!y/\zs[i]?=!z,
  λi H=>∃xs,SqL K H a xs/\xs.length<=i⟩
structure NW(h:Heap)(z TI TO i1 i2 i3 l1 l2 l3:Addr)(i:Nat):Prop where
 hz:IsZip h z TI TO .none
 ti:dw h TI (.ref i1) (.ref i2) (.ref i3)
 to:∃p q r,dw h TO p q r
 it1:h.IsListIter i1 l1 i
 it2:h.IsListIter i2 l2 i
 it3:h.IsListIter i3 l3 i
def BO{h:Heap}{z TI TO i1 i2 i3 l l1 l2 l3:Addr}{i:Nat}{xs:Array Value}(st:NW h z TI TO i1 i2 i3 l1 l2 l3 i)(hl:h.IsList l xs):Off z TO i1 i2 i3 l:=by
 let⟨p,q,r,to⟩:=st.to;let⟨o4,e4,c4,_⟩:=st.it1;let⟨o5,e5,c5,_⟩:=st.it2;let⟨o6,e6,c6,_⟩:=st.it3;have nz:Value.type "zip" ≠ Value.type "list":={}
 have nt:Value.type "tuple" ≠ Value.type "list":={}
 show⟨dB hl st.hz nz,dB hl to nt,dB hl e4 (by rw[c4];decide),dB hl e5 (by rw[c5];decide),dB hl e6 (by rw[c6];decide)⟩
theorem qay{P:Program}{w:World}{K:W.Frag}{iZ:TW}{k1:Nat}{tp:Pos}(l1 l2 l3 z TI TO i1 i2 i3:Addr)(D:Z3 z TI TO i1 i2 i3) :
  iU P w K (.Tuple iZ k1 tp) (wn K l1 l2 l3) [z,TI,TO,i1,i2,i3] z (λi h=>NW h z TI TO i1 i2 i3 l1 l2 l3 i) where
 mem:=∅
 obj:=λi h st b hb=>by
  have c1:=st.hz;have c2:=st.ti;let⟨p,q,r,c3⟩:=st.to;let⟨o4,e4,_,g4⟩:=st.it1;let⟨o5,e5,_,g5⟩:=st.it2;let⟨o6,e6,_,g6⟩:=st.it3;simp only[List.mem_cons,List.not_mem_nil,or_false]at hb;rcases hb with rfl | rfl | rfl | rfl | rfl | rfl
  .show⟨_,c1,λv z=>by cases z⟩
  .show⟨_,c2,λv z=>by cases z⟩
  .show⟨_,c3,λv z=>by cases z⟩
  .show⟨_,e4,λv z=>by rw[g4]at z;cases z⟩
  .show⟨_,e5,λv z=>by rw[g5]at z;cases z⟩
  .show⟨_,e6,λv z=>by rw[g6]at z;cases z⟩
 keep:=λi h h' st k=>by
  let⟨p,q,r,c3⟩:=st.to;show⟨k z ∅ _ st.hz,k TI ∅ _ st.ti,⟨p,q,r,k TO ∅ _ c3⟩,st.it1.at λo e=>k i1 ∅ o e,st.it2.at λo e=>k i2 ∅ o e,st.it3.at λo e=>k i3 ∅ o e⟩
 item:=by
  intro X hP hw hK hc i aa s σ H E I hf st hg;subst hP hw hK;let⟨xs,ys,zs,x,y,v,q1,q2,q3,hx,hy,hv⟩:=hg;let⟨vh,kx,p1,_⟩:=I.list q1;let⟨gj,ky,p2,_⟩:=I.list q2;let⟨qaz,NX,p3,_⟩:=I.list q3;let⟨u1,iE,EU⟩:=kx.get hx;let⟨u2,EV,EW⟩:=ky.get hy;let⟨u3,hu3,ru3⟩:=NX.get hv;let⟨p,q,r,to⟩:=st.to;let⟨o4,e4,_⟩:=id st.it1;let⟨o5,e5,_⟩:=id st.it2;let⟨o6,e6,_⟩:=id st.it3;let⟨⟨d1,d2,d3,d4,d5⟩,⟨d6,d7,d8,d9⟩,_⟩:=D.all;show qar D (BO st p1.isList) (BO st p2.isList) (BO st p3.isList) st.hz st.ti to st.it1 st.it2 st.it3 p1.isList p2.isList p3.isList (x:=u1) (y:=u2) (v:=u3) ‹iE› ‹EV› ‹hu3› λh' vi EX EY EZ qaA hT hsz hk=>?_
  show⟨_,O,wpAny_letOwnedTupleGo_zip vi λh2 og sb=>?_⟩;have NY:∀b∈[z,TI,TO,i1,i2,i3],b< ~~~s:=λb hb=>by
   simp only[List.mem_cons,List.not_mem_nil,or_false]at hb;rcases hb with rfl | rfl | rfl | rfl | rfl | rfl
   .show qL st.hz
   .show qL st.ti
   .show qL to
   .show qL e4
   .show qL e5
   .show qL e6
  have oh:=NY z ∅;have k2:∀b o,b∉[z,TI,TO,i1,i2,i3]->s.heap.get? b=!o->h2.get? b=!o:=λb o hb e=>by
   simp only[List.mem_cons,List.not_mem_nil,or_false,not_or]at hb;let⟨n1,n2,n3,n4,n5,n6⟩:=hb;show(sb.2 b n1).trans (hk b o ⟨n1,n3,n4,n5,n6⟩ e)
  have gT:h2.get? (~~~s)=!{cls:=.type "tuple",data:=.seq #[u1,u2,u3]}:=(sb.2 _ (xV oh)).trans hT;have I1:Inv X aa σ H {s with heap:=h2,toks:=s.toks}:=I.moved hf k2;have hn:H (~~~s)=none:=I.hok.fresh (qF _);show⟨.ref (~~~s),af H (~~~s) (.tup [x,y,v]),I1.track ?_ hn (xV I.lt) (λy c ec z=>?_) (λq hq z=>?_) ?_,O,⟨~~~s,x,y,v,hn,O,O,λi6 Ye zs' h1 h2 h3=>by rw[I.list_inj h1 q1,I.list_inj h2 q2,I.list_inj h3 q3];show⟨hx,hy,hv⟩⟩,?_,λb hb=>?_⟩
  .cases z:X.s₀.heap.get? (~~~s) with
   | none=>rfl
   | some u=>show absurd (rE (qL z) I.sz) (rP _)
  .let⟨v,q⟩:=I.cell y c ec;show absurd q.lt (by rw[z];show rP _)
  .show absurd (qL (I.pin q hq).1) (by rw[z];show rP _)
  .show⟨by show 3<=sizeLine;decide,[u1,u2,u3],.cons EU (.cons EW (.cons ru3 .nil)),_,gT,O,_,O⟩
  .have E1:h'.get? TI=!_:=hk TI _ ⟨d1,d6,d7,d8,d9⟩ st.ti;show⟨og,(sb.2 _ d1).trans E1,⟨_,_,_,(sb.2 _ d2).trans EX⟩,EY.at λo e=>(sb.2 _ d3).trans e,EZ.at λo e=>(sb.2 _ d4).trans e,qaA.at λo e=>(sb.2 _ d5).trans e⟩
  .rw[aE (rA (NY b hb))];show(hf b hb).1
 done:=by
  intro X hP hw hK hc i aa s σ H E I hf st hg;subst hP hw hK;let⟨xs,q1,hx⟩:=hg;let⟨vh,kx,p1,_⟩:=I.list q1;have pU:=kx.length;show qas (I.ok.hd hc) D (BO st p1.isList) st.hz st.ti st.it1 p1.isList (by simp;omega) λh' eb=>⟨O,I.moved (t':=s.toks) hf λb o hb e=>?_⟩
  simp only[List.mem_cons,List.not_mem_nil,or_false,not_or]at hb;let⟨n1,n2,n3,n4,n5,n6⟩:=hb;show eb b o ⟨n1,n3,n4,n5,n6⟩ e
 self:=λ_ _ _ _ _ st h=>wpAny_pyIter_zip st.hz h
inductive NZ(K:W.Frag)(R:It->Hp->Prop):List V->Hp->Prop
|m {vs H1} a b c:vs=[.ref a,.ref b,.ref c]->(∃xs,SqL K H1 a xs)->(∃ys,SqL K H1 b ys)->(∃zs,SqL K H1 c zs)->R (wn K a b c) H1->NZ K R vs H1
def qaB(K:W.Frag)(ta:TA):TI:=λσ H R=>ta σ H (NZ K R)
section
variable{X:Cx}
theorem qaC{iZ:TW}{k1:Nat}(hg:Gl X "zip")(hm:X.mg "zip" = none)(ha:PA X [a,b,c] ta)(hs:starEach [a,b,c] X.env=[(false,eval a X.env),(false,eval b X.env),(false,eval c X.env)]:=by rfl)(i9:starEach [b,c] X.env=[(false,eval b X.env),(false,eval c X.env)]:=by rfl) :
  PI X (.Tuple iZ k1 tp) (.Call (.Name "zip" p) [a,b,c] [] pos) (qaB X.K ta):=by
 intro aa s σ H R I h;show Call_ (iQ I hg hm Mw (xK (aN (ha pos aa s σ H _ I h) λus s1 ⟨vs,H1,I1,r1,q1⟩=>?_) (by rw[hs,i9]) (by rw[i9];rfl)));let⟨l1,l2,l3,e,⟨xs,w1⟩,⟨ys,w2⟩,⟨zs,w3⟩,q⟩:=q1;subst e;cases r1 with
 | cons r rr =>
   cases rr with
   | cons r' E2 =>
     cases E2 with
     | cons E4 qaD =>
       cases qaD
       cases r
       cases r'
       cases E4
       let⟨vh,kx,p1,_⟩:=I1.list w1
       let⟨gj,ky,p2,_⟩:=I1.list w2
       let⟨qaz,NX,p3,_⟩:=I1.list w3
       show qax p1.isList p2.isList p3.isList λh' hz A8 Ba it1 it2 it3 hk=>?_
       have I2:Inv X aa σ H1 {s1 with heap:=h'}:=I1.kept (t':=s1.toks) hk
       generalize hn: ~~~s1=n at hz A8 Ba it1 it2 it3
       have D:Z3 (n+5) (n+3) (n+4) n (n+1) (n+2):=⟨by simp[Nat.succ_ne_self]⟩
       show wpAny_pyIter_zip hz ⟨n+5,[n+5,n+3,n+4,n,n+1,n+2],_,_,H1,O,I2,qay l1 l2 l3 (n+5) (n+3) (n+4) n (n+1) (n+2) D,⟨hz,A8,⟨_,_,_,Ba⟩,it1,it2,it3⟩,λb hb=>?_,q⟩
       have hb': ~~~s1<=b:=by
         rw[hn]
         simp only[List.mem_cons,List.not_mem_nil,or_false]at hb
         rcases hb with rfl | rfl | rfl | rfl | rfl | rfl
         · show Nat.le_add_right _ _
         · show Nat.le_add_right _ _
         · show Nat.le_add_right _ _
         · show qF _
         · show Nat.le_add_right _ _
         · show Nat.le_add_right _ _
       show I1.fpOk hb' (I1.hok.fresh hb')
theorem qaE{K:W.Frag}{a b c:Addr}{xs ys zs:List V}{g:TG}{tb:TS}{D:gO}{σ:St}{H:Hp}(l1:ys.length=xs.length)(l2:zs.length=xs.length)(Pv:Nat->St->Hp->Prop)(h0:Pv 0 σ H)(hl:∀i σ H,i<=xs.length->Pv i σ H->SqL K H a xs/\SqL K H b ys/\SqL K H c zs)(hs:∀i x y z σ H T,xs[i]?=!x->ys[i]?=!y->zs[i]?=!z->H T=none->Pv i σ H->g (.ref T) σ (af H T (.tup [x,y,z])) λaV H2=>tb {D with nx:=Pv (i+1),ct:=Pv (i+1),bk:=D.nx} aV H2)(hd:∀σ H,Pv xs.length σ H->D.nx σ H) :
  ∃W:Nat->Nat->St->Hp->Prop,(∃m,W 0 m σ H)/\∀i m σ H,W i m σ H ->
   ((wn K a b c).stop i H/\D.nx σ H)\/((wn K a b c).go i H/\∃N:St->Hp->Prop,(∀ae H',N ae H'->∃m',m'<m/\W (i+1) m' ae H')/\∀x H',(wn K a b c).yld i H x H'->g x σ H' λaV H2=>tb {D with nx:=N,ct:=N,bk:=D.nx} aV H2):=by
 show⟨λi m σ H=>m=xs.length-i/\i<=xs.length/\Pv i σ H,⟨xs.length,∅,rS _,h0⟩,?_⟩;ext i m σ H ⟨rfl,hi,p⟩;let⟨q1,q2,q3⟩:=hl i σ H hi p
 by_cases aX:i<xs.length
 .show .inr ⟨⟨xs,ys,zs,xs[i],ys[i],zs[i],q1,q2,q3,by simp[aX],by simp[l1,aX],by simp[l2,aX]⟩,Pv (i+1),λae H' p'=>⟨xs.length-(i+1),(),O,aX,p'⟩,λx H' y=>?_⟩;let⟨T,z1,z2,z3,hT,e1,e2,y⟩:=y;subst e1 e2;let⟨y1,y2,y3⟩:=y xs ys zs q1 q2 q3;show hs i z1 z2 z3 σ _ T y1 y2 y3 hT p
 .have e:i=xs.length:=()
  subst e;show .inl ⟨⟨xs,q1,qF _⟩,hd σ H p⟩
def qaF(K:W.Frag):V->V->Hp->VK->Prop:=λx y H Q=>∃p xs,∃i:Nat,∃v,x=.ref p/\y=.int i/\SqL K H p xs/\xs[i]?=!v/\Q v H
def qaG:Jq X (qaF X.K):=by
 intro aa s σ H x y v u Q I rx ry h;let⟨p,xs,i,z,rfl,rfl,hq,he,q⟩:=h;cases rx;let⟨t,rfl⟩:=ry;let⟨ag,r,pl,hz⟩:=I.list hq;let⟨w,ew,iY⟩:=r.get he;have hl:=r.length;have hn:=o7;have lt:=(qI.mp he).1;show wpAny_getItem_list pl.isList () () ?_ ⟨z,H,I,iY,q⟩;simpa using ew
end
end L2
namespace Shr
open L2 Bk Gen Gd
structure BnS(mg:TJ):Prop where
 isinstance:mg "isinstance" = none
 len:mg "len" = none
 range:mg "range" = none
 int:mg "int" = none
 bool:mg "bool" = none
 list:mg "list" = none
 min:mg "min" = none
 max:mg "max" = none
 sum:mg "sum" = none
 zip:mg "zip" = none
 enumerate:mg "enumerate" = none
 sorted:mg "sorted" = none
 all:mg "all" = none
abbrev LI(H:Hp)(a:Addr)(ns:TN):Prop:=H a=!.lst (ns.map V.int)
def qaH{ns:TN}{k:Nat}(h:k<ns.length)(d:Int):bD (ns.map V.int) (k:Int)=!.int (ns.getD k d):=eG (by rw[qK,qB h,qX,qB h];rfl)
def at_getD{ns:TN}{k:Nat}{n:Int}(h:ns[k]?=!n)(d:Int):ns.getD k d=n:=by rw[qX,h];rfl
def FY{n k:Nat}(h:k<n):fO n (k:Int)=!k:=by
 unfold fO;rw[if_pos (),if_pos ()];rfl
theorem qaI{M c:Int}{t:Nat}(hM:0<M)(d1:M∣2520)(d2:c∣2520)(ne:∀s:Nat,s<t->M*((s:Int)+1) % c≠0)(e:M*((t:Int)+1) % c=0):M*((t:Int)+1)∣2520:=by
 let⟨q,hq⟩:=d1;have q0:0<q:=Int.pos_of_mul_pos_right () hM;obtain⟨n,rfl⟩:∃n:Nat,q=(n:Int):=⟨q.toNat,()⟩;have dv:=Nat.div_add_mod n (t+1);have lt:=Nat.mod_lt n (show 0<t+1 by omega);generalize hr:n % (t+1)=r at dv lt;generalize n / (t+1)=a at dv;have en:(n:Int)=((t:Int)+1)*a+r:=by rw[<-dv];push_cast;rfl
 cases r with
 | zero =>
   show⟨(a:Int),?_⟩
   rw[hq,en,Int.mul_assoc]
   simp
 | succ r =>
   exfalso
   show ne r () ?_
   have e1:c∣M*((t:Int)+1):=Int.dvd_of_emod_eq_zero e
   have e2:c∣M*(n:Int):=hq ▸ d2
   have e3:M*(n:Int)=M*((t:Int)+1)*a+M*((r:Int)+1):=by
     rw[en,Int.mul_add,Int.mul_assoc]
     push_cast
     rfl
   rw[e3]at e2
   show Int.emod_eq_zero_of_dvd ((Int.dvd_add_right (Int.dvd_trans e1 ⟨_,O⟩)).mp e2)
def qaJ{c:Int}(h1:1<=c)(h2:c<=9):c∣2520:=by
 have:=(qaf ⟨h1,h2⟩).2;show⟨2520 / c,by rw[Int.mul_comm];show this.symm⟩
theorem N1:∀{l:TN},l≠[]->∃t,t∈l/\∀x∈l,x<=t
 | [a],_=>⟨a,List.mem_singleton.mpr O,λx hx=>Int.le_of_eq (List.mem_singleton.mp hx)⟩
 | a :: b :: l, _ => by
   let⟨t,h1,h2⟩:=N1 (l:=b::l) ∅
   by_cases c:a<=t
   · show⟨t,qU _ h1,λx hx=>?_⟩
     rcases qO.mp hx with rfl | h
     · show c
     · show h2 x h
   · refine⟨a,rB,λx hx=>?_⟩
     rcases qO.mp hx with rfl | h
     · show Int.le_refl _
     · have:=h2 x h
       omega
end Shr
namespace L2
open PyProof.Rows
end L2
namespace Gen
open L2 Bk
end Gen
namespace Bd
open L2 Bk Gen Gd
end Bd
namespace Shr
end Shr
namespace Gd
open Classical in
noncomputable def dg(cols:Nat)(cs:List (Nat×Nat)):List Pl:=if h:∃ps,Placed cols cs ps then Classical.choose h else[]
def Placed.eq{cols:Nat}{cs:List (Nat×Nat)}(h:Placed cols cs ps):ps=dg cols cs:=by
 unfold dg;rw[dif_pos ⟨ps,h⟩];show h.uniq (Classical.choose_spec (⟨ps,h⟩:∃ps,Placed cols cs ps))
end Gd
namespace Sp0
open L2 Bk Gen Gd Bd Shr
def fD(ls:TB)(sp:TC)(n:Nat):Int×Int:=((aT sp n).1+aB ls n 3,max 0 ((aT sp n).2-2*aB ls n 3))
def jJ(ls:TB)(rm:Int×Int)(m:Nat):Int:=min (aB ls m 11) (rm.2 / 2)
def wo(ds:List Nd)(ls:TB)(rm:Int×Int)(m:Nat):Int×Int:=if ds[m]?.map Nd.k=!Kd.aside then(rm.1+aB ls m 10*(rm.2-jJ ls rm m),jJ ls rm m)else rm
def kI(left:Int)(x:TN):TC:=(List.range x.length).map λk=>(left+(x.take k).sum,x.getD k 0)
def bG(ls:TB)(ks:TM):List (Nat×Nat):=ks.map λm=>((aB ls m 8).toNat,(aB ls m 9).toNat)
def putAll(sp:TC):TM->List (Int×Int)->List (Int×Int)
 | k::ks,z::zs=>putAll (sp.set k z) ks zs
 | _,_=>sp
theorem FZ:∀(ks:TM) (zs:TC) (sp:TC),(putAll sp ks zs).length=sp.length
 | [],_,_=>by unfold putAll;rfl
 | _::_,[],_=>by unfold putAll;rfl
 | k :: ks, z :: zs, sp => by
   unfold putAll
   rw[FZ ks zs,uN]
section
variable{ds:List Nd}{ls:TB}{bs:TC}{wide:Int}
def N2(n:Nat):(ay ds n).Nodup:=List.Pairwise.filter _ List.nodup_range
end
structure kJ(l:TN):Prop extends LkOk l where
 wt:1<=l.getD 4 0/\l.getD 4 0<=9
 least4:l.getD 5 0<=4000
 most4:l.getD 6 0<=4000
 deep:1<=l.getD 9 0/\l.getD 9 0<=4
 side:l.getD 10 0=0\/l.getD 10 0=1
def N3{left:Int}{x:TN}:(kI left x).length=x.length:=by unfold kI;rw[qA,List.length_range]
def cY(wd cols:Int):TN:=(List.range cols.toNat).map λc:Nat=>if(c:Int)<wd-wd / cols*cols then wd / cols+1 else wd / cols
def F0{wd cols:Int}:(cY wd cols).length=cols.toNat:=by unfold cY;rw[qA,List.length_range]
abbrev KL(H:Hp)(a:Addr)(ks:TM):Prop:=LI H a (ks.map λ(j:Nat)=>(j:Int))
structure InS(H:Hp)(B p L:Addr)(ds:List Nd)(ls:TB)(bs:TC):Prop where
 bk:cB (λ_=>True) H B ds
 lk:LstAt LkAt H p ls
 bd:LstAt PrAt H L bs
def InS.same{ls:TB}{bs:TC}(h:InS H B p L ds ls bs)(s:Same H H'):InS H' B p L ds ls bs:=by
 let⟨as,e,nd⟩:=h.bk;show⟨⟨as,s _ _ e,nd.keep s.keep λ_ _ _=>trivial⟩,cU s h.lk,fZ s h.bd⟩
inductive BP:List V->Hp->VK->XK->Prop
|m (p S:Addr) (n:Nat) (ls:TB) (sp:TC):vs=[.ref p,.ref S,.int n]->LstAt LkAt H p ls->LstAt PrAt H S sp->n<ls.length->n<sp.length->(∀l∈ls,l.length=13)->(∀(t:Addr) (H':Hp),H t=none->Same H H'->PrAt H' t (fD ls sp n)->Q (.ref t) H')->BP vs H Q E
inductive wq(f:TB->List (Int×Int)->Nat->Int):List V->Hp->VK->XK->Prop
|m (p L k:Addr) (ks:TM) (ls:TB) (bs:TC):vs=[.ref p,.ref L,.ref k]->LstAt LkAt H p ls->LstAt PrAt H L bs->KL H k ks->ks.length<=100->(∀m∈ks,m<ls.length/\m<bs.length)->(∀l∈ls,l.length=13)->(∀(t:Addr) (H':Hp),H t=none->Same H H'->LI H' t (ks.map (f ls bs))->Q (.ref t) H')->wq f vs H Q E
inductive F1:List V->Hp->VK->XK->Prop
|m (p k:Addr) (ks:TM) (ls:TB):vs=[.ref p,.ref k]->LstAt LkAt H p ls->KL H k ks->ks.length<=100->(∀m∈ks,m<ls.length)->(∀l∈ls,l.length=13)->(∀(t:Addr) (H':Hp),H t=none->Same H H'->LI H' t (ks.map λm=>aB ls m 4)->Q (.ref t) H')->F1 vs H Q E
inductive BQ:List V->Hp->VK->XK->Prop
|m (p k:Addr) (ks:TM) (ls:TB):vs=[.ref p,.ref k]->LstAt LkAt H p ls->KL H k ks->ks.length<=100->(∀m∈ks,m<ls.length)->(∀l∈ls,kJ l)->(∀(t:Addr) (H':Hp),H t=none->Same H H'->LstAt TupAt H' t (bG ls ks)->Q (.ref t) H')->BQ vs H Q E
inductive F2:List V->Hp->VK->XK->Prop
|m (left:Int) (a:Addr) (x:TN):vs=[.int left,.ref a]->LI H a x->x.length<=100->(∀(t:Addr) (H':Hp),H t=none->Same H H'->LstAt PrAt H' t (kI left x)->Q (.ref t) H')->F2 vs H Q E
inductive F3:List V->Hp->VK->XK->Prop
|m (wd cols:Int):vs=[.int wd,.int cols]->1<=cols->cols<=6->(∀(t:Addr) (H':Hp),H t=none->Same H H'->LI H' t (cY wd cols)->Q (.ref t) H')->F3 vs H Q E
inductive F4:List V->Hp->VK->XK->Prop
|m (p r:Addr) (m:Nat) (ls:TB) (rm:Int×Int):vs=[.ref p,.ref r,.int m]->LstAt LkAt H p ls->PrAt H r rm->m<ls.length->(∀l∈ls,kJ l)->(∀(t:Addr) (H':Hp),H t=none->Same H H'->PrAt H' t (rm.1+aB ls m 10*(rm.2-jJ ls rm m),jJ ls rm m)->Q (.ref t) H')->F4 vs H Q E
def lkg{ls:TB}{n j:Nat}(hn:n<ls.length)(l13:∀l∈ls,l.length=13)(hj:j<13):((ls[n]'hn).map V.int)[j]?=!.int (aB ls n j):=by
 have hl:=l13 _ (rL hn);have ej:(ls[n]'hn)[j]?=!(ls[n]'hn)[j]'(by omega):=qB ();have:aB ls n j=(ls[n]'hn)[j]'(by omega):=by
  unfold aB;rw[qB hn,Option.getD_some,qX,ej];rfl
 rw[qK,ej,this];rfl
def wu{ls:TB}{ks:TM}:(bG ls ks).length=ks.length:=by unfold bG;rw[qA]
theorem putAll_snoc:∀{ks:TM} {zs:TC} {sp:TC} {k:Nat} {z:Int×Int},ks.length=zs.length->putAll sp (ks++[k]) (zs++[z])=(putAll sp ks zs).set k z
 | [],[],sp,k,z,_=>by simp[putAll]
 | [],_::_,_,_,_,h=>by simp at h
 | _::_,[],_,_,_,h=>by simp at h
 | a :: ks, b :: zs, sp, k, z, h => by
   have h':ks.length=zs.length:=‹h›
   show putAll (sp.set a b) (ks++[k]) (zs++[z])=(putAll (sp.set a b) ks zs).set k z
   show putAll_snoc h'
def BR{bs:TC}{m:Nat}(h:m<bs.length):bs[m]?=!aT bs m:=by
 unfold aT;rw[qB h];rfl
def dN{ks:TM}{i:Nat}(h:((ks.map λ(j:Nat)=>(j:Int)).map V.int)[i]?=!x):∃m,ks[i]?=!m/\x=.int (m:Int):=by
 rw[qK,qK]at h;cases e:ks[i]? with
 | none=>rw[e]at h;cases h
 | some m=>rw[e]at h;show⟨m,O,(rD h).symm⟩
def N4{ls:TB}{rm:Int×Int}{m:Nat}(e:ds[m]?=!dm):wo ds ls rm m=if dm.k=Kd.aside then(rm.1+aB ls m 10*(rm.2-jJ ls rm m),jJ ls rm m)else rm:=by
 unfold wo;rw[e];show(if some dm.k=!Kd.aside then _ else _)=_
 by_cases ha:dm.k=.aside
 .rw[if_pos ha,if_pos (xC some ha)]
 .rw[if_neg ha,if_neg λz=>ha (rD z)]
def pieceKinds:TV:=[s!"text",s!"head",s!"note"]
def BS{x:TN}{n:Nat}:fN (x.map V.int) none (!(n:Int))=(x.take n).map V.int:=by
 unfold fN;rw[HT.sIx_none,HT.sIx_nat,qA,List.drop_zero,Nat.sub_zero,<-uV]
 by_cases h:n<=x.length
 .rw[yW h]
 .rw[Nat.min_eq_right (),x8,qH ()]
def BU(K:W.Frag)(hK:X.K=K)(hc:X.calm=true):dy X (.builtin "sum") (pX K):=by
 subst hK;show i7 hc
end Sp0
namespace Bd
open L2 Bk Gen
def oz:TC->TA
 | []=>iz
 | y::r=>dz (Dm (dz (tC (.int y.1)) (dz (tC (.int y.2)) iz))) (oz r)
def BV:Expr->Int->Bool
 | .Constant (.int a) _ _,y=>a == y
 | _,_=>false
def N5{y:Int}(h:BV e y=true):∃j pos,e=.Constant (.int y) j pos:=by
 unfold BV at h
 split at h
 .rw[beq_iff_eq.mp h];show⟨_,_,O⟩
 .cases h
def F5:Expr->Int×Int->Bool
 | .Tuple [a,b] _ _,y=>BV a y.1 && BV b y.2
 | _,_=>false
def qaK{y:Int×Int}(h:F5 e y=true):∃es x p,e=.Tuple es x p/\PE X (.Tuple es x p) (Dm (dz (tC (.int y.1)) (dz (tC (.int y.2)) iz))):=by
 unfold F5 at h
 split at h
 .rename_i a b x p;rw[yK]at h;let⟨_,_,rfl⟩:=N5 h.1;let⟨_,_,rfl⟩:=N5 h.2;show⟨_,_,_,O,br (aI aw (aI aw bH (by rfl)) (by rfl))⟩
 .cases h
def qg:TW->List (Int×Int)->Bool
 | [],[]=>true
 | e::es,y::ys=>F5 e y && qg es ys
 | _,_=>false
theorem N6:∀{es:TW} {ys:TC},qg es ys=true->PA X es (oz ys)
 | [],[],_=>bH
 | e :: es, y :: ys, h => by
   rw[qg,yK]at h
   let⟨_,_,_,rfl,q⟩:=qaK (X:=X) h.1
   show aI q (N6 h.2) (by rfl)
def N7(ys:TC)(h:qg es ys=true):PE X (.List es pos) (o8 (oz ys)):=a0 (N6 h)
theorem N8:∀{ys:TC} {σ:St} {H:Hp} {Q:List V->Hp->Prop},Same H0 H->(∀(ts:TQ) (H':Hp),Same H H'->Paired (λt y=>PrAt H' t y) ts ys->Q (ts.map V.ref) H')->oz ys σ H Q
 | [],σ,H,Q,s,h=>h [] H (Same.refl _) .nil
 | y :: r, σ, H, Q, s, h => by
   show⟨by show 2<=sizeLine;decide,λt ht=>?_⟩
   have s1:=ao ht (.tup [.int y.1,.int y.2])
   show N8 (ys:=r) (s.trans s1) λts H' s2 p=>?_
   show h (t::ts) H' (s1.trans s2) (.cons (s2 _ _ aj) p)
def N9{ys:TC}(le:ys.length<=100)(h:∀(l:Addr) (ts:TQ) (H':Hp),H l=none->Same H H'->H' l=!.lst (ts.map V.ref)->Paired (PrAt H') ts ys->Q (.ref l) H'):o8 (oz ys) σ H Q:=by
 show N8 (H0:=H) (Q:=λxs H2=>xs.length<=sizeLine/\∀l,H2 l=none->Q (.ref l) (af H2 l (.lst xs))) (Same.refl _) λts H' s p=>⟨?_,λl hl=>?_⟩
 .have:=qN p;rw[qA,this];show rF le {}
 .have s1:=ao hl (.lst (ts.map V.ref));show h l ts _ (s.free hl) (s.trans s1) aj (p.mono λ_ _ q=>s1 _ _ q)
end Bd
namespace K32
open L2 Bk Gen Gd Bd Fc
abbrev BW:=top 122
def wv:TC:=[(0,99),(0,3),(0,9),(0,9),(1,9),(0,60),(20,200)]
def ww:TC:=[(1,6),(1,6),(1,4),(0,1),(10,90),(0,1)]
def kK:TC:=wv++ww
def LkTo(i:Nat)(l:TN):Prop:=l.length=i/\∀(j:Nat) (v:Int) (b:Int×Int),l[j]?=!v->kK[j]?=!b->b.1<=v/\v<=b.2
theorem LkTo.more{i:Nat}{l:TN}{v:Int}{b:Int×Int}(h:LkTo i l)(e:kK[i]?=!b)(h1:b.1<=v)(h2:v<=b.2):LkTo (i+1) (l++[v]):=by
 show⟨by rw[qG,h.1];rfl,λj x c hx hc=>?_⟩
 by_cases z:j<l.length
 .rw[rW z]at hx;show h.2 j x c hx hc
 .rw[rJ ()]at hx;have j0:j-l.length=0:=by
   have:=(qI.mp hx).1;simp at this;omega
  rw[j0]at hx;have ev:v=x:=‹hx›
  have ej:j=i:=by have:=h.1;omega
  rw[ej,e]at hc;cases hc;subst ev;show⟨h1,h2⟩
def LkTo.at{l:TN}(h:LkTo 13 l)(j:Nat){b:Int×Int}(e:kK[j]?=!b):b.1<=l.getD j 0/\l.getD j 0<=b.2:=by
 have hj:j<l.length:=by
  rw[h.1];show(qI.mp e).1
 rw[qX,qB hj];show h.2 j _ b (qB hj) e
def qaL:∀c∈kK,0<=c.1/\c.1<=c.2/\c.2<=200:={}
inductive F6:List V->Hp->VK->XK->Prop
|m (B st:Addr) (ds:List Nd):vs=[.ref B,.ref st]->cB (λb=>b≠st) H B ds->B≠st->ds.length<=100->StOk H st->(∀(p:Addr) (ls:TB) (H':Hp),H p=none->LstAt LkAt H' p ls->ls.length=ds.length->(∀l∈ls,LkTo 13 l)->StOk H' st->Keep1 st H H'->Q (.ref p) H')->F6 vs H Q E
def qaM:∃bK pI pa pb pc pd pe pf pg ph,b9 BW=.Assign [.Name "_law_bounds" pa] (.List bK pb) pc :: .Assign [.Name "_law_bounds" pd] (.BinOp (.Name "_law_bounds" pe) .Add (.List pI pf) pg) ph::(b9 BW).drop 2/\qg bK wv=true/\qg pI ww=true:=⟨_,_,_,_,_,_,_,_,_,_,O,by ac_rfl,by ac_rfl⟩
def qaN{ys:TC}{i:Nat}(le:ys.length<=100)(h:∀(l:Addr) (ts:TQ) (H':Hp),H l=none->Same H H'->H' l=!.lst (ts.map V.ref)->Paired (PrAt H') ts ys->u D (σ.set i (!.ref l)) H'):rj (lD (o8 (oz ys)) (a7 i)) u D σ H:=by
 show o8 (oz ys) σ H (λv H1=>a7 i v σ H1 (u D));show N9 le h
theorem qaO(F:Fun K "_law_looks" "_law_looks" BW f fd)(T:bP mg)(bx:⋯ 1 "_law_take" ["_law_stream_here", "_law_most"] gY):(~~~0) 2 f fd ["_law_book_here", "_law_stream_here"] F6:=by
 rcases F.go ["_law_book_here", "_law_stream_here", "_law_bounds", "_law_found", "_law_node", "_law_look", "_law_low", "_law_great"] with⟨B,st,ds,rfl,⟨ab,hB,nd⟩,Oa,le,S0,q⟩;have dY:ab.length=ds.length:=nd.length;let⟨bK,pI,pa,pb,pc,pd,pe,pf,pg,ph,eb,qaP,qaQ⟩:=qaM;rw[eb];show⟨_,(ar (sv 2 (N7 wv qaP))
  (ar (sv 2 (aH pB (pv 2) (N7 ww qaQ)))
  (ar (sv 3 (a0 bH))
  (ar (fv (a9 (pv 0)) (nv 4)
  (ar (sv 5 (a0 bH))
  (ar (fv (a9 (pv 2)) (jp (by rfl) (bv (nv 6) (bv (nv 7) dO)))
  (ax (bX (ap (pv 5) (aH bc (pv 6) (cF bx hr (a2 (pv 1) (aH bc (aH dQ (pv 7) (pv 6)) aw))))))))
  (ax (bX (ap (pv 3) (pv 5)))))))
  (ax (aG (pv 3))))))),?_⟩
 show qaN (ys:=wv) {} λb1 t1 H1 f1 s1 e1 p1=>?_
 show⟨_,O,N9 (ys:=ww) {} λb2 t2 H2 f2 s2 e2 p2=>?_⟩;have l1:=qN p1;have l2:=qN p2;have q1:wv.length=7:=rfl;have q2:ww.length=6:=rfl;show⟨b1,b2,_,_,O,O,s2 _ _ e1,e2,by rw[qA,qA];show xA (aR ()),λb hb=>?_⟩;have s3:=ao hb (.lst (t1.map V.ref++t2.map V.ref));have e3:af H2 b (.lst (t1.map V.ref++t2.map V.ref)) b=!.lst ((t1++t2).map V.ref):=by rw[aj,qD]
 have p3:Paired (PrAt (af H2 b (.lst (t1.map V.ref++t2.map V.ref)))) (t1++t2) kK:=pO (p1.mono λ_ _ q=>s3 _ _ (s2 _ _ q)) (p2.mono λ_ _ q=>s3 _ _ q);have dh:Same H _:=(s1.trans s2).trans s3;have fb:H b=none:=(s1.trans s2).free hb;generalize af H2 b (.lst (t1.map V.ref++t2.map V.ref))=H3 at s3 e3 p3 dh⊢;have S3:=S0.same dh;have Ob:b≠st:=Ne.symm (cH S0.some.choose_spec fb);show⟨aM,λp hp=>?_⟩;have sp:=ao hp (.lst []);have BX:af H3 p (.lst []) p=!.lst (([]:TQ).map V.ref):=aj;have AU:H p=none:=dh.free hp;have Oc:p≠st:=bO S3.some hp;have bp:b≠p:=(bO ⟨_,e3⟩ hp).symm;have ii:=dh.trans sp;have S4:=S3.same sp;have e4:=sp _ _ e3;have p4:Paired (PrAt (af H3 p (.lst []))) (t1++t2) kK:=p3.mono λ_ _ q=>sp _ _ q
 generalize af H3 p (.lst [])=H4 at sp BX ii S4 e4 p4⊢;have F7:=ii _ _ hB;show⟨_,O,B,O,⟨_,SqL.of F7⟩,iV (xs:=ab.map V.ref) (λi σ H'=>StOk H' st/\Keep1 st H H'/\H' b=!.lst ((t1++t2).map V.ref)/\Paired (PrAt H') (t1++t2) kK/\(∃z4 z5 z6 z7,σ=[!.ref B,!.ref st,!.ref b,!.ref p,z4,z5,z6,z7])/\∃as ls,H' p=!.lst (as.map V.ref)/\Paired (Y1 (λb=>b≠st/\b≠p) H') as ls/\(∀l∈ls,LkTo 13 l)/\ls.length=i) ⟨S4,ii.keep,e4,p4,⟨none,none,none,none,O⟩,[],[],BX,.nil,(λl hl=>nomatch hl),O⟩ ?_ ?_ ?_⟩
 .ext i σ H' hi ⟨_,K3,_⟩;show SqL.of (K3 _ _ Oa hB)
 .rintro i y σ H5 hy ⟨S5,K5,e5,p5,⟨z4,z5,z6,z7,rfl⟩,as,ls,wz,pr,cE,ll⟩;have hi:i<ds.length:=by
   have:=(qI.mp hy).1;rw[qA,dY]at this;show this
  have la:=qN pr;show⟨aM,λk hk=>?_⟩;have sk:=ao hk (.lst []);have F9:af H5 k (.lst []) k=!.lst (([]:TN).map V.int):=aj;have uu:k≠st:=bO S5.some hk;have kp:k≠p:=bO ⟨_,wz⟩ hk;have kb:k≠b:=bO ⟨_,e5⟩ hk;have S6:=S5.same sk;have e6:=sk _ _ e5;have p6:Paired (PrAt (af H5 k (.lst []))) (t1++t2) kK:=p5.mono λ_ _ q=>sk _ _ q
  generalize af H5 k (.lst [])=H6 at sk F9 S6 e6 p6⊢;show⟨_,O,b,O,⟨_,SqL.of e6⟩,iV (xs:=(t1++t2).map V.ref) (λj σ H'=>StOk H' st/\fU st k H6 H'/\(∃z6 z7,σ=[!.ref B,!.ref st,!.ref b,!.ref p,!y,!.ref k,z6,z7])/\∃l:TN,H' k=!.lst (l.map V.int)/\LkTo j l) ⟨S6,KeepN.refl,⟨z6,z7,O⟩,[],F9,O,λj v b h=>nomatch h⟩ ?_ ?_ ?_⟩
  .ext j σ H' hj ⟨_,K7,_⟩;show SqL.of (K7 _ _ ⟨Ob,Ne.symm kb⟩ e6)
  .ext j x σ H7 hx ⟨S7,K7,⟨z6,z7,rfl⟩,l,hl,lk⟩;let⟨a,ea,rfl⟩:=cC hx;let⟨c,ec,hc⟩:=bN p6 ea;have ast:a≠st:=mw hc S6;have ak:a≠k:=λz=>by
    have eD:H6 a=!.tup [.int c.1,.int c.2]:=hc;rw[z,F9]at eD;cases eD
   have ha7:=K7 _ _ ⟨ast,ak⟩ hc;let⟨c0,c1,c2⟩:=qaL c (qR ec);have j13:j<13:=(qI.mp ec).1;show⟨a,_,O,SqT.of ha7,O,_,_,O,_,_,O,O,?_⟩;show⟨_,O,.inl ⟨O,_,SqL.of hl⟩,_,O,_,O,_,O,_,O,_,_,O,O,_,_,O,O,st,c.2-c.1+1,O,S7,(),(),λr H8 r0 r1 S8 K8=>⟨_,_,O,O,?_⟩⟩;have g8:=K8 _ _ uu hl;show⟨k,_,_,O,O,g8,aR (by rw[qA];have:=lk.1;omega),?_⟩;let⟨sx,sy,es,ez⟩:=S8;show⟨⟨sx,sy,by rw[aE (Ne.symm uu)];show es,ez⟩,λx o n e=>by rw[aE n.2];show K8 _ _ n.1 (K7 _ _ n e),⟨_,_,O⟩,l++[c.1+r],by rw[aj,qD];rfl,lk.more ec () ()⟩
  .ext σ H7 ⟨S7,K7,⟨z6,z7,rfl⟩,l,hl,lk⟩;have qaR:LkTo 13 l:=by
    have e13:((t1++t2).map V.ref).length=13:=by rw[qA,qG];omega
    rw[e13]at lk;show lk
   have AO:=K7 _ _ ⟨Oc,Ne.symm kp⟩ (sk _ _ wz);have K57:Keep1 st H5 H7:=λx o n e=>K7 _ _ ⟨n,Ne.symm (bO ⟨_,e⟩ hk)⟩ (sk _ _ e)
   show⟨_,O,.inl ⟨O,_,SqL.of AO⟩,_,O,p,_,_,O,O,AO,aR (by rw[qA];omega),?_⟩;let⟨sx,sy,es,ez⟩:=S7;have pk:KeepN (λb=>b≠st/\b≠p) H5 (af H7 p (.lst (as.map V.ref++[V.ref k]))):=λx o n e=>by rw[aE n.2];show K57 _ _ n.1 e
   show⟨⟨sx,sy,by rw[aE (Ne.symm Oc)];show es,ez⟩,λx o n e=>?_,?_,?_,⟨_,_,_,_,O⟩,as++[k],ls++[l],by rw[aj,qD];rfl,?_,?_,by rw[qG,ll];rfl⟩
   .rw[aE (cH e AU)];show K57 _ _ n (K5 _ _ n e)
   .rw[aE bp];show K57 _ _ Ob e5
   .show p5.mono λx y q=>pk _ _ ⟨mw q S5,λz=>?_⟩ q
    have q':H5 x=!.tup [.int y.1,.int y.2]:=q;rw[z,wz]at q';cases q'
   .show(pr.mono λx y q=>⟨q.1,pk _ _ q.1 q.2⟩).snoc ⟨⟨uu,kp⟩,by rw[aE kp];show hl⟩
   .intro l' hl';rcases rG.mp hl' with h | h
    .show cE l' h
    .rw[List.mem_singleton.mp h];show qaR
 .ext σ H5 ⟨S5,K5,e5,p5,⟨z4,z5,z6,z7,rfl⟩,as,ls,wz,pr,cE,ll⟩;show⟨_,O,q p ls H5 AU ⟨as,wz,pr.mono λ_ _ q=>q.2⟩ (by rw[ll,qA,dY]) cE S5 K5⟩
abbrev Od:=top 124
def Oe(x:Str):Bool:=decide (1<=x.cps.size/\x.cps.size<=4) && x.cps.all (·< 128)
def qaS:∀n∈List.range 2001,Oe (Str.ofString (toString (n:Int)))=true:=by ac_rfl
def qaT{i:Int}(h0:0<=i)(h1:i<=2000):qf (Str.ofString (toString i)):=by
 have h:=qaS i.toNat (xF.mpr ());rw[show((i.toNat:Nat):Int)=i by omega]at h;unfold Oe at h;rw[yK,decide_eq_true_eq]at h;show⟨⟨(),h.2⟩,h.1⟩
def qaU{i:Int}(h0:0<=i)(h1:i<=2000):i.natAbs.log2<1920:=by
 have h:i.natAbs<2 ^ 1920:=yB (show i.natAbs<=2000 by omega) (by ac_rfl)
 by_cases z:i.natAbs=0
 .rw[z];decide
 .show(Nat.log2_lt z).mpr h
def eX(ds:List Nd):TV:=(ds.filter λd=>d.nm≠cA).map (·.nm)
inductive Ga:List V->Hp->VK->XK->Prop
|m (B st:Addr) (ds:List Nd):vs=[.ref B,.ref st]->cB (λb=>b≠st) H B ds->B≠st->ds.length<=100->StOk H st->(∀(S:Addr) (sh:TK) (H':Hp),H S=none->LstAt ShAt H' S sh->(sh.map Prod.fst).Sublist (eX ds)->(∀p∈sh,qf p.2)->StOk H' st->Keep1 st H H'->Q (.ref S) H')->Ga vs H Q E
theorem qaV(F:Fun K "_law_shown" "_law_shown" Od f fd)(T:bP mg)(bx:⋯ 1 "_law_take" ["_law_stream_here", "_law_most"] gY):(~~~0) 2 f fd ["_law_book_here", "_law_stream_here"] Ga:=by
 rcases F.go ["_law_book_here", "_law_stream_here", "_law_names"] with⟨B,st,ds,rfl,⟨as,hp,nd⟩,Oa,le,S0,q⟩;have kr:as.length=ds.length:=nd.length;show⟨_,(ar (sm 2 ["_law_node"] [] [] (a9 (pv 0)) (nv 0) (iA (tc iw (px (r:=b8 K) aF (pv 0) aw) aO)) (px (r:=b8 K) aF (pv 0) aw))
  (ax (aG (cm ["_law_name"] ["_law_stream_here"] [1] (a9 (pv 2)) (nv 0) (iA (tc sj (cF bx hr (a2 (pv 1) aw)) aw)) (br (a2 (pv 0) (eP UA (by rfl) T.str Wg (a1 (aH bc aw (cF bx hr (a2 (pv 1) aw))))))))))),?_⟩
 have zl:(as.map V.ref).length<sizeLine:=by rw[qA];show aR ()
 show⟨_,O,B,O,⟨_,SqL.of hp⟩,bw (λi ys ae H'=>H'=H/\ys=(eX (ds.take i)).map V.str/\∃z,ae=[z]) zl ⟨O,O,none,O⟩ ?_ ?_ ?_⟩
 .ext i ys ae H' hi ⟨rfl,rfl,_⟩;show⟨SqL.of hp,?_⟩;unfold eX;rw[qA,qA];show rF (rR _ _) (by rw[qQ];show qV _ _)
 .ext i x ys ae H' hx ⟨rfl,rfl,z,rfl⟩;let⟨a,ea,rfl⟩:=cC hx;let⟨d,ed,na,m,s',ha,_⟩:=nd.at ea;show⟨_,O,a,_,_,_,O,O,SqT.of ha,O,O,_,O,?_⟩;have et:ds.take (i+1)=ds.take i++[d]:=by rw[qS,ed];rfl
  by_cases hd:d.nm=cA
  .rw[qJ (show V.str d.nm=V.str (s!"")from xC V.str hd)];show aW ?_;show⟨O,?_,_,O⟩;rw[et];unfold eX;rw[rT];simp[hd]
  .rw[qP (show¬V.str d.nm=V.str (s!"")from λz=>hd (V.str.inj z))];show aY ?_;show⟨_,O,a,_,_,_,O,O,SqT.of ha,O,?_⟩;show⟨O,?_,_,O⟩;rw[et];unfold eX;rw[rT];simp[hd]
 ext ys ae H' ⟨rfl,rfl,z,rfl⟩ N hN;rw[qA,kr,x8];have fl:(eX ds).length<=100:=by unfold eX;rw[qA];show rF (rR _ _) le
 have s1:=ao hN (.lst ((eX ds).map V.str));have fR:af H' N (.lst ((eX ds).map V.str)) N=!.lst ((eX ds).map V.str):=aj;have nst:N≠st:=bO S0.some hN;have S1:=S0.same s1;generalize af H' N (.lst ((eX ds).map V.str))=H1 at s1 fR S1⊢;show⟨_,O,N,O,⟨_,SqL.of fR⟩,bw (xs:=(eX ds).map V.str) (λi ys ae H2=>∃bs sh,ys=bs.map V.ref/\Paired (ShAt H2) bs sh/\(sh.map Prod.fst).Sublist ((eX ds).take i)/\(∀p∈sh,qf p.2)/\(∃z,ae=[z,!.ref st])/\StOk H2 st/\Keep1 st H1 H2) (by rw[qA];show aR ()) ⟨[],[],O,.nil,List.Sublist.refl _,(λp hp=>nomatch hp),⟨none,O⟩,S1,KeepN.refl⟩ ?_ ?_ ?_⟩
 .ext i ys ae H2 hi ⟨bs,sh,rfl,pb,sb,_,_,_,K2⟩;show⟨SqL.of (K2 _ _ nst fR),?_⟩;have:=sb.length_le;rw[qA,qQ]at this;rw[qA,qN pb];show rF this (qV _ _)
 .rintro i x ys ae H2 hx ⟨bs,sh,rfl,pb,sb,wd,⟨z,rfl⟩,S2,K2⟩;rw[qK]at hx;let⟨nm,en,rfl⟩:=Option.map_eq_some_iff.mp hx;have et:(eX ds).take (i+1)=(eX ds).take i++[nm]:=by rw[qS,en];rfl
  show⟨_,O,st,3,O,S2,{},{},λr H3 r0 r1 S3 K3=>⟨_,_,O,O,_,O,?_⟩⟩;have Of:Paired (ShAt H3) bs sh:=pb.mono λ_ _ q=>K3 _ _ (mw q S2) q
  show ca (λc=>?_) (λc=>?_)
  .show⟨_,O,_,O,st,2000,O,S3,{},{},λr4 H4 nM nN S4 K4=>⟨_,_,O,O,?_⟩⟩;show⟨_,O,qaU () (),aM,λt ht=>?_⟩;have sT:=ao ht (.tup [.str nm,.str (Str.ofString (toString (1+r4)))]);show⟨bs++[t],sh++[(nm,Str.ofString (toString (1+r4)))],by rw[qD];rfl,(Of.mono λ_ _ q=>sT _ _ (K4 _ _ (mw q S3) q)).snoc aj,?_,λp hp=>?_,⟨_,O⟩,S4.same sT,((K2.trans K3).trans K4).trans sT.keep⟩
   .rw[et,qD];show sb.append (List.Sublist.refl _)
   .rcases rG.mp hp with h | h
    .show wd p h
    .rw[List.mem_singleton.mp h];show qaT () ()
  .show⟨bs,sh,O,Of,by rw[et];show sb.trans (List.sublist_append_left _ _),wd,⟨_,O⟩,S3,K2.trans K3⟩
 .ext ys ae H2 ⟨bs,sh,rfl,pb,sb,wd,_,S2,K2⟩ D hD;have sD:=ao hD (.lst (bs.map V.ref));have K02:Keep1 st H' H2:=s1.keep.trans K2;rw[qA,x8]at sb;show q D sh _ (K02.back (bO S2.some hD) hD) ⟨bs,aj,pb.mono λ_ _ q=>sD _ _ q⟩ sb wd (S2.same sD) (K02.trans sD.keep)
end K32
namespace L2
open PyProof.Rows
section
variable{prog:Program}{w:World}{A:Around}{E:TH}{s:Shared}
variable{I:Addr}{fp wr:TQ}{n:Nat}{P:Nat->Value->Prop}{St:Nat->Heap->Prop}{R:Result->Shared->Prop}{kw:List (Str×Value)}
abbrev qh(up:Bool):String:=cond up "max.loop" "min.loop"
def BZ:(toString "max" ++ toString ".loop" : String)=qh true:={}
def B1:(toString "min" ++ toString ".loop" : String)=qh false:={}
abbrev Og(up:Bool):CmpOp:=cond up .Gt .Lt
abbrev B2(up:Bool):Str:=cond up "max" "min"
abbrev xa(up:Bool):String:=cond up "max" "min"
def Gb:∀up,entryFor table (qh up)=!cond up Builtin.«max.loop» Builtin.«min.loop»
 | true=>F.entry_max_loop
 | false=>F.entry_min_loop
def qaW:∀up,entryFor table (xa up)=!cond up Builtin.max Builtin.min
 | true=>F.entry_max
 | false=>F.entry_min
def qaX:∀up,builtinKind (xa up)=none
 | true=>F.kind_max
 | false=>F.kind_min
def qaY:∀up,plainId (xa up)=true
 | true=>F.plain_max
 | false=>F.plain_min
def qaZ(a d:Value):∀up,argsOk (xa up) ⟨[a],[("default",d)]⟩
 | true=>by unfold argsOk;kernel_rfl
 | false=>by unfold argsOk;kernel_rfl
def B3:∀up,plainId (qh up)=true
 | true=>F.plain_max_loop
 | false=>F.plain_min_loop
theorem Gc(up:Bool)(W:Walks prog w A.in1 I fp wr n P St)(bt:Nat->Nat->Bool)(xb:CmpOf prog w A.in1 (Og up) P bt)(S:Addr)(kM:S∉fp) :
  ∀(k j:Nat) (s:Shared) (vb:Value) (c:Nat),n-(j+1)=k->j+1<=n->St (j+1) s.heap->P (argBest bt j) vb->s.heap.get? S=!{cls:=.type "list",dict:=none,data:=.seq #[vb,vb] c,slots:=#[]} ->
   (∀v h' tk,P (argBest bt (n-1)) v->(∀b o,b∉wr->b≠S->s.heap.get? b=!o->h'.get? b=!o)->R (.ok (.ret v)) {s with heap:=h',toks:=tk}) ->
   codeAny (model prog w) A (.builtin (qh up) ⟨[.ref I,.none,.ref S],kw⟩) R s
 | 0, j, s, vb, c, hk, hj, b7, B4, hS, hR => by
   have Oh:j+1=n:=()
   have xc:S∉wr:=λh=>kM (W.sub _ h)
   have hp:=B3 up
   cases up
   all_goals show xM (Gb _) (by
     rw[xD hp _]
     show wpAny _ A.in1 (seqItems? (.ref S)>>=_) _ _ s
     show qC (xY hS O (by
       show wpAny _ A.in1 (tryCatch (pyNext (.ref I)) _>>=_) _ _ s
       show qC (wpAny_tryCatch (W.done s _ _ (Oh ▸ b7) λh1 tk dL=>?_));have mC:=dL S _ xc hS
       show wpAny _ A.in1 (updateSeq S (λ_=>#[])>>=_) _ _ _
       show qC (uE mC O (qC (wpAny_letGo (qM (hR vb _ tk (by rw[<-Oh];show B4) λb o iK kN e=>(xS _ _ (Ne.symm kN)).trans (dL b o iK e)))))))))
 | k + 1, j, s, vb, c, hk, hj, b7, B4, hS, hR => by
   have aX:j+1<n:=()
   have xc:S∉wr:=λh=>kM (W.sub _ h)
   have hp:=B3 up
   cases up
   all_goals show xM (Gb _) (by
     rw[xD hp _]
     show wpAny _ A.in1 (seqItems? (.ref S)>>=_) _ _ s
     refine qC (xY hS O (by
       show wpAny _ A.in1 (tryCatch (pyNext (.ref I)) _>>=_) _ _ s
       show qC (wpAny_tryCatch (W.item (j+1) s _ _ aX b7 λv h1 tk hP mD dL=>?_));have mC:=dL S _ xc hS
       show wpAny _ A.in1 (tryCatch (holding [v,v] (richCompare _ v vb>>=_)) _>>=_) _ _ _
       show qC (wpAny_tryCatch (xQ (qC (xb (j+1) (argBest bt j) v vb _ _ _ hP B4 (qC (xQ (xX (qC (wpAny_letGo (qM ?_))))))))))
       cases hb:bt (j+1) (argBest bt j)with
       | true =>
         have Ge:P (argBest bt (j+1)) v:=by simp only[argBest,hb,if_true];show hP
         simp only[if_true];show qC (uE mC O (qC (wpAny_letGo ?_)));first | rw[BZ] | rw[B1]
         show qM ⟨yA hp _,Gc _ W bt xb S kM k (j+1) _ v _ () aX (W.frame _ _ _ mD λb Gf o e=>(xS _ _ (λz:S=b=>kM (by rw[z];show Gf))).trans e) Ge (xT _ mC O) λv2 h2 xg xh gz=>?_⟩
         show hR v2 h2 xg xh λb o iK kN e=>gz b o iK kN ((xS _ _ (Ne.symm kN)).trans (dL b o iK e))
       | false =>
         have Ge:P (argBest bt (j+1)) vb:=by simp only[argBest,hb,Bool.false_eq_true,if_false];show B4
         simp only[Bool.false_eq_true,if_false];show qC (wpAny_letGo ?_);first | rw[BZ] | rw[B1]
         show qM ⟨yA hp _,Gc _ W bt xb S kM k (j+1) _ vb c () aX mD Ge mC λv2 h2 xg xh gz=>hR v2 h2 xg xh λb o iK kN e=>gz b o iK kN (dL b o iK e)⟩)))
theorem qa0(up:Bool)(W:Walks prog w A.in1 I fp wr n P St)(bt:Nat->Nat->Bool)(xb:CmpOf prog w A.in1 (Og up) P bt)(S:Addr)(kM:S∉fp){c:Nat}(b7:St 0 s.heap)(hS:s.heap.get? S=!{cls:=.type "list",dict:=none,data:=.seq #[] c,slots:=#[]})(hR:0<n->∀v h' tk,P (argBest bt (n-1)) v->(∀b o,b∉wr->b≠S->s.heap.get? b=!o->h'.get? b=!o)->R (.ok (.ret v)) {s with heap:=h',toks:=tk})(hE:n=0->∀h' tk,(∀b o,b∉wr->b≠S->s.heap.get? b=!o->h'.get? b=!o)->R (.ok (.ret d)) {s with heap:=h',toks:=tk}) :
  codeAny (model prog w) A (.builtin (qh up) ⟨[.ref I,.none,.ref S],[("default",d)]⟩) R s:=by
 have xc:S∉wr:=λh=>kM (W.sub _ h)
 have hp:=B3 up;cases up
 all_goals show xM (Gb _) (by
  rw[xD hp _];show wpAny _ A.in1 (seqItems? (.ref S)>>=_) _ _ s;show qC (xY hS O (by
   show wpAny _ A.in1 (tryCatch (pyNext (.ref I)) _>>=_) _ _ s
   by_cases hn:0<n
   .show qC (wpAny_tryCatch (W.item 0 s _ _ hn b7 λv h1 tk hP mD dL=>?_));have mC:=dL S _ xc hS;show wpAny _ A.in1 (updateSeq S (λ_=>#[v,v])>>=_) _ _ _;show qC (uE mC O ?_);first | rw[BZ] | rw[B1]
    show qM ⟨yA hp _,Gc _ W bt xb S kM _ 0 _ v _ O hn (W.frame _ _ _ mD λb Gf o e=>(xS _ _ (λz:S=b=>kM (by rw[z];show Gf))).trans e) hP (xT _ mC O) λv2 h2 xg xh gz=>?_⟩;show hR hn v2 h2 xg xh λb o iK kN e=>gz b o iK kN ((xS _ _ (Ne.symm kN)).trans (dL b o iK e))
   .have h0:n=0:=()
    show qC (wpAny_tryCatch (W.done s _ _ (h0 ▸ b7) λh1 tk dL=>?_));show qC (wpAny_rule (qM (hE h0 h1 tk λb o iK _ e=>dL b o iK e))))))
end
def tMM(up:Bool)(K:W.Frag)(ta:TA)(td:TE):TE:=λσ H Q=>ta σ H λvs H1=>td σ H1 λy H2=>∃(a:Addr) (ns:TN) (r:V),vs=[.ref a]/\SqL K H2 a (ns.map V.int)/\(ns=[]->y=r)/\(ns≠[]->∃m,m∈ns/\r=.int m/\∀z∈ns,cond up (z<=m) (m<=z))/\Q r H2
section
variable{X:Cx}{e d:Expr}{ta:TA}{td:TE}{p kp pos:Pos}
theorem xi(up:Bool)(hc:X.calm=true)(hg:Gl X (B2 up))(hm:X.mg (B2 up)=none)(hv:bootBuiltins (B2 up)=!.builtin (xa up))(ha:PA X [e] ta)(hd:PE X d td)(he:starEach [e] X.env=[(false,eval e X.env)]:=by rfl):PE X (.Call (.Name (B2 up) p) [e] [⟨!"default",d,kp⟩] pos) (tMM up X.K ta td):=by
 intro aa s σ H Q I h;show yU (iQ I hg hm hv ?_ (by cases up<;>decide) (by cases up<;>decide));show callWith_kw (aN (ha pos aa s σ H _ I h) λus s1 ⟨vs,H1,I1,r1,q1⟩=>kws_cons (aN (hd aa s1 σ H1 _ I1 q1) λdv s2 ⟨y,H2,I2,ry,a,ns,rr,e1,hp,q0,qn,q⟩=>kws_nil ?_)) (by rw[he];rfl) (by rw[he];rfl);subst e1;let⟨u,rfl,rx⟩:=vals1 r1;cases rx;let⟨ag,rv,pl,hz⟩:=I2.list hp;have hh:=I2.ok.hd hc;have lp:a< ~~~s2:=by
  let⟨o,e,_⟩:=pl.isList;show qL e
 have hn:ag.toArray.size=ns.length:=by rw[qY,<-rv.length,qA]
 cases up
 all_goals
  show Yk (qaX _) (qaY _) (qaW _) (qaZ _ _ _) ?_;show wpAny _ X.A.in1 (Builtin.Builtins.bindParams _ ["key", "default"] 0 ⟨[],[("default",dv)]⟩>>=_) _ _ s2;show qC (wpAny_of_eq (show _=pure [none,!dv]from rfl) (qC (qM (qC (xJ pl.isList (qC (yH ?_)))))))
  first | rw[BZ] | rw[B1]
  show qM ⟨yA (B3 _) _,qa0 _ (Walks.list ‹hh› (~~~s2) a (rA lp) ag.toArray) _ (by first | show CmpOf.ints_gt (λi=>ns.getD i 0) (kB rv) | show CmpOf.ints_lt (λi=>ns.getD i 0) (kB rv)) (s2.heap.push {cls:=.type "list_iterator",data:=.fields #[.ref a,.int 0 0]}).objs.size (λz=>?_) ?_ (qT _ O) (λh0 v h' tk hP k=>?_) (λh0 h' tk k=>?_)⟩
  .rw[rM]at z;rcases qO.mp z with z | z
   .show absurd z (Nat.succ_ne_self _)
   .have z': ~~~s2+1=a:=‹z›
    show absurd lp (by rw[<-z'];show Nat.not_lt_of_le (yD _))
  .show⟨⟨_,qE _ (qT _ O),O,O⟩,(pl.isList.push _).push _⟩
  .let⟨t,rfl⟩:=kB rv _ _ hP;let⟨m,AY,rfl,le⟩:=qn (λz=>by rw[hn,z]at h0;cases h0)
   first | rw[My hn AY le] | rw[BA hn AY le]
   show⟨.int m,H2,I2.kept λb o e=>k b o ‹rA (qL e)› (λz=>?_) (qE _ (qE _ e)),⟨t,O⟩,q⟩;have:=qL e;rw[z,rM]at this;show absurd this (Nat.not_lt_of_le (yD _))
  .rw[hn]at h0;have e0:=q0 (rK h0);subst e0;show⟨y,H2,I2.kept λb o e=>k b o ‹rA (qL e)› (λz=>?_) (qE _ (qE _ e)),ry,q⟩;have:=qL e;rw[z,rM]at this;show absurd this (Nat.not_lt_of_le (yD _))
end
end L2
namespace K32
open L2 Bk Gen Gd
open Bd
open Bw
abbrev Oi:=top 44
abbrev Oj:=top 45
abbrev Ol:=top 38
abbrev Om:=top 46
abbrev On:=top 47
abbrev Oo:=top 48
abbrev Gg:=top 50
abbrev Op:=top 49
abbrev Oq:=top 51
def Os:iH (s!"inset") 3:=⟨by ac_rfl,by ac_rfl⟩
def BA:iH (s!"least") 5:=⟨by ac_rfl,by ac_rfl⟩
def qa1:iH (s!"most") 6:=⟨by ac_rfl,by ac_rfl⟩
def Gh:iH (s!"columns") 7:=⟨by ac_rfl,by ac_rfl⟩
def Ot:iH (s!"span") 8:=⟨by ac_rfl,by ac_rfl⟩
def Gi:iH (s!"wide") 11:=⟨by ac_rfl,by ac_rfl⟩
def xj(u v:Int):(if v>u then v else u)=max u v:=by
 by_cases z:u<v
 .rw[if_pos z];omega
 .rw[if_neg z];omega
def Gj(u v:Int):(if v<u then v else u)=min u v:=by
 by_cases z:v<u
 .rw[if_pos z];omega
 .rw[if_neg z];omega
def qa2(F:Fun K "with_insets" "with_insets" Oi f fd)(cg:⋯ 1 "look_at" ["looks", "node", "word"] fz):(~~~0) 2 f fd ["looks", "node", "low", "great"] E8:=by
 rcases F.go ["looks", "node", "low", "great", "both"] with⟨p,n,a,b,ls,rfl,lk,hn,cO,q⟩;show⟨_,(ar (sv 4 (aH fK aw (cF cg hr (a3 (pv 0) (pv 1) aO))))
  (ax (aG (br (a2 (aH bc (pv 2) (pv 4)) (aH bc (pv 3) (pv 4))))))),?_⟩
 show⟨_,O,_,O,p,n,3,_,ls,O,lk,hn,cO,{},Os,_,_,O,O,.inl ⟨{},{}⟩,?_⟩;show⟨_,O,_,O,_,_,O,O,_,O,_,O,_,_,O,O,aM,λt ht=>?_⟩;show q t _ (ao ht _) aj
def qa3(F:Fun K "units_low" "units_low" Oj f fd)(T:bP mg)(U:NumsB mg):(~~~0) 1 f fd ["units"] Fz:=by
 rcases F.go ["units"] with⟨p,r,rfl,⟨as,hp,pr⟩,ne,jK,q⟩;let⟨_,Gk⟩:=U.uw;have la:=qN pr;show⟨_,(ax (aG (cb (pV (by rfl)) T.max eQ (a1 (cm ["unit"] [] [] (a9 (pv 0)) (nv 0) bf (px (r:=b8 K) aF (pv 0) (gi Gk))))))),?_⟩;show⟨_,O,p,O,⟨_,SqL.of hp⟩,bw (xs:=as.map V.ref) (λi ys ae H'=>H'=H/\ys=((r.take i).map Un.w).map V.int/\∃z,ae=[z]) (by rw[qA];show aR ()) ⟨O,O,none,O⟩ ?_ ?_ ?_⟩
 .ext i ys ae H' hi ⟨rfl,rfl,_⟩;show⟨SqL.of hp,?_⟩;rw[qA,qA,qQ];show qV _ _
 .ext i y ys ae H' hy ⟨rfl,rfl,z,rfl⟩;let⟨c,ec,rfl⟩:=cC hy;let⟨u,eu,nl,hc,_⟩:=bN pr ec;show⟨_,O,c,_,_,_,O,O,SqT.of hc,O,O,?_,_,O⟩;rw[qS,eu,qD,qD];rfl
 .ext ys ae H' ⟨rfl,rfl,_⟩ D hD;rw[qH (by rw[qA];omega)];show⟨D,_,kE r,O,SqL.of aj,kF ‹ne›,oi,?_⟩;show q _ (ao hD _)
theorem qa4(F:Fun K "row_length" "row_length" Ol f fd)(T:bP mg)(U:NumsB mg):(~~~0) 1 f fd ["units"] Bz:=by
 rcases F.go ["units"] with⟨p,r,rfl,⟨as,hp,pr⟩,ne,jK,q⟩;let⟨_,Gk⟩:=U.uw;let⟨_,qa5⟩:=U.ub;have la:=qN pr;show⟨_,(ax (aG (aH bc (cb (i7 (by rfl)) T.sum fW (a1 (cm ["unit"] [] [] (a9 (pv 0)) (nv 0) bf (px (r:=b8 K) aF (pv 0) (gi Gk))))) (cb (i7 (by rfl)) T.sum fW (a1 (cm ["unit"] [] [] (a9 (lJ sG (pv 0) pi (jq (dH dI aw)))) (nv 0) bf (px (r:=b8 K) aF (pv 0) (gi qa5)))))))),?_⟩;show⟨_,O,p,O,⟨_,SqL.of hp⟩,bw (xs:=as.map V.ref) (λi ys ae H'=>H'=H/\ys=((r.take i).map Un.w).map V.int/\∃z,ae=[z]) (by rw[qA];show aR ()) ⟨O,O,none,O⟩ ?_ ?_ ?_⟩
 .ext i ys ae H' hi ⟨rfl,rfl,_⟩;show⟨SqL.of hp,?_⟩;rw[qA,qA,qQ];show qV _ _
 .ext i y ys ae H' hy ⟨rfl,rfl,z,rfl⟩;let⟨c,ec,rfl⟩:=cC hy;let⟨u,eu,nl,hc,_⟩:=bN pr ec;show⟨_,O,c,_,_,_,O,O,SqT.of hc,O,O,?_,_,O⟩;rw[qS,eu,qD,qD];rfl
 ext ys ae H' ⟨rfl,rfl,_⟩ D hD;rw[qH (by rw[qA];omega)];have sD:=ao hD (.lst ((r.map Un.w).map V.int));show⟨D,_,O,SqL.of aj,?_⟩;generalize af H' D (.lst ((r.map Un.w).map V.int))=H1 at sD⊢;show⟨_,O,_,O,_,O,p,_,O,SqL.of (sD _ _ hp),λS hS=>?_⟩;have ec:fN (as.map V.ref) none (!-1)=(as.dropLast).map V.ref:=by
  unfold fN;rw[HT.sIx_none,show HT.sIx (as.map V.ref).length (as.map V.ref).length (!-1)=(as.map V.ref).length-1 from by
   show(if(-1:Int)<0 then((-1:Int)+(((as.map V.ref).length:Nat):Int)).toNat else min (-1:Int).toNat (as.map V.ref).length)=_;rw[if_pos {}];omega]
  rw[List.drop_zero,qA,Nat.sub_zero,<-uV,List.dropLast_eq_take]
 rw[ec];have sS:=ao hS (.lst (as.dropLast.map V.ref));have gJ:af H1 S (.lst (as.dropLast.map V.ref)) S=!.lst (as.dropLast.map V.ref):=aj;have s2:=sD.trans sS;generalize af H1 S (.lst (as.dropLast.map V.ref))=H2 at sS gJ s2⊢;show⟨S,O,⟨_,SqL.of gJ⟩,bw (xs:=as.dropLast.map V.ref) (λi ys ae H'=>H'=H2/\ys=((r.dropLast.take i).map Un.b).map V.int/\∃z,ae=[z]) (by rw[qA,List.length_dropLast];show aR ()) ⟨O,O,none,O⟩ ?_ ?_ ?_⟩
 .ext i ys ae H3 hi ⟨rfl,rfl,_⟩;show⟨SqL.of gJ,?_⟩;rw[qA,qA,qQ];show qV _ _
 .ext i y ys ae H3 hy ⟨rfl,rfl,z,rfl⟩;let⟨c,pE,rfl⟩:=cC hy;have il:i<as.length-1:=by
   have:=(qI.mp pE).1;rw[List.length_dropLast]at this;show this
  have ec2:as[i]?=!c:=by
   rw[List.dropLast_eq_take,List.getElem?_take_of_lt il]at pE;show pE
  let⟨u,eu,nl,hc,_⟩:=bN pr ec2;have eu2:r.dropLast[i]?=!u:=by rw[List.dropLast_eq_take,List.getElem?_take_of_lt ()];show eu
  show⟨_,O,c,_,_,_,O,O,SqT.of (s2 _ _ hc),O,O,?_,_,O⟩;rw[qS,eu2,qD,qD];rfl
 ext ys ae H3 ⟨rfl,rfl,_⟩ D2 jg;rw[qH (by rw[qA,List.length_dropLast,List.length_dropLast];omega)];show⟨D2,_,O,SqL.of aj,_,_,O,O,?_⟩;show q _ (s2.trans (ao jg _))
def xk{bs:TC}{m:Nat}(h:m<bs.length):bs[m]?=!aT bs m:=by
 unfold aT;rw[qB h];rfl
def qa6(F:Fun K "floor_of" "floor_of" Om f fd)(T:bP mg)(U:NumsB mg)(cg:⋯ 1 "look_at" ["looks", "node", "word"] fz):(~~~0) 2 f fd ["looks", "bounds", "one"] (jb cj):=by
 rcases F.go ["looks", "bounds", "one"] with⟨p,L,m,ls,bs,rfl,lk,⟨as,hL,pr⟩,ml,mb,cO,q⟩;let⟨_,B5⟩:=U.low;show⟨_,(ax (aG (cb (mW (by rfl)) T.max eQ (a2 (px aF (px aC (pv 1) (pv 2)) (gi B5)) (cF cg hr (a3 (pv 0) (pv 2) aO)))))),?_⟩;let⟨a,ea,ha⟩:=fY pr (xk mb);show⟨_,O,_,O,L,_,_,_,O,O,SqL.of hL,aU ea,a,_,_,_,O,O,SqT.of ha,O,_,O,_,O,p,m,5,_,ls,O,lk,ml,cO,{},BA,_,_,O,?_⟩;rw[xj];show q
def qa7(F:Fun K "roof_of" "roof_of" On f fd)(T:bP mg)(cg:⋯ 1 "look_at" ["looks", "node", "word"] fz)(oB:⋯ 2 "floor_of" ["looks", "bounds", "one"] (jb cj)):(~~~0) 3 f fd ["looks", "bounds", "one"] (jb fX):=by
 rcases F.go ["looks", "bounds", "one"] with⟨p,L,m,ls,bs,rfl,lk,lb,ml,mb,cO,q⟩;show⟨_,(ax (aG (cb (mW (by rfl)) T.max eQ (a2 (cF cg hr (a3 (pv 0) (pv 2) aO)) (cF oB hr (a3 (pv 0) (pv 1) (pv 2))))))),?_⟩;show⟨_,O,_,O,p,m,6,_,ls,O,lk,ml,cO,{},qa1,_,O,_,O,_,O,p,L,m,ls,bs,O,lk,lb,ml,mb,cO,_,_,O,?_⟩;rw[xj];show q
def qa8(F:Fun K "wish_of" "wish_of" Oo f fd)(T:bP mg)(U:NumsB mg)(oB:⋯ 2 "floor_of" ["looks", "bounds", "one"] (jb cj))(Gm:⋯ 3 "roof_of" ["looks", "bounds", "one"] (jb fX)):(~~~0) 4 f fd ["looks", "bounds", "one"] (jb lX):=by
 rcases F.go ["looks", "bounds", "one"] with⟨p,L,m,ls,bs,rfl,lk,⟨as,hL,pr⟩,ml,mb,cO,q⟩;let⟨_,B6⟩:=U.great;show⟨_,(ax (aG (cb (sq (by rfl)) T.min lW (a2 (cb (mW (by rfl)) T.max eQ (a2 (px aF (px aC (pv 1) (pv 2)) (gi B6)) (cF oB hr (a3 (pv 0) (pv 1) (pv 2))))) (cF Gm hr (a3 (pv 0) (pv 1) (pv 2))))))),?_⟩;let⟨a,ea,ha⟩:=fY pr (xk mb);show⟨_,O,_,O,L,_,_,_,O,O,SqL.of hL,aU ea,a,_,_,_,O,O,SqT.of ha,O,_,O,_,O,_,O,p,L,m,ls,bs,O,lk,⟨as,hL,pr⟩,ml,mb,cO,_,_,O,_,O,_,O,_,O,p,L,m,ls,bs,O,lk,⟨as,hL,pr⟩,ml,mb,cO,_,_,O,?_⟩;rw[xj,Gj];show q
def qa9(F:Fun K "rounded_up" "rounded_up" Gg f fd):(~~~0) 1 f fd ["length", "parts"] E9:=by
 rcases F.go ["length", "parts"] with⟨l,sp,rfl,s1,s6,q⟩;show⟨_,(ax (aG (dH dI (aH tz (dH dI (pv 0)) (pv 1))))),?_⟩;show⟨_,O,_,O,_,O,_,_,O,O,⟨(),()⟩,_,O,q⟩
theorem qba(F:Fun K "grid_width" "grid_width" Op f fd)(T:bP mg)(cg:⋯ 1 "look_at" ["looks", "node", "word"] fz)(Gn:⋯ 1 "rounded_up" ["length", "parts"] E9):(~~~0) 2 f fd ["looks", "columns", "held", "wides"] Fa:=by
 rcases F.go ["looks", "columns", "held", "wides", "needed"] with⟨p,a,b,c,ls,zs,rfl,lk,ha,hb,ne,jK,c1,c6,cE,zl,q⟩;have cO:∀l∈ls,l.length=13:=λl hl=>(cE l hl).len
 show⟨_,(ar (sm 4 ["one", "wide"] ["columns", "looks"] [1,0] (vj (by rfl) T.zip (a2 (pv 2) (pv 3))) (kj K (n:=2) (by rfl) (by rfl) (bv (nv 0) (bv (nv 1) dO))) bf (cF Gn hr (a2 (pv 1) (cb (sq (by rfl)) T.min lW (a2 (cF cg hr (a3 (pv 3) (pv 0) aO)) (pv 2))))))
  (ax (aG (aH fK (pv 1) (cb (pV (by rfl)) T.max eQ (a1 (pv 4))))))),?_⟩
 have lz:(zs.map λx=>V.int ((x.1:Nat):Int)).length=(zs.map λx=>V.int x.2).length:=by rw[qA,qA]
 show⟨_,O,_,O,a,b,O,⟨_,SqL.of ha⟩,⟨_,SqL.of hb⟩,Bf (xs:=zs.map λx=>V.int ((x.1:Nat):Int)) (ys:=zs.map λx=>V.int x.2) lz (λi ys ae H'=>Same H H'/\ys=((zs.take i).map λx=>iG x.2 (min (aB ls x.1 8) c)).map V.int/\∃z1 z2,ae=[z1,z2,!.int c,!.ref p]) (by rw[qA];show aR ()) ⟨Same.refl _,O,none,none,O⟩ ?_ ?_ ?_⟩
 .ext i ys ae H' hi ⟨s1,rfl,_⟩;show⟨SqL.of (s1 _ _ ha),SqL.of (s1 _ _ hb),?_⟩;rw[qA,qA,qQ];show qV _ _
 .ext i x y ys ae H' T' hx hy hT ⟨s1,rfl,z1,z2,rfl⟩;rw[qK]at hx hy;let⟨z,ez,rfl⟩:=Option.map_eq_some_iff.mp hx;rw[ez]at hy;obtain rfl:=(rD hy).symm;have zm:=zl z (qR ez);have s2:=s1.trans (ao hT (.tup [.int ((z.1:Nat):Int),.int z.2]));have eW:af H' T' (.tup [.int ((z.1:Nat):Int),.int z.2]) T'=!.tup [.int ((z.1:Nat):Int),.int z.2]:=aj;generalize af H' T' (.tup [.int ((z.1:Nat):Int),.int z.2])=H2 at s2 eW⊢;show⟨T',_,O,SqT.of eW,O,_,_,O,_,_,O,O,?_⟩;have ok:=cE _ (rL zm);have ev:aB ls z.1 8=ls[z.1].getD 8 0:=by
   unfold aB;rw[qB zm];rfl
  show⟨_,O,_,O,_,O,p,z.1,8,_,ls,O,cU s2 lk,zm,cO,{},Ot,_,O,_,_,O,z.2,min (aB ls z.1 8) c,by show[V.int z.2,V.int (if c<aB ls z.1 8 then c else aB ls z.1 8)]=_;rw[Gj],by have:=ok.span;omega,by have:=ok.span;omega,?_⟩;show⟨s2,?_,_,_,O⟩;rw[qS,ez,qD,qD];rfl
 .ext ys ae H' ⟨s1,rfl,z1,z2,rfl⟩ D hD;rw[qH (by rw[qA];show qF _)];show⟨_,O,_,O,D,_,cf (zs.map λx=>iG x.2 (min (aB ls x.1 8) c)),O,SqL.of aj,kF ‹ne›,oi,_,_,O,O,.inl ⟨(),()⟩,?_⟩;show q _ (s1.trans (ao hD _))
def qbb(F:Fun K "bounds_in_pile" "bounds_in_pile" Oq f fd)(U:NumsB mg)(cg:⋯ 1 "look_at" ["looks", "node", "word"] fz):(~~~0) 2 f fd ["book", "looks", "bounds", "one"] Fb:=by
 rcases F.go ["book", "looks", "bounds", "one"] with⟨B,p,L,m,ds,ls,bs,rfl,⟨B7,hB,nd⟩,lk,⟨as,hL,pr⟩,md,ml,mb,cO,q⟩;let⟨_,dM⟩:=U.kind;show⟨_,(ar (ba (tc bq (px aF (px aC (pv 0) (pv 3)) (gi dM)) aO) (ax (aG (br (a2 (cF cg hr (a3 (pv 1) (pv 3) aO)) (cF cg hr (a3 (pv 1) (pv 3) aO)))))) bj)
  (ax (aG (px aC (pv 2) (pv 3))))),?_⟩
 let⟨c,ec,nc⟩:=nd.get (qB md);let⟨m',s',hc,_⟩:=nc.ex;show⟨_,O,_,O,B,_,_,_,O,O,SqL.of hB,aU ec,c,_,_,_,O,O,SqT.of hc,O,O,_,O,?_⟩;rw[show decide (V.str ds[m].k.s=V.str (s!"aside"))=decide (ds[m].k=.aside)from bY ds[m].k .aside];have ek:ds[m]?.map Nd.k=!ds[m].k:=by rw[qB md];rfl
 by_cases hk:ds[m].k=.aside
 .rw[qJ hk];show aY ⟨_,O,_,O,p,m,11,_,ls,O,lk,ml,cO,{},Gi,_,O,_,O,p,m,11,_,ls,O,lk,ml,cO,{},Gi,aM,λt ht=>?_⟩;show q t _ (ao ht _) ?_;unfold cM;rw[ek,hk,if_pos O];show aj
 .rw[qP hk];let⟨a,ea,ha⟩:=fY pr (xk mb);show aW ⟨_,O,_,O,L,_,_,_,O,O,SqL.of hL,aU ea,?_⟩;show q a _ (Same.refl _) ?_;unfold cM;rw[ek,if_neg (λz=>hk (rD z))];show ha
abbrev Ou:=top 43
abbrev Ov:=top 42
def qbc{ls:TB}{bs:TC}{n:Nat}(h:ds[n]?=!d)(hk:d.k=.text\/d.k=.head\/d.k=.note):eR ds ls us bs n=(kE (cD us n)+2*aB ls n 3,jz (cD us n)+2*aB ls n 3):=by
 unfold eR ja;rw[h];rcases hk with e | e | e<;>simp only[e]<;>rfl
def qbd{ls:TB}{bs:TC}{n:Nat}(h:ds[n]?=!d)(hk:d.k=.picture):eR ds ls us bs n=(gF d,gF d):=by
 unfold eR;rw[h];simp only[hk,if_true]
def qbe{ls:TB}{bs:TC}{n:Nat}(h:ds[n]?=!d)(hk:d.k=.shelf):eR ds ls us bs n=(((ay ds n).map (cj ls bs)).sum+2*aB ls n 3,((ay ds n).map (lX ls bs)).sum+2*aB ls n 3):=by
 unfold eR ja;rw[h];simp only[hk];rfl
def qbf{ls:TB}{bs:TC}{n:Nat}(h:ds[n]?=!d)(hk:d.k=.grid):eR ds ls us bs n=(kD ls (aB ls n 7) ((ay ds n).map λm=>(m,(aT bs m).1))+2*aB ls n 3,kD ls (aB ls n 7) ((ay ds n).map λm=>(m,(aT bs m).2))+2*aB ls n 3):=by
 unfold eR ja;rw[h];simp only[hk];rfl
def qbg{ls:TB}{bs:TC}{n:Nat}(h:ds[n]?=!d)(h1:d.k≠.picture)(h2:¬(d.k=.text\/d.k=.head\/d.k=.note))(h3:d.k≠.shelf)(h4:d.k≠.grid) :
  eR ds ls us bs n=(cf ((ay ds n).map λm=>(cM ds ls bs m).1)+2*aB ls n 3,cf ((ay ds n).map λm=>(cM ds ls bs m).2)+2*aB ls n 3):=by
 unfold eR ja;rw[h];cases e:d.k<;>simp_all
def xn{n i:Nat}(h:(((ay ds n).map λ(j:Nat)=>(j:Int)).map V.int)[i]?=!x):∃m,(ay ds n)[i]?=!m/\x=.int (m:Nat):=by
 rw[qK,qK]at h;cases e:(ay ds n)[i]? with
 | none=>rw[e]at h;cases h
 | some m=>rw[e]at h;show⟨m,O,(rD h).symm⟩
theorem qbh(F:Fun K "node_bounds" "node_bounds" Ou f fd)(T:bP mg)(U:NumsB mg)(kH:mg "KINDS_OF_PIECES" = !.ref gH)(KP:∀H:Hp,SqT K H gH (pieceKinds.map V.str))(cg:⋯ 1 "look_at" ["looks", "node", "word"] fz)(B8:⋯ 2 "with_insets" ["looks", "node", "low", "great"] E8)(qbi:⋯ 1 "units_low" ["units"] Fz)(Go:⋯ 1 "row_length" ["units"] Bz)(jd:⋯ 1 "holds" ["book", "node"] l7)(oB:⋯ 2 "floor_of" ["looks", "bounds", "one"] (jb cj))(qbj:⋯ 4 "wish_of" ["looks", "bounds", "one"] (jb lX))(Ow:⋯ 2 "grid_width" ["looks", "columns", "held", "wides"] Fa)(qbk:⋯ 2 "bounds_in_pile" ["book", "looks", "bounds", "one"] Fb) :
  (~~~0) 5 f fd ["book", "looks", "units", "bounds", "node"] FB:=by
 rcases F.go ["book", "looks", "units", "bounds", "node", "kind", "held", "low", "columns", "inner"] with⟨B,p,Un,L,n,ds,ls,us,bs,rfl,I,lb,xo,hn,cx,q⟩;let⟨_,dM⟩:=U.kind;let⟨_,mh⟩:=U.stuff;let⟨_,B5⟩:=U.low;let⟨_,B6⟩:=U.great;have cO:∀l∈ls,l.length=13:=λl hl=>(cx.lk l hl).len
 have nl:n<ls.length:=by rw[cx.ll];show hn
 have le:=cx.le;show⟨_,(ar (sv 5 (px aF (px aC (pv 0) (pv 4)) (gi dM)))
  (ar (ba (tc bq (pv 5) aO) (ax (aG (br (a2 (px aC (px aF (px aC (pv 0) (pv 4)) (gi mh)) aw) (px aC (px aF (px aC (pv 0) (pv 4)) (gi mh)) aw))))) bj)
  (ar (ba (tc Du (pv 5) (gr kH)) (ax (aG (cF B8 hr (aI (pv 1) (a3 (pv 4) (cF qbi hr (a1 (px aC (pv 2) (pv 4)))) (cF Go hr (a1 (px aC (pv 2) (pv 4))))))))) bj)
  (ar (sv 6 (cF jd hr (a2 (pv 0) (pv 4))))
  (ar (ba (tc bq (pv 5) aO) (ar (sv 7 (cb (i7 (by rfl)) T.sum fW (a1 (cm ["one"] ["looks", "bounds"] [1,3] (a9 (pv 6)) (nv 0) bf (cF oB hr (a3 (pv 1) (pv 2) (pv 0)))))))
  (ax (aG (cF B8 hr (aI (pv 1) (a3 (pv 4) (pv 7) (cb (i7 (by rfl)) T.sum fW (a1 (cm ["one"] ["looks", "bounds"] [1,3] (a9 (pv 6)) (nv 0) bf (cF qbj hr (a3 (pv 1) (pv 2) (pv 0)))))))))))) bj)
  (ar (ba (tc bq (pv 5) aO) (ar (sv 8 (cF cg hr (a3 (pv 1) (pv 4) aO)))
  (ar (sv 7 (cF Ow hr (aI (pv 1) (a3 (pv 8) (pv 6) (cm ["one"] ["bounds"] [3] (a9 (pv 6)) (nv 0) bf (px (r:=b8 K) aF (px (r:=cz K) aC (pv 1) (pv 0)) (gi B5)))))))
  (ax (aG (cF B8 hr (aI (pv 1) (a3 (pv 4) (pv 7) (cF Ow hr (aI (pv 1) (a3 (pv 8) (pv 6) (cm ["one"] ["bounds"] [3] (a9 (pv 6)) (nv 0) bf (px (r:=b8 K) aF (px (r:=cz K) aC (pv 1) (pv 0)) (gi B6))))))))))))) bj)
  (ar (sm 9 ["one"] ["book", "looks", "bounds"] [0,1,3] (a9 (pv 6)) (nv 0) bf (cF qbk hr (aI (pv 1) (a3 (pv 2) (pv 3) (pv 0)))))
  (ar (sv 7 (xi true (by rfl) (by rfl) T.max eQ (a1 (cm ["one"] [] [] (a9 (pv 9)) (nv 0) bf (px (r:=b8 K) aF (pv 0) (gi B5)))) aw))
  (ax (aG (cF B8 hr (aI (pv 1) (a3 (pv 4) (pv 7) (xi true (by rfl) (by rfl) T.max eQ (a1 (cm ["one"] [] [] (a9 (pv 9)) (nv 0) bf (px (r:=b8 K) aF (pv 0) (gi B6)))) aw)))))))))))))),?_⟩
 let⟨ab,hB,nd⟩:=I.bk;have ed:ds[n]?=!ds[n]:=qB hn;let⟨c,ec,nc⟩:=nd.get ed;let⟨m',s',hc,_,_,_,jE,fS,cQ⟩:=nc.ex;generalize ds[n]=d at ed hc cQ nc;show⟨_,O,_,O,B,_,_,_,O,O,SqL.of hB,aU ec,c,_,_,_,O,O,SqT.of hc,O,?_⟩;show⟨_,O,O,_,O,?_⟩;rw[show decide (V.str d.k.s=V.str (s!"picture"))=decide (d.k=.picture)from bY d.k .picture]
 by_cases hp:d.k=.picture
 .rw[qJ hp];let⟨w1,h1,iI,_⟩:=cx.pic n d ed hp;have mE:jE[0]?=!.int w1:=by
   rw[iI]at cQ;cases cQ with
   | cons q1 _=>rw[show _=V.int w1 from q1];rfl
  show aY ⟨_,O,_,O,B,_,_,_,O,O,SqL.of hB,aU ec,c,_,_,_,O,O,SqT.of hc,O,s',_,_,_,O,O,SqL.of fS,eG (j:=0) mE,_,O,_,O,B,_,_,_,O,O,SqL.of hB,aU ec,c,_,_,_,O,O,SqT.of hc,O,s',_,_,_,O,O,SqL.of fS,eG (j:=0) mE,aM,λt ht=>?_⟩;show q t _ (ao ht _) ?_;rw[qbd ed hp];unfold gF PrAt;rw[iI,aj]
 rw[qP hp];show aW ?_;show⟨_,O,gH,_,O,.inr (KP _),O,ua _,_,O,?_⟩;rw[if_neg qZ,vy]
 by_cases ht:d.k=.text\/d.k=.head\/d.k=.note
 .rw[qJ ht];have nu:n<us.length:=by rw[cx.ul];show hn
  let⟨au,hU,pu⟩:=I.un;let⟨r,er,rr⟩:=fY pu (qB nu);have eu:cD us n=us[n]:=by unfold cD;rw[qB nu];rfl
  have gb:=cx.un n d ed ht;rw[eu]at gb;have ul:=(cx.pos _ (rL nu)).1;show aY ⟨_,O,_,O,_,O,_,O,Un,_,_,_,O,O,SqL.of hU,aU er,r,us[n],O,rr,gb,ul,λH1 s1=>?_⟩;show⟨_,O,_,O,Un,_,_,_,O,O,SqL.of (s1 _ _ hU),aU er,r,us[n],O,rr.same s1,gb,ul,λH2 s2=>?_⟩;show⟨p,n,_,_,ls,O,cU (s1.trans s2) I.lk,nl,cO,λt H3 s3 pt=>?_⟩;show q t H3 ((s1.trans s2).trans s3) ?_;rw[qbc ed ht,eu];show pt
 rw[qP ht];show aW ?_;show⟨_,O,_,O,B,n,ds,_,O,⟨ab,hB,nd⟩,(),hn,λK0 H1 hK s1 bM=>?_⟩;have kl:=lZ ds n;have kz:(((ay ds n).map λ(j:Nat)=>(j:Int)).map V.int).length<sizeLine:=by rw[qA,qA];show aR ()
 have xp:∀{i m:Nat},(ay ds n)[i]?=!m->m<ds.length:=λe=>dC (qR e)
 dsimp only[a7];show⟨_,O,O,_,O,?_⟩;rw[show decide (V.str d.k.s=V.str (s!"shelf"))=decide (d.k=.shelf)from bY d.k .shelf]
 by_cases hs:d.k=.shelf
 .rw[qJ hs];show aY ⟨_,O,K0,O,⟨_,SqL.of bM⟩,bw (xs:=((ay ds n).map λ(j:Nat)=>(j:Int)).map V.int) (λi ys ae H'=>H'=H1/\ys=(((ay ds n).take i).map (cj ls bs)).map V.int/\∃z,ae=[z,!.ref p,!.ref L]) kz ⟨O,O,none,O⟩ ?_ ?_ ?_⟩
  .ext i ys ae H' hi ⟨rfl,rfl,_⟩;show⟨SqL.of bM,?_⟩;rw[qA,qA,qQ];show qV _ _
  .ext i y ys ae H' hy ⟨rfl,rfl,z,rfl⟩;let⟨m,em,rfl⟩:=xn hy;have gd:=xp em;show⟨_,O,_,O,_,O,p,L,m,ls,bs,O,cU s1 I.lk,fZ s1 lb,by rw[cx.ll];show gd,by rw[xo];show gd,cO,O,?_,_,O⟩;rw[qS,em,qD,qD];rfl
  ext ys ae H' ⟨rfl,rfl,_⟩ D hD;rw[qH (by rw[qA,qA];show qF _)];have sD:=s1.trans (ao hD (.lst (((ay ds n).map (cj ls bs)).map V.int)));have eK:=(ao hD (.lst (((ay ds n).map (cj ls bs)).map V.int))) _ _ bM;show⟨D,_,O,SqL.of aj,?_⟩;generalize af H' D (.lst (((ay ds n).map (cj ls bs)).map V.int))=H2 at sD eK⊢;show⟨_,O,_,O,_,O,_,O,K0,O,⟨_,SqL.of eK⟩,bw (xs:=((ay ds n).map λ(j:Nat)=>(j:Int)).map V.int) (λi ys ae H'=>H'=H2/\ys=(((ay ds n).take i).map (lX ls bs)).map V.int/\∃z,ae=[z,!.ref p,!.ref L]) kz ⟨O,O,none,O⟩ ?_ ?_ ?_⟩
  .ext i ys ae H' hi ⟨rfl,rfl,_⟩;show⟨SqL.of eK,?_⟩;rw[qA,qA,qQ];show qV _ _
  .ext i y ys ae H' hy ⟨rfl,rfl,z,rfl⟩;let⟨m,em,rfl⟩:=xn hy;have gd:=xp em;show⟨_,O,_,O,_,O,p,L,m,ls,bs,O,cU sD I.lk,fZ sD lb,by rw[cx.ll];show gd,by rw[xo];show gd,cO,O,?_,_,O⟩;rw[qS,em,qD,qD];rfl
  ext ys ae H' ⟨rfl,rfl,_⟩ D2 jg;rw[qH (by rw[qA,qA];show qF _)];have Ox:=sD.trans (ao jg (.lst (((ay ds n).map (lX ls bs)).map V.int)));show⟨D2,_,O,SqL.of aj,p,n,_,_,ls,O,cU Ox I.lk,nl,cO,λt H3 s3 pt=>?_⟩;show q t H3 (Ox.trans s3) ?_;rw[qbe ed hs];show pt
 rw[qP hs];show aW ?_;show⟨_,O,O,_,O,?_⟩;rw[show decide (V.str d.k.s=V.str (s!"grid"))=decide (d.k=.grid)from bY d.k .grid]
 by_cases hg:d.k=.grid
 .rw[qJ hg];have kO:=cx.gr n d ed hg;have kP:=(cx.lk _ (rL nl)).cols;have ecol:aB ls n 7=ls[n].getD 7 0:=by unfold aB;rw[qB nl];rfl
  show aY ⟨_,O,_,O,p,n,7,_,ls,O,cU s1 I.lk,nl,cO,{},Gh,?_⟩;have part:∀(g:Int×Int->Int) (H2:Hp),Same H1 H2->∀(i:Nat) (m:Nat),(ay ds n)[i]?=!m->(((ay ds n).take (i+1)).map λm=>g (aT bs m)).map V.int=(((ay ds n).take i).map λm=>g (aT bs m)).map V.int++[V.int (g (aT bs m))]:=λg H2 _ i m em=>by
   rw[qS,em,qD,qD];rfl
  show⟨_,O,_,O,_,O,_,O,K0,O,⟨_,SqL.of bM⟩,bw (xs:=((ay ds n).map λ(j:Nat)=>(j:Int)).map V.int) (λi ys ae H'=>H'=H1/\ys=(((ay ds n).take i).map λm=>(aT bs m).1).map V.int/\∃z,ae=[z,!.ref L]) kz ⟨O,O,none,O⟩ ?_ ?_ ?_⟩
  .ext i ys ae H' hi ⟨rfl,rfl,_⟩;show⟨SqL.of bM,?_⟩;rw[qA,qA,qQ];show qV _ _
  .ext i y ys ae H' hy ⟨rfl,rfl,z,rfl⟩;let⟨m,em,rfl⟩:=xn hy;have gd:=xp em;let⟨al,hL,pl⟩:=fZ s1 lb;let⟨a,ea,ha⟩:=fY pl (xk (m:=m) (by rw[xo];show gd));show⟨_,O,_,O,L,_,_,_,O,O,SqL.of hL,aU ea,a,_,_,_,O,O,SqT.of ha,O,O,(part Prod.fst H' (Same.refl _) i m em).symm ▸ rfl,_,O⟩
  ext ys ae H' ⟨rfl,rfl,_⟩ D hD;rw[qH (by rw[qA,qA];show qF _)];have sD:=s1.trans (ao hD (.lst (((ay ds n).map λm=>(aT bs m).1).map V.int)));have eK:=(ao hD (.lst (((ay ds n).map λm=>(aT bs m).1).map V.int))) _ _ bM;have dE:af H' D (.lst (((ay ds n).map λm=>(aT bs m).1).map V.int)) D=!.lst (((ay ds n).map λm=>(aT bs m).1).map V.int):=aj;generalize af H' D (.lst (((ay ds n).map λm=>(aT bs m).1).map V.int))=H2 at sD eK dE⊢;have zk:∀(g:Int×Int->Int),(((ay ds n).map λm=>(m,g (aT bs m))).map λx=>V.int ((x.1:Nat):Int))=((ay ds n).map λ(j:Nat)=>(j:Int)).map V.int:=λg=>by rw[xH,xH];rfl
  have zv:∀(g:Int×Int->Int),(((ay ds n).map λm=>(m,g (aT bs m))).map λx=>V.int x.2)=((ay ds n).map λm=>g (aT bs m)).map V.int:=λg=>by rw[xH,xH];rfl
  have zl:∀(g:Int×Int->Int),∀x∈(ay ds n).map λm=>(m,g (aT bs m)),x.1<ls.length:=λg x hx=>by
   let⟨m,hm,rfl⟩:=qW.mp hx;rw[cx.ll];show dC hm
  show⟨p,K0,D,aB ls n 7,ls,(ay ds n).map λm=>(m,(aT bs m).1),O,cU sD I.lk,by rw[zk Prod.fst];show eK,by rw[zv Prod.fst];show dE,‹kO›,by rw[List.length_map];omega,(),(),cx.lk,zl Prod.fst,λH3 s3=>?_⟩;have B9:=sD.trans s3;have Gp:=s3 _ _ eK;show⟨_,O,_,O,_,O,_,O,_,O,_,O,_,O,K0,O,⟨_,SqL.of Gp⟩,bw (xs:=((ay ds n).map λ(j:Nat)=>(j:Int)).map V.int) (λi ys ae H'=>H'=H3/\ys=(((ay ds n).take i).map λm=>(aT bs m).2).map V.int/\∃z,ae=[z,!.ref L]) kz ⟨O,O,none,O⟩ ?_ ?_ ?_⟩
  .ext i ys ae H' hi ⟨rfl,rfl,_⟩;show⟨SqL.of Gp,?_⟩;rw[qA,qA,qQ];show qV _ _
  .ext i y ys ae H' hy ⟨rfl,rfl,z,rfl⟩;let⟨m,em,rfl⟩:=xn hy;have gd:=xp em;let⟨al,hL,pl⟩:=fZ B9 lb;let⟨a,ea,ha⟩:=fY pl (xk (m:=m) (by rw[xo];show gd));show⟨_,O,_,O,L,_,_,_,O,O,SqL.of hL,aU ea,a,_,_,_,O,O,SqT.of ha,O,O,(part Prod.snd _ (Same.refl _) i m em).symm ▸ rfl,_,O⟩
  ext ys ae H' ⟨rfl,rfl,_⟩ D2 jg;rw[qH (by rw[qA,qA];show qF _)];have sE:=B9.trans (ao jg (.lst (((ay ds n).map λm=>(aT bs m).2).map V.int)));have Oy:=(ao jg (.lst (((ay ds n).map λm=>(aT bs m).2).map V.int))) _ _ Gp;have jL:af H' D2 (.lst (((ay ds n).map λm=>(aT bs m).2).map V.int)) D2=!.lst (((ay ds n).map λm=>(aT bs m).2).map V.int):=aj;generalize af H' D2 (.lst (((ay ds n).map λm=>(aT bs m).2).map V.int))=H4 at sE Oy jL⊢;show⟨p,K0,D2,aB ls n 7,ls,(ay ds n).map λm=>(m,(aT bs m).2),O,cU sE I.lk,by rw[zk Prod.snd];show Oy,by rw[zv Prod.snd];show jL,‹kO›,by rw[List.length_map];omega,(),(),cx.lk,zl Prod.snd,λH5 s5=>?_⟩;show⟨p,n,_,_,ls,O,cU (sE.trans s5) I.lk,nl,cO,λt H6 s6 pt=>?_⟩;show q t H6 ((sE.trans s5).trans s6) ?_;rw[qbf ed hg];show pt
 rw[qP hg];show aW ?_;show⟨_,O,K0,O,⟨_,SqL.of bM⟩,bw (xs:=((ay ds n).map λ(j:Nat)=>(j:Int)).map V.int) (λi ys ae H'=>Same H1 H'/\(∃as,ys=as.map V.ref/\Paired (PrAt H') as (((ay ds n).take i).map (cM ds ls bs)))/\∃z,ae=[z,!.ref B,!.ref p,!.ref L]) kz ⟨Same.refl _,⟨[],O,.nil⟩,none,O⟩ ?_ ?_ ?_⟩
 .ext i ys ae H' hi ⟨s2,⟨as,rfl,pa⟩,_⟩;show⟨SqL.of (s2 _ _ bM),?_⟩;rw[qA,qN pa,qA,qQ];show qV _ _
 .ext i y ys ae H' hy ⟨s2,⟨as,rfl,pa⟩,z,rfl⟩;let⟨m,em,rfl⟩:=xn hy;have gd:=xp em;have jM:=s1.trans s2;show⟨_,O,_,O,_,O,_,O,B,p,L,m,ds,ls,bs,O,(I.same jM).bk,cU jM I.lk,fZ jM lb,gd,by rw[cx.ll];show gd,by rw[xo];show gd,cO,λt H3 s3 pt=>?_⟩;show⟨s2.trans s3,⟨as++[t],by rw[qD];rfl,?_⟩,_,O⟩;rw[qS,em,qD];show(pa.mono λ_ _ h=>PrAt.same s3 h).snoc pt
 ext ys ae H2 ⟨s2,⟨as,rfl,pa⟩,_⟩ I0 hI0;rw[qH (by rw[qA,qA];show qF _)]at pa;have lpa:=qN pa;rw[qA]at lpa;have sI:=ao hI0 (.lst (as.map V.ref));have xq:af H2 I0 (.lst (as.map V.ref)) I0=!.lst (as.map V.ref):=aj;have Oz:Paired (PrAt (af H2 I0 (.lst (as.map V.ref)))) as ((ay ds n).map (cM ds ls bs)):=pa.mono λ_ _ h=>PrAt.same sI h
 have s3:=(s1.trans s2).trans sI;generalize af H2 I0 (.lst (as.map V.ref))=H3 at sI xq Oz s3⊢;have az:(as.map V.ref).length<sizeLine:=by rw[qA];show aR ()
 have one:∀(H4:Hp),Same H3 H4->∀{i:Nat} {y:V},(as.map V.ref)[i]?=!y->∃(a:Addr) (m:Nat),y=.ref a/\(ay ds n)[i]?=!m/\PrAt H4 a (cM ds ls bs m):=λH4 s4 i y hy=>by
  let⟨a,ea,rfl⟩:=cC hy;let⟨b,eb,hb⟩:=bN Oz ea;rw[qK]at eb;let⟨m,em,rfl⟩:=Option.map_eq_some_iff.mp eb;show⟨a,m,O,em,hb.same s4⟩
 have m0:∀(g:Int×Int->Int),((ay ds n).map λm=>g (cM ds ls bs m))=[]->V.int 0=V.int (cf ((ay ds n).map λm=>g (cM ds ls bs m))):=λg e=>by rw[e];rfl
 show⟨_,O,I0,O,⟨_,SqL.of xq⟩,bw (xs:=as.map V.ref) (λi ys ae H'=>H'=H3/\ys=(((ay ds n).take i).map λm=>(cM ds ls bs m).1).map V.int/\∃z,ae=[z]) az ⟨O,O,none,O⟩ ?_ ?_ ?_⟩
 .ext i ys ae H' hi ⟨rfl,rfl,_⟩;show⟨SqL.of xq,?_⟩;rw[qA,qA,qQ];show qV _ _
 .ext i y ys ae H' hy ⟨rfl,rfl,z,rfl⟩;let⟨a,m,rfl,em,ha⟩:=one _ (Same.refl _) hy;show⟨_,O,a,_,_,_,O,O,SqT.of ha,O,O,?_,_,O⟩;rw[qS,em,qD,qD];rfl
 ext ys ae H' ⟨rfl,rfl,_⟩ D hD;rw[qH (by rw[qA];omega)];have sD:=ao hD (.lst (((ay ds n).map λm=>(cM ds ls bs m).1).map V.int));show⟨D,_,.int (cf ((ay ds n).map λm=>(cM ds ls bs m).1)),O,SqL.of aj,m0 Prod.fst,λz=>⟨_,kF z,O,oi⟩,?_⟩;generalize af H' D (.lst (((ay ds n).map λm=>(cM ds ls bs m).1).map V.int))=H4 at sD⊢;show⟨_,O,_,O,_,O,_,O,I0,O,⟨_,SqL.of (sD _ _ xq)⟩,bw (xs:=as.map V.ref) (λi ys ae H'=>H'=H4/\ys=(((ay ds n).take i).map λm=>(cM ds ls bs m).2).map V.int/\∃z,ae=[z]) az ⟨O,O,none,O⟩ ?_ ?_ ?_⟩
 .ext i ys ae H5 hi ⟨rfl,rfl,_⟩;show⟨SqL.of (sD _ _ xq),?_⟩;rw[qA,qA,qQ];show qV _ _
 .ext i y ys ae H5 hy ⟨rfl,rfl,z,rfl⟩;let⟨a,m,rfl,em,ha⟩:=one _ sD hy;show⟨_,O,a,_,_,_,O,O,SqT.of ha,O,O,?_,_,O⟩;rw[qS,em,qD,qD];rfl
 ext ys ae H5 ⟨rfl,rfl,_⟩ D2 jg;rw[qH (by rw[qA];omega)];have sE:=(s3.trans sD).trans (ao jg (.lst (((ay ds n).map λm=>(cM ds ls bs m).2).map V.int)));show⟨D2,_,.int (cf ((ay ds n).map λm=>(cM ds ls bs m).2)),O,SqL.of aj,m0 Prod.snd,λz=>⟨_,kF z,O,oi⟩,p,n,_,_,ls,O,cU sE I.lk,nl,cO,λt H6 s6 pt=>?_⟩;show q t H6 (sE.trans s6) ?_;rw[qbg ed hp ht hs hg];show pt
def qbl(F:Fun K "all_bounds" "all_bounds" Ov f fd)(T:bP mg)(qbm:⋯ 5 "node_bounds" ["book", "looks", "units", "bounds", "node"] FB):(~~~0) 6 f fd ["book", "looks", "units"] spAll:=by
 rcases F.go ["book", "looks", "units", "bounds", "node"] with⟨B,p,U,ds,ls,us,rfl,I,cx,q⟩;have le:=cx.le;show⟨_,(ar (sm 3 ["node"] [] [] (a9 (pv 0)) (nv 0) bf (br (a2 aw aw)))
  (ar (fv (E3 (by rfl) T.range (a3 (aH dQ (ln T.len (pv 0)) aw) (dH dI aw) (dH dI aw))) (nv 4)
  (ax (oY (cF qbm hr (aI (pv 0) (aI (pv 1) (a3 (pv 2) (pv 3) (pv 4))))) (rq (pv 3) (pv 4) pA))))
  (ax (aG (pv 3))))),?_⟩
 let⟨ab,hB,nd⟩:=I.bk;have dY:ab.length=ds.length:=nd.length;show⟨_,O,B,O,⟨_,SqL.of hB⟩,bw (xs:=ab.map V.ref) (λi ys ae H'=>Same H H'/\(∃as,ys=as.map V.ref/\Paired (PrAt H') as (List.replicate i (0,0)))/\∃z,ae=[z]) (by rw[qA];show aR ()) ⟨Same.refl _,⟨[],O,.nil⟩,none,O⟩ ?_ ?_ ?_⟩
 .ext i ys ae H' hi ⟨s1,⟨as,rfl,pa⟩,_⟩;show⟨SqL.of (s1 _ _ hB),?_⟩;rw[qA,qN pa,rY];show qF _
 .ext i y ys ae H' hy ⟨s1,⟨as,rfl,pa⟩,z,rfl⟩;show⟨aM,λt ht=>?_⟩;have s2:=ao ht (.tup [.int 0,.int 0]);show⟨s1.trans s2,⟨as++[t],by rw[qD];rfl,?_⟩,_,O⟩;rw[List.replicate_succ'];show(pa.mono λ_ _ h=>PrAt.same s2 h).snoc aj
 ext ys ae H1 ⟨s1,⟨as,rfl,pa⟩,_⟩ L mF;rw[qA,dY]at pa;have sL:=ao mF (.lst (as.map V.ref));have bg:af H1 L (.lst (as.map V.ref)) L=!.lst (as.map V.ref):=aj;have OA:Paired (PrAt (af H1 L (.lst (as.map V.ref)))) as (List.replicate ds.length (0,0)):=pa.mono λ_ _ h=>PrAt.same sL h
 have s2:=s1.trans sL;have hL:H L=none:=s1.free mF;generalize af H1 L (.lst (as.map V.ref))=H2 at sL bg OA s2⊢;have qbn:∀{H':Hp} {o:HO} {ys:List V},H' L=!.lst ys->∀a x,PrAt H' a x->PrAt (af H' L o) a x:=λh a x hx=>by
  unfold PrAt;rw[aE (λz=>by unfold PrAt at hx;rw[z,h]at hx;cases hx)];show hx
 show⟨_,O,B,_,O,.inl (SqL.of (s2 _ _ hB)),_,_,O,O,_,O,_,O,_,_,O,⟨(),by rw[qA,dY];omega,{},{}⟩,E5 (λk σ H'=>Same H H'/\(∃z,σ=[!.ref B,!.ref p,!.ref U,!.ref L,z])/\LstAt PrAt H' L (dU ds ls us k)) ⟨s2,⟨none,O⟩,as,bg,OA⟩ ?_ ?_⟩
 .ext k σ H' hk ⟨s3,⟨z,rfl⟩,al,bI,pl⟩;have gx:k<ds.length:=by rw[qA,dY]at hk;omega
  have en:(((ab.map V.ref).length:Nat):Int)-1-(k:Int)=((ds.length-1-k:Nat):Int):=by rw[qA,dY];omega
  show a7 4 (V.int ((((ab.map V.ref).length:Nat):Int)-1-(k:Int))) _ _ _;rw[en];have lal:al.length=ds.length:=by rw[qN pl,pY]
  show⟨_,O,_,O,_,O,_,O,_,O,B,p,U,L,ds.length-1-k,ds,ls,us,dU ds ls us k,O,I.same s3,⟨al,bI,pl⟩,pY k,(),cx,λt H4 s4 pt=>?_⟩;have cr:=s4 _ _ bI;have lx:(al.map V.ref).length=ds.length:=by rw[qA,lal]
  show⟨_,O,_,O,L,_,_,ds.length-1-k,O,O,cr,?_,?_⟩
  .unfold fO;rw[lx];simp;omega
  show⟨hG (s3.trans s4) hL,⟨_,O⟩,al.set (ds.length-1-k) t,by rw[aj,List.map_set],?_⟩;rw[dU];show(Paired.set (F:=PrAt H4) (pl.mono λ_ _ h=>PrAt.same s4 h) pt _).mono (qbn cr)
 .ext σ H' ⟨s3,⟨z,rfl⟩,lb⟩;have ek:((((ab.map V.ref).length:Nat):Int)-1-(-1)).toNat=ds.length:=by rw[qA,dY];omega
  rw[ek]at lb;show⟨_,O,q L H' hL s3 lb⟩
end K32
namespace K32
open L2 Bk Gen Gd
abbrev OB:=top 78
abbrev OC:=top 77
abbrev OD:=top 76
theorem qbo(F:Fun K "spots_of" "spots_of" OB f fd)(T:lV mg)(U:A0 mg):(~~~0) 1 f fd ["place"] AZ:=by
 rcases F.go ["place", "spots", "row"] with⟨t,p,rfl,ht,d4,s6,r0,c0,q⟩;let⟨_,mG⟩:=U.row;let⟨_,qi⟩:=U.column;let⟨_,Gq⟩:=U.span;let⟨_,Gr⟩:=U.deep;show⟨_,(ar (sv 1 (a0 bH))
  (ar (fv (Ak (by rfl) T.range (a2 (px aF (pv 0) (gi mG)) (aH bc (px aF (pv 0) (gi mG)) (px aF (pv 0) (gi Gr))))) (nv 2)
  (ax (bX (jr xN vB vD J7 (pv 1) (a1 (cm ["column"] ["row"] [2] (Ak (by rfl) T.range (a2 (px aF (pv 0) (gi qi)) (aH bc (px aF (pv 0) (gi qi)) (px aF (pv 0) (gi Gq))))) (nv 0) bf (br (a2 (pv 1) (pv 0)))))))))
  (ax (aG (pv 1))))),?_⟩
 show⟨aM,λL hL=>?_⟩;have s1:=ao hL (.lst []);have t1:=s1 _ _ ht;show⟨_,O,t,_,_,_,O,O,SqT.of t1,O,_,O,t,_,_,_,O,O,SqT.of t1,O,_,O,t,_,_,_,O,O,SqT.of t1,O,_,_,O,O,_,_,O,⟨(),(),(),()⟩,gg (λi σ H'=>Same H H'/\(∃z,σ=[!.ref t,!.ref L,z])/\LstAt TupAt H' L (jy p i)) ⟨s1,⟨none,O⟩,[],aj,.nil⟩ ?_ ?_⟩
 .ext i σ H' hi ⟨s2,⟨z,rfl⟩,as,cu,pr⟩;have ci:i<p.d:=()
  have t2:=s2 _ _ ht;have l1:=qN pr;have l3:=EN (p:=p) (n:=i) () s6;show⟨_,O,.inl ⟨O,_,SqL.of cu⟩,_,O,t,_,_,_,O,O,SqT.of t2,O,_,O,t,_,_,_,O,O,SqT.of t2,O,_,O,t,_,_,_,O,O,SqT.of t2,O,_,_,O,O,_,_,O,⟨(),(),(),()⟩,kg (λj ys ae H3=>Same H' H3/\(∃z,ae=[z,!.int ((p.r:Int)+i)])/\∃bs,ys=bs.map V.ref/\Paired (TupAt H3) bs ((lT p i).take j)) (aR ()) ⟨Same.refl _,⟨none,O⟩,[],O,.nil⟩ ?_ ?_ ?_⟩
  .ext j ys ae H3 hj ⟨s3,_,bs,rfl,fE⟩;rw[qA,qN fE,qQ];show qV _ _
  .ext j ys ae H3 hj ⟨s3,⟨z,rfl⟩,bs,rfl,fE⟩;have OE:j<p.s:=()
   show⟨_,O,_,O,aM,λt' xr=>?_⟩;have s4:=ao xr (.tup [.int ((p.r:Int)+i),.int ((p.c:Int)+j)]);show⟨s3.trans s4,⟨_,O⟩,bs++[t'],by rw[qD];rfl,?_⟩;have e:(lT p i)[j]?=!(p.r+i,p.c+j):=by simp[lT,OE]
   rw[qS,e];show(lU (.of s4) fE).snoc aj
  .ext ys ae H3 ⟨s3,⟨z,rfl⟩,bs,rfl,fE⟩ D hD;rw[qH (by rw[EM];omega)]at fE;have l2:=qN fE;rw[EM]at l2;have s4:=ao hD (.lst (bs.map V.ref));have bI:=s4 _ _ (s3 _ _ cu);show⟨L,D,_,_,O,O,bI,aj,by rw[qA,qA];show xA (aR ()),?_⟩;have tt:=Tups.lst (o:=.lst (as.map V.ref++bs.map V.ref)) bI;show⟨hG ((s2.trans s3).trans s4) hL,⟨_,O⟩,as++bs,by rw[aj,qD],?_⟩;rw[Mo];show pO (lU ((Tups.of (s3.trans s4)).trans tt) pr) (lU ((Tups.of s4).trans tt) fE)
 .ext σ H' ⟨s2,⟨z,rfl⟩,la⟩;have en:((p.r:Int)+p.d-p.r).toNat=p.d:=()
  rw[en]at la;show⟨_,O,q L H' hL s2 la⟩
theorem qbp(F:Fun K "first_place" "first_place" OC f fd)(T:lV mg)(Gu:⋯ 1 "spots_of" ["place"] AZ):(~~~0) 2 f fd ["columns", "taken", "span", "deep"] EQ:=by
 rcases F.go ["columns", "taken", "span", "deep", "row", "column", "place"] with⟨tk,cols,sp,d,n,ps,rfl,⟨ah,An,pQ,hv⟩,ok,pl,s1,s2,c6,d1,d4,q⟩;have iE:=DE hr;show⟨_,(ar (sv 4 aw)
  (ax (Ai uO (lB oT) (ar (fv (r1 T.range (aH bc (aH dQ (pv 0) (pv 2)) aw)) (nv 5)
  (ar (sv 6 (br (aI (pv 4) (a3 (pv 5) (pv 2) (pv 3)))))
  (ax (ba (rh (lB (cb (X6 (by rfl)) T.any X8 (a1 (cm ["spot"] ["taken"] [1] (a9 (cF Gu hr (a1 (pv 6)))) (nv 0) bf (SC (Mm iE (pv 0) (pv 1)))))))) (ax (aG (pv 6))) bj))))
  (ax (av 4 aw Dd)))))),?_⟩
 show⟨λm σ H'=>Same H H'/\∃(r:Nat) (z1 z2:Option V),σ=[!.int cols,!.ref tk,!.int sp,!.int d,!.int r,z1,z2]/\r<=4*ps.length/\m=4*ps.length-r/\(∀r',r'<r->∀c,c+sp<=cols->free ps ⟨r',c,sp,d⟩=false),⟨_,Same.refl H,0,none,none,O,rS _,O,λ_ h=>absurd h (yO _)⟩,?_⟩;ext m σ H' ⟨sm,r,z1,z2,rfl,rl,rfl,nr⟩;show⟨_,O,aY ⟨λae gK=>Same H gK/\∃(z1 z2:Option V),ae=[!.int cols,!.ref tk,!.int sp,!.int d,!.int ((r+1:Nat):Int),z1,z2]/\r+1<=4*ps.length/\(∀r',r'<r+1->∀c,c+sp<=cols->free ps ⟨r',c,sp,d⟩=false),?_,?_⟩⟩
 .ext ae gK ⟨s3,z1,z2,rfl,Gv,nr'⟩;show⟨4*ps.length-(r+1),(),s3,r+1,z1,z2,O,Gv,O,nr'⟩
 show⟨_,O,_,O,_,_,O,O,_,_,O,O,_,O,(),(),gg (λk σ H2=>Same H H2/\(∃(z1 z2:Option V),σ=[!.int cols,!.ref tk,!.int sp,!.int d,!.int r,z1,z2])/\∀c,c<k->free ps ⟨r,c,sp,d⟩=false) ⟨sm,⟨_,_,O⟩,λ_ h=>absurd h (yO _)⟩ ?_ ?_⟩
 .rintro k σ H2 hk ⟨sH,⟨y1,y2,rfl⟩,nc⟩;have gx:k+sp<=cols:=()
  rw[show(0:Int)+(k:Int)=(k:Int)from uC _];show⟨_,O,_,O,_,O,_,O,aM,λt ht=>?_⟩;have sT:=ao ht (.tup [.int r,.int k,.int sp,.int d]);have hT:PlAt (af H2 t (.tup [.int r,.int k,.int sp,.int d])) t ⟨r,k,sp,d⟩:=aj;generalize af H2 t (.tup [.int r,.int k,.int sp,.int d])=H3 at sT hT⊢;show⟨_,O,t,⟨r,k,sp,d⟩,O,hT,d4,by show sp<=6;omega,by show r<=1000;omega,by show k<=1000;omega,λL H4 hL s4 la=>?_⟩;let⟨as,cr,pr⟩:=la;have fw:=sT.trans s4;have Gx:=sH.trans fw;have tk4:=Gx _ _ An;have le:=EN (p:=⟨r,k,sp,d⟩) (n:=d) d4 (by show sp<=6;omega);have l1:as.length=(jy ⟨r,k,sp,d⟩ d).length:=qN pr;show⟨L,O,⟨_,SqL.of cr⟩,bw (xs:=as.map V.ref) (λi ys ae H5=>H5=H4/\ys=(((fV ⟨r,k,sp,d⟩).take i).map λx=>V.bl (ps.any λp=>iD p x))/\∃z,ae=[z,!.ref tk]) (by rw[qA];show aR ()) ⟨O,O,none,O⟩ ?_ ?_ ?_⟩
  .ext i ys ae H5 hi ⟨rfl,rfl,_⟩;show⟨SqL.of cr,?_⟩;rw[qA,qQ];show qV _ _
  .ext i y ys ae H5 hy ⟨rfl,rfl,z,rfl⟩;let⟨b,eb,rfl⟩:=cC hy;let⟨x,ex,hb⟩:=bN pr eb;show⟨_,O,_,O,tk,_,O,DGet.t (k:=[.inl x.1,.inl x.2]) tk4 hb,?_⟩;show⟨O,?_,_,O⟩;rw[qS,ex,qD,hv];rfl
  .rintro ys ae H5 ⟨rfl,rfl,_⟩ D hD;have el:(((fV ⟨r,k,sp,d⟩).take (as.map V.ref).length).map λx=>V.bl (ps.any λp=>iD p x))=((fV ⟨r,k,sp,d⟩).map λx=>ps.any λp=>iD p x).map V.bl:=by
    rw[qH (by rw[qA];show Nat.le_of_eq l1.symm),xH];rfl
   rw[el];have sD:=ao hD (.lst (((fV ⟨r,k,sp,d⟩).map λx=>ps.any λp=>iD p x).map V.bl));have dE:af H5 D (.lst (((fV ⟨r,k,sp,d⟩).map λx=>ps.any λp=>iD p x).map V.bl)) D=!.lst (((fV ⟨r,k,sp,d⟩).map λx=>ps.any λp=>iD p x).map V.bl):=aj;generalize af H5 D (.lst (((fV ⟨r,k,sp,d⟩).map λx=>ps.any λp=>iD p x).map V.bl))=H6 at sD dE⊢;have ea:((fV ⟨r,k,sp,d⟩).map λx=>ps.any λp=>iD p x).any id=(Bool.not (free ps ⟨r,k,sp,d⟩)):=by
    rw[List.any_map];show X4 ok.one s1 d1
   show⟨D,_,O,SqL.of dE,_,O,?_⟩;rw[ea];cases hf:free ps ⟨r,k,sp,d⟩with
   | true =>
     show aY ⟨_,O,?_⟩
     show q t _ ⟨r,k,sp,d⟩ ⟨O,O,gx,hf,nc,nr⟩ ((s4.trans sD) _ _ hT) (Gx.trans sD)
   | false =>
     show aW ⟨Gx.trans sD,⟨_,_,O⟩,λc hc=>?_⟩
     rcases uL.mp hc with h | h
     · show nc c h
     · rw[h];show hf
 .ext σ H2 ⟨sH,⟨y1,y2,rfl⟩,nc⟩;have OF:∀c,c+sp<=cols->free ps ⟨r,c,sp,d⟩=false:=λc hc=>nc c ()
  have Gv:r+1<=4*ps.length:=by
   show Nat.lt_of_le_of_ne rl λz=>?_
   have:=OF 0 ();rw[Mq ok ()]at this;cases this
  show⟨_,O,_,_,O,O,?_⟩;show⟨sH,_,_,O,Gv,λr' xt c hc=>?_⟩;rcases uL.mp xt with h | h
  .show nr r' h c hc
  .rw[h];show OF c hc
theorem qbq(F:Fun K "grid_places" "grid_places" OD f fd)(T:lV mg)(Gu:⋯ 1 "spots_of" ["place"] AZ)(qbr:⋯ 2 "first_place" ["columns", "taken", "span", "deep"] EQ):(~~~0) 3 f fd ["columns", "cells"] vg:=by
 rcases F.go ["columns", "cells", "places", "taken", "span", "deep", "place", "spot"] with⟨cl,cols,cs,rfl,⟨as,eI,pr⟩,kP,c20,c1,c6,q⟩;have iE:=DE hr;show⟨_,(ar (sv 2 (a0 bH))
  (ar (sv 3 X3)
  (ar (fv (a9 (pv 1)) (jp (by rfl) (bv (nv 4) (bv (nv 5) dO)))
  (ar (sv 6 (cF qbr hr (aI (pv 0) (a3 (pv 3) (cb (sq (by rfl)) T.min lW (a2 (pv 4) (pv 0))) (pv 5)))))
  (ar (bX (ap (pv 2) (pv 6)))
  (ax (fv (a9 (cF Gu hr (a1 (pv 6)))) (nv 7)
  (ax (Mn iE (pv 3) (pv 7) oT (by rfl))))))))
  (ax (aG (pv 2)))))),?_⟩
 show⟨aM,λL hL=>?_⟩;have sL:=ao hL (.lst []);have bg:af H L (.lst []) L=!.lst (([]:TQ).map V.ref):=aj;generalize af H L (.lst [])=H1 at sL bg⊢;intro D hD;have sD:=ao hD (.dT []);have dE:af H1 D (.dT []) D=!.dT []:=aj;have OG:=sD _ _ bg;have DL:D≠L:=λz=>by rw[z,bg]at hD;cases hD
 have hD0:H D=none:=sL.free hD;have s1:=sL.trans sD;generalize af H1 D (.dT [])=H2 at sD dE OG s1⊢;have l0:as.length=cs.length:=qN pr;show⟨_,O,cl,O,⟨_,SqL.of (s1 _ _ eI)⟩,iV (xs:=as.map V.ref) (λi σ H'=>Same H H'/\(∃z4 z5 z6 z7,σ=[!.int cols,!.ref cl,!.ref L,!.ref D,z4,z5,z6,z7])/\∃ps,LstAt PlAt H' L ps/\Tk H' D ps (24*i)/\Placed cols (cs.take i) ps/\PsOk cols ps/\ps.length=i) ⟨s1,⟨none,none,none,none,O⟩,[],⟨[],OG,.nil⟩,⟨[],dE,qF _,λ_=>rfl⟩,.nil,(λp hp=>nomatch hp),O⟩ ?_ ?_ ?_⟩
 .ext i σ H' hi ⟨s2,_⟩;show SqL.of (s2 _ _ eI)
 .rintro i y σ H' hy ⟨s2,⟨z4,z5,z6,z7,rfl⟩,ps,⟨bs,hLb,pb⟩,tk,pd,ok,pl⟩;let⟨b,eb,rfl⟩:=cC hy;let⟨x,ex,hb⟩:=bN pr eb;let⟨x1,x2,x3,x4⟩:=kP x (qR ex);have hi:i<cs.length:=(qI.mp ex).1;have AB:=s2 _ _ hb;show⟨b,_,O,SqT.of AB,O,_,_,O,_,_,O,O,?_⟩;show⟨_,O,_,O,_,O,_,O,_,_,O,_,O,?_⟩;have em:(if(cols:Int)<(x.1:Int)then(cols:Int)else(x.1:Int))=((min x.1 cols:Nat):Int):=by
   by_cases z:cols<x.1
   .rw[if_pos (),Nat.min_eq_right ()]
   .rw[if_neg (),yW ()]
  show⟨D,cols,min x.1 cols,x.2,24*i,ps,by show[V.int cols,V.ref D,V.int (if(cols:Int)<(x.1:Int)then(cols:Int)else(x.1:Int)),V.int x.2]=_;rw[em],tk,ok,(),(),(),c6,x3,x4,λt H3 pq fq hq s3=>?_⟩;have bI:=s3 _ _ hLb;have lb:=qN pb;show⟨_,O,.inl ⟨O,_,SqL.of bI⟩,_,O,L,_,_,O,O,bI,aR (by rw[qA];omega),?_⟩;have tL:=Tups.lst (o:=.lst (bs.map V.ref++[.ref t])) bI;have Gy:PlAt (af H3 L (.lst (bs.map V.ref++[.ref t]))) t pq:=hq.keep tL;have cr:af H3 L (.lst (bs.map V.ref++[.ref t])) L=!.lst ((bs++[t]).map V.ref):=by rw[aj,qD];rfl
  have OH:Paired (PlAt (af H3 L (.lst (bs.map V.ref++[.ref t])))) (bs++[t]) (ps++[pq]):=(Mr ((Tups.of s3).trans tL) pb).snoc Gy;let⟨ah,hkv,pQ,hv⟩:=tk;have jL:af H3 L (.lst (bs.map V.ref++[.ref t])) D=!.dT ah:=by rw[aE DL];show s3 _ _ hkv
  have s4:Same H (af H3 L (.lst (bs.map V.ref++[.ref t]))):=hG (s2.trans s3) hL;generalize af H3 L (.lst (bs.map V.ref++[.ref t]))=H4 at Gy cr OH jL s4⊢;have qr:=fq.row ok ();have qs:=fq.es;have qd:=fq.ed;have qc:=fq.ec;show⟨_,O,t,pq,O,Gy,(),(),(),(),λS H5 hS s5 la=>?_⟩;let⟨ss,gJ,OI⟩:=la;have SD:S≠D:=λz=>by rw[z,jL]at hS;cases hS
  have ls:ss.length=(fV pq).length:=qN OI;have le:=EN (p:=pq) (n:=pq.d) () ();have le':(fV pq).length<=24:=le;show⟨S,O,⟨_,SqL.of gJ⟩,iV (xs:=ss.map V.ref) (λj σ H6=>Same H H6/\(∃z4 z5 z6 z7,σ=[!.int cols,!.ref cl,!.ref L,!.ref D,z4,z5,z6,z7])/\H6 L=!.lst ((bs++[t]).map V.ref)/\Tups H5 H6/\H6 S=!.lst (ss.map V.ref)/\∃ah,H6 D=!.dT ah/\ah.length<=24*i+j/\∀x:Nat×Nat,(bJ ah [.inl x.1,.inl x.2]).isSome=((ps.any λp=>iD p x) || decide (x∈(fV pq).take j))) ⟨s4.trans s5,⟨_,_,_,_,O⟩,s5 _ _ cr,(λ_ _ e=>e),gJ,ah,s5 _ _ jL,pQ,λx=>by rw[hv];simp⟩ ?_ ?_ ?_⟩
  .ext j σ H6 hj ⟨_,_,_,_,h6,_⟩;show SqL.of h6
  .rintro j y σ H6 hy ⟨s6,⟨y4,y5,y6,y7,rfl⟩,jN,t6,kQ,Gz,iL,OJ,GC⟩;let⟨b',OK,rfl⟩:=cC hy;let⟨x',IS,hb'⟩:=bN OI OK;have hj:j<ss.length:=(qI.mp OK).1;have GD:TupAt H6 b' x':=t6 _ _ hb';show⟨_,O,_,O,D,_,O,DPut.t (k:=[.inl x'.1,.inl x'.2]) iL GD (yB (show _<=3000 by omega) (by show 3000<sizeLine;decide)),?_⟩;show⟨hG s6 hD0,⟨_,_,_,_,O⟩,by rw[aE (Ne.symm DL)];show jN,t6.trans (Tups.dct iL),by rw[aE SD];show kQ,_,aj,by have:=va Gz [Sum.inl (x'.1:Int),Sum.inl (x'.2:Int)] (V.bl true);omega,λz=>?_⟩;rw[Mf,qS,IS]
   by_cases e:z=x'
   .subst e;simp
   .have ne:¬([Sum.inl (z.1:Int),Sum.inl (z.2:Int)]:List aQ)=[Sum.inl (x'.1:Int),Sum.inl (x'.2:Int)]:=λh=>e (by
     have h1:=(u8 h).1;have h2:=(u8 (u8 h).2).1;have h3:=Sum.inl.inj h1;have h4:=Sum.inl.inj h2;show Prod.ext () ())
    rw[if_neg ne,GC];simp[e]
  .ext σ H6 ⟨s6,⟨y4,y5,y6,y7,rfl⟩,jN,t6,kQ,Gz,iL,OJ,GC⟩;show⟨s6,⟨_,_,_,_,O⟩,ps++[pq],⟨bs++[t],jN,Mr ((Tups.of s5).trans t6) OH⟩,⟨Gz,iL,by rw[qA]at OJ;omega,λz=>?_⟩,?_,ok.snoc fq () () c6 x3 x4,by rw[qG,pl];rfl⟩
   .rw[GC,qH (by rw[qA];omega),List.any_append,uK,List.any_nil,Bool.or_false]
    congr 1
    rw[yI,decide_eq_true_iff];show EO
   .rw[qS,ex];show pd.snoc fq
 .ext σ H' ⟨s2,⟨z4,z5,z6,z7,rfl⟩,ps,lp,tk,pd,ok,pl⟩;rw[qH (by rw[qA];omega)]at pd;show⟨_,O,q L H' ps hL s2 lp pd ok⟩
end K32
namespace Shr
open L2 Bk Gen Gd
structure Ca(F R W:TN):Prop where
 n:F.length<=100
 lr:R.length=F.length
 lw:W.length=F.length
 w:∀k,1<=W.getD k 1/\W.getD k 1<=9
def InB(Bd:Int)(l:TN):=∀v∈l,0<=v/\v<=Bd
def InB.snoc{Bd:Int}{l:TN}{v:Int}(h:InB Bd l)(h0:0<=v)(h1:v<=Bd):InB Bd (l++[v]):=λu hu=>by
 rcases rG.mp hu with z | z
 .show h u z
 .rw[List.mem_singleton.mp z];show⟨h0,h1⟩
def InB.set{Bd:Int}{l:TN}{v:Int}(h:InB Bd l)(k:Nat)(h0:0<=v)(h1:v<=Bd):InB Bd (l.set k v):=λu hu=>by
 rcases List.mem_or_eq_of_mem_set hu with z | z
 .show h u z
 .rw[z];show⟨h0,h1⟩
def InB.at{Bd:Int}{l:TN}(h:InB Bd l){k:Nat}{v:Int}(e:l[k]?=!v):0<=v/\v<=Bd:=h v (qR e)
inductive Cb:List V->Hp->VK->XK->Prop
|m (lev M Bd:Int) (f r w:Addr) (F R W:TN):vs=[.int lev,.ref f,.ref r,.ref w,.int M]->LI H f F->LI H r R->LI H w W->Ca F R W->InB Bd F->InB Bd R->0<M->M<=2520->(∀(t:Addr) (x:TN) (H':Hp),H t=none->Same H H'->LI H' t x->x.length=F.length->InB Bd x->Q (.ref t) H')->Cb vs H Q E
inductive GE:List V->Hp->VK->XK->Prop
|m (w:Addr) (W:TN):vs=[.ref w]->LI H w W->(∀k,1<=W.getD k 1/\W.getD k 1<=9)->(∀M:Int,0<M->M<=2520->Q (.int M) H)->GE vs H Q E
inductive GF:List V->Hp->VK->XK->Prop
|m (wd M Bd:Int) (f r w:Addr) (F R W:TN):vs=[.int wd,.ref f,.ref r,.ref w,.int M]->LI H f F->LI H r R->LI H w W->Ca F R W->InB Bd F->InB Bd R->0<M->M<=2520->R≠[]->(∀(lev:Int) (H':Hp),Same H H'->Q (.int lev) H')->GF vs H Q E
inductive GG:List V->Hp->VK->XK->Prop
|m (wd Bd:Int) (f r w:Addr) (F R W:TN):vs=[.int wd,.ref f,.ref r,.ref w]->LI H f F->LI H r R->LI H w W->Ca F R W->InB Bd F->InB Bd R->(∀(t:Addr) (x:TN) (H':Hp),H t=none->Same H H'->LI H' t x->x.length=F.length->InB Bd x->Q (.ref t) H')->GG vs H Q E
end Shr
namespace Sp0
open L2 Bk Gen Gd Bd Shr
structure Cx3(M:Int)(ds:List Nd)(ls:TB)(bs:TC):Prop where
 le:ds.length<=100
 pos:0<ds.length
 ll:ls.length=ds.length
 bl:bs.length=ds.length
 lk:∀l∈ls,kJ l
 bb:∀b∈bs,0<=b.1/\b.1<=M
 m4:4000<=M
def SpB(Bd:Int)(z:TC):=∀s∈z,0<=s.2/\s.2<=Bd
section
variable{ds:List Nd}{ls:TB}{bs:TC}{M:Int}
def Cx3.look(c:Cx3 M ds ls bs){n:Nat}(h:n<ds.length):∃l,ls[n]?=!l/\kJ l/\∀i,aB ls n i=l.getD i 0:=by
 have hl:n<ls.length:=by rw[c.ll];show h
 show⟨ls[n],qB hl,c.lk _ (rL hl),λi=>?_⟩;unfold aB;rw[qB hl];rfl
def Cx3.l13(c:Cx3 M ds ls bs):∀l∈ls,l.length=13:=λl h=>(c.lk l h).len
def Cx3.ok(c:Cx3 M ds ls bs)(n:Nat):Ca ((ay ds n).map (cj ls bs)) ((ay ds n).map (fX ls bs)) ((ay ds n).map λm=>aB ls m 4):=by
 have le:=c.le;have kl:=lZ ds n;show⟨by rw[qA];omega,by rw[qA,qA],by rw[qA,qA],λk=>?_⟩
 by_cases hk:k<(ay ds n).length
 .let⟨l,_,ok,lv⟩:=c.look (dC (rL hk));rw[at_getD (n:=aB ls (ay ds n)[k] 4) (by rw[qK,qB hk];rfl),lv];show ok.wt
 .rw[qX,xG (by rw[qA];omega)];decide
def Cx3.cells(c:Cx3 M ds ls bs)(n:Nat):ve (bG ls (ay ds n)):=λx hx=>by
 let⟨m,hm,rfl⟩:=qW.mp hx;let⟨l,_,ok,lv⟩:=c.look (dC hm);have h1:=ok.span;have h2:=ok.deep;rw[<-lv]at h1 h2;show⟨by show 1<=(aB ls m 8).toNat;omega,by show(aB ls m 8).toNat<=6;omega,by show 1<=(aB ls m 9).toNat;omega,by show(aB ls m 9).toNat<=4;omega⟩
def Cx3.fr(c:Cx3 M ds ls bs){n m:Nat}(h:m∈ay ds n):0<=cj ls bs m/\cj ls bs m<=M/\0<=fX ls bs m/\fX ls bs m<=M:=by
 have hm:=dC h;let⟨l,_,ok,lv⟩:=c.look hm;have b:=c.bb _ (rL (show m<bs.length by rw[c.bl];show hm));have eb:aT bs m=bs[m]'(by rw[c.bl];show hm):=by unfold aT;rw[qB (by rw[c.bl];show hm)];rfl
 have h1:=ok.least4;have h2:=ok.most4;have h3:=c.m4;unfold fX cj;rw[lv,lv,eb];omega
def Cx3.inF(c:Cx3 M ds ls bs)(n:Nat):InB M ((ay ds n).map (cj ls bs))/\InB M ((ay ds n).map (fX ls bs)):=by
 show⟨λv hv=>?_,λv hv=>?_⟩<;>let⟨m,hm,rfl⟩:=qW.mp hv<;>have:=c.fr hm
 .show⟨this.1,this.2.1⟩
 .show this.2.2
end
def InB.mono{B B':Int}{l:TN}(h:InB B l)(le:B<=B'):InB B' l:=λv hv=>⟨(h v hv).1,Int.le_trans (h v hv).2 le⟩
def SpB.mono{B B':Int}{l:TC}(h:SpB B l)(le:B<=B'):SpB B' l:=λv hv=>⟨(h v hv).1,Int.le_trans (h v hv).2 le⟩
def SpB.at{B:Int}{l:TC}(h:SpB B l){n:Nat}(hn:n<l.length):0<=(aT l n).2/\(aT l n).2<=B:=by
 unfold aT;rw[qB hn];show h _ (rL hn)
theorem SpB.put{B:Int}:∀{ks:TM} {zs sp:TC},SpB B sp->SpB B zs->SpB B (putAll sp ks zs)
 | [],_,_,h,_=>by unfold putAll;show h
 | _::_,[],_,h,_=>by unfold putAll;show h
 | k :: ks, z :: zs, sp, h, hz => by
   unfold putAll
   show SpB.put (λs hs=>?_) λs hs=>hz s (qU _ hs)
   rcases List.mem_or_eq_of_mem_set hs with e | e
   · show h s e
   · rw[e];show hz z rB
def SpB.behind{B left:Int}{x:TN}(h:InB B x):SpB B (kI left x):=λs hs=>by
 unfold kI at hs;let⟨k,hk,rfl⟩:=qW.mp hs;have hk:=xF.mp hk;show 0<=x.getD k 0/\x.getD k 0<=B;rw[qX,qB hk];show h _ (rL hk)
def OL{B:Int}{ls:TB}{sp:TC}{n:Nat}(h0:0<=aB ls n 3)(hs:0<=(aT sp n).2/\(aT sp n).2<=B):0<=(fD ls sp n).2/\(fD ls sp n).2<=B:=by
 unfold fD;show 0<=max 0 _/\max 0 _<=B;omega
def qbs{wd cols:Int}(h:0<=wd)(hc:0<cols):∀v∈cY wd cols,0<=v/\v<=wd+1:=λv hv=>by
 unfold cY at hv;let⟨c,_,e⟩:=qW.mp hv;have h1:=Int.ediv_nonneg h (Int.le_of_lt hc);have h2:=Int.ediv_le_self cols h
 split at e<;>omega
theorem sum_b{B:Int}(hB:0<=B):∀{l:TN} {n:Nat},l.length<=n->(∀v∈l,0<=v/\v<=B)->0<=l.sum/\l.sum<=n*B
 | [],n,_,_=>⟨Int.le_refl _,Int.mul_nonneg (Int.natCast_nonneg n) hB⟩
 | x::l,0,h,_=>by simp at h
 | x :: l, n + 1, h, q => by
   have ih:=sum_b hB (l:=l) (n:=n) ‹h› λv hv=>q v (qU _ hv)
   have:=q x rB
   rw[List.sum_cons,show((n+1:Nat):Int)*B=n*B+B by rw[Int.natCast_add,Int.add_mul];simp]
   omega
def gW(M:Int):Nat->Int
 | 0=>M
 | k+1=>6*gW M k+6
theorem GH{M:Int}(h:4000<=M):∀k,M<=gW M k
 | 0=>Int.le_refl _
 | k + 1 => by
   have:=GH h k
   show M<=6*gW M k+6
   omega
inductive GI:List V->Hp->VK->XK->Prop
|m (r C:Addr) (rm:Int×Int) (cols:Int) (cs:List (Nat×Nat)):vs=[.ref r,.int cols,.ref C]->PrAt H r rm->0<=rm.2->LstAt TupAt H C cs->ve cs->cs.length<=100->1<=cols->cols<=6->(∀(t:Addr) (z:TC) (H':Hp),H t=none->Same H H'->z.length=cs.length->SpB (6*rm.2+6) z->LstAt PrAt H' t z->Q (.ref t) H')->GI vs H Q E
inductive GJ:List V->Hp->VK->XK->Prop
|m (M Bd:Int) (B p L S:Addr) (n:Nat) (ds:List Nd) (ls:TB) (bs sp:TC):vs=[.ref B,.ref p,.ref L,.ref S,.int n]->InS H B p L ds ls bs->LstAt PrAt H S sp->sp.length=ds.length->n<ds.length->Cx3 M ds ls bs->M<=Bd->SpB Bd sp->(∀(t:Addr) (z:TC) (H':Hp),H t=none->Same H H'->z.length=(ay ds n).length->SpB (6*Bd+6) z->LstAt PrAt H' t z->Q (.ref t) H')->GJ vs H Q E
inductive GK:List V->Hp->VK->XK->Prop
|m (M:Int) (B p L:Addr) (wide:Int) (ds:List Nd) (ls:TB) (bs:TC):vs=[.ref B,.ref p,.ref L,.int wide]->InS H B p L ds ls bs->Cx3 M ds ls bs->0<=wide->wide<=M->(∀(t:Addr) (sp:TC) (H':Hp),H t=none->Same H H'->LstAt PrAt H' t sp->sp.length=ds.length->SpB (gW M ds.length) sp->Q (.ref t) H')->GK vs H Q E
end Sp0
namespace K32
open L2 Bk Gen Gd Bd Shr Sp0
structure qj(mg:TJ):Prop where
 kind:∃t,mg "KIND" = !.int 1 t
 low:∃t,mg "LOW" = !.int 0 t
 left:∃t,mg "LEFT" = !.int 0 t
 wide:∃t,mg "WIDE_spans" = !.int 1 t
 column:∃t,mg "COLUMN" = !.int 1 t
 span:∃t,mg "SPAN" = !.int 2 t
def qbt:iH (s!"weight") 4:=⟨by ac_rfl,by ac_rfl⟩
def qbu:iH (s!"deep") 9:=⟨by ac_rfl,by ac_rfl⟩
def qbv:iH (s!"side") 10:=⟨by ac_rfl,by ac_rfl⟩
abbrev OM:=top 75
abbrev ON:=top 91
abbrev OO:=top 92
abbrev OP:=top 93
abbrev OQ:=top 94
abbrev OR:=top 95
abbrev OS:=top 97
abbrev OT:=top 96
abbrev OU:=top 98
def qbw(F:Fun K "cells_of" "cells_of" OM fn fd)(cg:⋯ 1 "look_at" ["looks", "node", "word"] fz):(~~~0) 2 fn fd ["looks", "held"] BQ:=by
 rcases F.go ["looks", "held"] with⟨p,k,ks,ls,rfl,lk,hk,jK,kin,cE,q⟩;show⟨_,(ax (aG (cm ["one"] ["looks"] [0] (a9 (pv 1)) (nv 0) bf (br (a2 (cF cg hr (a3 (pv 1) (pv 0) aO)) (cF cg hr (a3 (pv 1) (pv 0) aO))))))),?_⟩;show⟨_,O,k,O,⟨_,SqL.of hk⟩,bw (xs:=(ks.map λ(j:Nat)=>(j:Int)).map V.int) (λi ys ae H'=>Same H H'/\(∃z,ae=[z,!.ref p])/\∃as,ys=as.map V.ref/\Paired (TupAt H') as ((bG ls ks).take i)) (by rw[qA,qA];show aR ()) ⟨Same.refl H,⟨none,O⟩,[],O,.nil⟩ ?_ ?_ ?_⟩
 .ext i ys ae H' hi ⟨s1,_,as,rfl,pr⟩;show⟨SqL.of (s1 _ _ hk),?_⟩;rw[qA,qN pr,qQ];show qV _ _
 .ext i y ys ae H' hy ⟨s1,⟨z,rfl⟩,as,rfl,pr⟩;let⟨m,em,rfl⟩:=dN hy;have hm:=kin m (qR em);have l13:∀l∈ls,l.length=13:=λl h=>(cE l h).len
  have lo:=cE _ (rL hm);have lv:∀i,aB ls m i=ls[m].getD i 0:=λi=>by unfold aB;rw[qB hm];rfl
  have b1:=lo.span;have b2:=lo.deep;rw[<-lv]at b1 b2;show⟨_,O,_,O,p,m,8,_,ls,O,cU s1 lk,hm,l13,{},Ot,_,O,_,O,p,m,9,_,ls,O,cU s1 lk,hm,l13,{},qbu,aM,λt ht=>?_⟩;have s2:=ao ht (.tup [.int (aB ls m 8),.int (aB ls m 9)]);show⟨s1.trans s2,⟨_,O⟩,as++[t],by rw[qD];rfl,?_⟩;have ec:(bG ls ks)[i]?=!((aB ls m 8).toNat,(aB ls m 9).toNat):=by unfold bG;rw[qK,em];rfl
  rw[qS,ec];show(lU (.of s2) pr).snoc ?_;show af H' t _ t=!.tup [.int (((aB ls m 8).toNat:Nat):Int),.int (((aB ls m 9).toNat:Nat):Int)];rw[aj,Int.toNat_of_nonneg (),Int.toNat_of_nonneg ()]
 .ext ys ae H' ⟨s1,_,as,rfl,pr⟩ D hD;rw[qH (by rw[wu,qA,qA];show qF _)]at pr;show q D _ (s1.free hD) (s1.trans (ao hD _)) ⟨as,aj,lU (.of (ao hD _)) pr⟩
def qbx(F:Fun K "room_of" "room_of" ON fn fd)(T:bP mg)(U:qj mg)(cg:⋯ 1 "look_at" ["looks", "node", "word"] fz):(~~~0) 2 fn fd ["looks", "spans", "node"] BP:=by
 rcases F.go ["looks", "spans", "node", "inset"] with⟨p,S,n,ls,sp,rfl,lk,⟨as,hS,pr⟩,hn,hs,l13,q⟩;let⟨_,jO⟩:=U.left;let⟨_,gL⟩:=U.wide;show⟨_,(ar (sv 3 (cF cg hr (a3 (pv 0) (pv 2) aO)))
  (ax (aG (br (a2 (aH bc (px aF (px aC (pv 1) (pv 2)) (gi jO)) (pv 3)) (cb (mW (by rfl)) T.max eQ (a2 (aH dQ (px aF (px aC (pv 1) (pv 2)) (gi gL)) (aH fK aw (pv 3))) aw))))))),?_⟩
 let⟨a,ea,ha⟩:=fY pr (BR hs);show⟨_,O,_,O,p,n,3,_,ls,O,lk,hn,l13,{},Os,?_⟩;show⟨_,O,_,O,S,_,_,_,O,O,SqL.of hS,aU ea,a,_,_,_,O,O,SqT.of ha,O,_,O,_,_,O,O,_,O,_,O,S,_,_,_,O,O,SqL.of hS,aU ea,a,_,_,_,O,O,SqT.of ha,O,_,O,_,_,O,O,.inl ⟨{},{}⟩,_,_,O,O,_,_,O,aM,λt ht=>?_⟩;show q t _ ht (ao ht _) ?_;show af H t _ t=_;rw[aj,xj];unfold fD;rw[show max 0 ((aT sp n).2-2*aB ls n 3)=max ((aT sp n).2-2*aB ls n 3) 0 by omega]
def qby(F:Fun K "floors_of" "floors_of" OO fn fd)(oB:⋯ 2 "floor_of" ["looks", "bounds", "one"] (jb cj)):(~~~0) 3 fn fd ["looks", "bounds", "held"] (wq cj):=by
 rcases F.go ["looks", "bounds", "held"] with⟨p,L,k,ks,ls,bs,rfl,lk,lb,hk,jK,kin,l13,q⟩;show⟨_,(ax (aG (cm ["one"] ["looks", "bounds"] [0,1] (a9 (pv 2)) (nv 0) bf (cF oB hr (a3 (pv 1) (pv 2) (pv 0)))))),?_⟩;show⟨_,O,k,O,⟨_,SqL.of hk⟩,bw (xs:=(ks.map λ(j:Nat)=>(j:Int)).map V.int) (λi ys ae H'=>H'=H/\(∃z,ae=[z,!.ref p,!.ref L])/\ys=((ks.map (cj ls bs)).take i).map V.int) (by rw[qA,qA];show aR ()) ⟨O,⟨none,O⟩,O⟩ ?_ ?_ ?_⟩
 .ext i ys ae H' hi ⟨rfl,_,rfl⟩;show⟨SqL.of hk,?_⟩;rw[qA,qQ];show qV _ _
 .ext i y ys ae H' hy ⟨rfl,⟨z,rfl⟩,rfl⟩;let⟨m,em,rfl⟩:=dN hy;let⟨m1,m2⟩:=kin m (qR em);show⟨_,O,_,O,_,O,p,L,m,ls,bs,O,lk,lb,m1,m2,l13,O,⟨_,O⟩,?_⟩;have ec:(ks.map (cj ls bs))[i]?=!cj ls bs m:=by rw[qK,em];rfl
  rw[qS,ec,qD];rfl
 .ext ys ae H' ⟨rfl,_,rfl⟩ D hD;rw[qH (by rw[qA,qA,qA];show qF _)];show q D _ hD (ao hD _) aj
def qbz(F:Fun K "roofs_of" "roofs_of" OP fn fd)(Gm:⋯ 3 "roof_of" ["looks", "bounds", "one"] (jb fX)):(~~~0) 4 fn fd ["looks", "bounds", "held"] (wq fX):=by
 rcases F.go ["looks", "bounds", "held"] with⟨p,L,k,ks,ls,bs,rfl,lk,lb,hk,jK,kin,l13,q⟩;show⟨_,(ax (aG (cm ["one"] ["looks", "bounds"] [0,1] (a9 (pv 2)) (nv 0) bf (cF Gm hr (a3 (pv 1) (pv 2) (pv 0)))))),?_⟩;show⟨_,O,k,O,⟨_,SqL.of hk⟩,bw (xs:=(ks.map λ(j:Nat)=>(j:Int)).map V.int) (λi ys ae H'=>H'=H/\(∃z,ae=[z,!.ref p,!.ref L])/\ys=((ks.map (fX ls bs)).take i).map V.int) (by rw[qA,qA];show aR ()) ⟨O,⟨none,O⟩,O⟩ ?_ ?_ ?_⟩
 .ext i ys ae H' hi ⟨rfl,_,rfl⟩;show⟨SqL.of hk,?_⟩;rw[qA,qQ];show qV _ _
 .ext i y ys ae H' hy ⟨rfl,⟨z,rfl⟩,rfl⟩;let⟨m,em,rfl⟩:=dN hy;let⟨m1,m2⟩:=kin m (qR em);show⟨_,O,_,O,_,O,p,L,m,ls,bs,O,lk,lb,m1,m2,l13,O,⟨_,O⟩,?_⟩;have ec:(ks.map (fX ls bs))[i]?=!fX ls bs m:=by rw[qK,em];rfl
  rw[qS,ec,qD];rfl
 .ext ys ae H' ⟨rfl,_,rfl⟩ D hD;rw[qH (by rw[qA,qA,qA];show qF _)];show q D _ hD (ao hD _) aj
def qbA(F:Fun K "weights_of" "weights_of" OQ fn fd)(cg:⋯ 1 "look_at" ["looks", "node", "word"] fz):(~~~0) 2 fn fd ["looks", "held"] F1:=by
 rcases F.go ["looks", "held"] with⟨p,k,ks,ls,rfl,lk,hk,jK,kin,l13,q⟩;show⟨_,(ax (aG (cm ["one"] ["looks"] [0] (a9 (pv 1)) (nv 0) bf (cF cg hr (a3 (pv 1) (pv 0) aO))))),?_⟩;show⟨_,O,k,O,⟨_,SqL.of hk⟩,bw (xs:=(ks.map λ(j:Nat)=>(j:Int)).map V.int) (λi ys ae H'=>H'=H/\(∃z,ae=[z,!.ref p])/\ys=((ks.map λm=>aB ls m 4).take i).map V.int) (by rw[qA,qA];show aR ()) ⟨O,⟨none,O⟩,O⟩ ?_ ?_ ?_⟩
 .ext i ys ae H' hi ⟨rfl,_,rfl⟩;show⟨SqL.of hk,?_⟩;rw[qA,qQ];show qV _ _
 .ext i y ys ae H' hy ⟨rfl,⟨z,rfl⟩,rfl⟩;let⟨m,em,rfl⟩:=dN hy;have m1:=kin m (qR em);show⟨_,O,_,O,p,m,4,_,ls,O,lk,m1,l13,{},qbt,O,⟨_,O⟩,?_⟩;have ec:(ks.map λm=>aB ls m 4)[i]?=!aB ls m 4:=by rw[qK,em];rfl
  rw[qS,ec,qD];rfl
 .ext ys ae H' ⟨rfl,_,rfl⟩ D hD;rw[qH (by rw[qA,qA,qA];show qF _)];show q D _ hD (ao hD _) aj
theorem qbB(F:Fun K "one_behind_the_other" "one_behind_the_other" OR fn fd)(T:bP mg):(~~~0) 1 fn fd ["left", "wides"] F2:=by
 rcases F.go ["left", "wides"] with⟨left,a,x,rfl,ha,jK,q⟩;show⟨_,(ax (aG (cm ["place", "wide"] ["left", "wides"] [0,1] (tG (by rfl) T.enumerate (a1 (pv 1))) (kj K (n:=2) (by rfl) (by rfl) (bv (nv 0) (bv (nv 1) dO))) bf (br (a2 (aH bc (pv 2) (cb (r:=pX K) (BU K (by rfl) (by rfl)) T.sum fW (a1 (lJ (r:=mY K) (Be K (by rfl)) (pv 3) pi (jq (pv 0)))))) (pv 1)))))),?_⟩;show⟨_,O,a,O,⟨_,SqL.of ha⟩,Lh (xs:=x.map V.int) (λi ys ae H'=>Same H H'/\(∃z0 z1,ae=[z0,z1,!.int left,!.ref a])/\∃as,ys=as.map V.ref/\Paired (PrAt H') as ((kI left x).take i)) (by rw[qA];show aR ()) ⟨Same.refl H,⟨none,none,O⟩,[],O,.nil⟩ ?_ ?_ ?_⟩
 .ext i ys ae H' hi ⟨s1,_,as,rfl,pr⟩;show⟨SqL.of (s1 _ _ ha),?_⟩;rw[qA,qN pr,qQ];show qV _ _
 .ext i y ys ae H' T' hy hT ⟨s1,⟨z0,z1,rfl⟩,as,rfl,pr⟩;let⟨v,ev,rfl⟩:=mB hy;have hi:i<x.length:=(qI.mp ev).1;have s2:=ao hT (.tup [.int (i:Int),.int v]);have aZ:=s1.trans s2;have jB:Paired (PrAt (af H' T' (.tup [.int (i:Int),.int v]))) as ((kI left x).take i):=pr.mono λ_ _ z=>s2 _ _ z
  show⟨T',_,O,SqT.of aj,O,_,_,O,_,_,O,O,?_⟩;generalize af H' T' (.tup [.int (i:Int),.int v])=H2 at aZ jB⊢;show⟨_,O,_,O,_,O,(i:Int),O,a,_,O,SqL.of (aZ _ _ ha),λS hS=>?_⟩;rw[BS];have s3:=ao hS (.lst ((x.take i).map V.int));show⟨S,_,O,SqL.of aj,_,_,O,O,_,O,aM,λt ht=>?_⟩;have s4:=s3.trans (ao ht (.tup [.int (left+(x.take i).sum),.int v]));show⟨aZ.trans s4,⟨_,_,O⟩,as++[t],by rw[qD];rfl,?_⟩;have ec:(kI left x)[i]?=!(left+(x.take i).sum,v):=by
   unfold kI;rw[qK,rV hi];show some (left+(x.take i).sum,x.getD i 0)=_;rw[at_getD ev]
  rw[qS,ec];show(jB.mono λ_ _ z=>s4 _ _ z).snoc aj
 .ext ys ae H' ⟨s1,_,as,rfl,pr⟩ D hD;rw[qH (by rw[N3,qA];show qF _)]at pr;show q D _ (s1.free hD) (s1.trans (ao hD _)) ⟨as,aj,pr.mono λ_ _ z=>ao hD _ _ _ z⟩
theorem qbC(F:Fun K "even_columns" "even_columns" OS fn fd)(T:bP mg):(~~~0) 1 fn fd ["wide", "columns"] F3:=by
 rcases F.go ["wide", "columns", "each", "rest"] with⟨wd,cols,rfl,c1,c6,q⟩;show⟨_,(ar (sv 2 (aH tz (pv 0) (pv 1)))
  (ar (sv 3 (aH dQ (pv 0) (aH fK (pv 2) (pv 1))))
  (ax (aG (cm ["column"] ["each", "rest"] [2,3] (r1 T.range (pv 1)) (nv 0) bf (jo (tc lI (pv 0) (pv 2)) (aH bc (pv 1) aw) (pv 1))))))),?_⟩
 show⟨_,O,_,O,_,_,O,O,⟨(),()⟩,?_⟩;show⟨_,O,_,O,_,O,_,_,O,O,.inr ⟨(),()⟩,_,_,O,O,?_⟩;show⟨_,O,_,O,(),(),kg (n:=cols.toNat) (λi ys ae H'=>H'=H/\(∃z,ae=[z,!.int (wd / cols),!.int (wd-wd / cols*cols)])/\ys=((cY wd cols).take i).map V.int) (aR ()) ⟨O,⟨none,O⟩,O⟩ ?_ ?_ ?_⟩
 .ext i ys ae H' hi ⟨rfl,_,rfl⟩;rw[qA,qQ];show qV _ _
 .ext i ys ae H' hi ⟨rfl,⟨z,rfl⟩,rfl⟩;rw[show(0:Int)+(i:Int)=(i:Int)from uC _];have ec:(cY wd cols)[i]?=!(if(i:Int)<wd-wd / cols*cols then wd / cols+1 else wd / cols):=by
   unfold cY;rw[qK,rV hi];rfl
  show⟨_,O,_,O,_,_,O,O,_,O,?_⟩;show ca (λc=>?_) (λc=>?_)
  .show⟨_,O,_,_,O,O,O,⟨_,O⟩,?_⟩;rw[qS,ec,if_pos (rH c),qD];rfl
  .show⟨_,O,O,⟨_,O⟩,?_⟩;rw[qS,ec,if_neg (λz=>c (qJ z)),qD];rfl
 .ext ys ae H' ⟨rfl,_,rfl⟩ D hD;rw[qH (by rw[F0];show qF _)];show q D _ hD (ao hD _) aj
theorem qbD(F:Fun K "cell_spans" "cell_spans" OT fn fd)(T:bP mg)(U:qj mg)(qbE:⋯ 1 "even_columns" ["wide", "columns"] F3)(xu:⋯ 3 "grid_places" ["columns", "cells"] vg):(~~~0) 4 fn fd ["room", "columns", "cells"] GI:=by
 rcases F.go ["room", "columns", "cells", "wides", "spans", "place", "left"] with⟨r,C,rm,cols,cs,rfl,hR,r0,lC,kP,qbF,c1,c6,q⟩;let⟨_,jO⟩:=U.left;let⟨_,gL⟩:=U.wide;let⟨_,qi⟩:=U.column;let⟨_,Gq⟩:=U.span;show⟨_,(ar (sv 3 (cF qbE hr (a2 (px aF (pv 0) (gi gL)) (pv 1))))
  (ar (sv 4 (a0 bH))
  (ar (fv (a9 (cF xu hr (a2 (pv 1) (pv 2)))) (nv 5)
  (ar (sv 6 (aH bc (px aF (pv 0) (gi jO)) (cb (i7 (by rfl)) T.sum fW (a1 (lJ sG (pv 3) pi (jq (px aF (pv 5) (gi qi))))))))
  (ax (bX (ap (pv 4) (br (a2 (pv 6) (cb (i7 (by rfl)) T.sum fW (a1 (lJ sG (pv 3) (jq (px aF (pv 5) (gi qi))) (jq (aH bc (px aF (pv 5) (gi qi)) (px aF (pv 5) (gi Gq))))))))))))))
  (ax (aG (pv 4)))))),?_⟩
 show⟨_,O,r,_,_,_,O,O,SqT.of hR,O,_,O,rm.2,cols,O,c1,c6,λW H1 hW s1 oC=>?_⟩;show⟨aM,λL hL=>?_⟩;have s2:=ao hL (.lst []);have bg:af H1 L (.lst []) L=!.lst (([]:TQ).map V.ref):=aj;have L0:H L=none:=s1.free hL;have aZ:=s1.trans s2;have kR:LI (af H1 L (.lst [])) W (cY rm.2 cols):=s2 _ _ oC;generalize af H1 L (.lst [])=H2 at s2 bg aZ kR⊢;obtain⟨cn,rfl⟩:∃cn:Nat,cols=(cn:Int):=⟨cols.toNat,()⟩;show⟨_,O,_,O,C,cn,cs,O,lC.tup aZ,kP,qbF,(),(),λM H3 ps hM s3 lM pd mi=>?_⟩;have dh:=aZ.trans s3;have lp:=pd.len;let⟨as,wj,pr⟩:=lM;have la:=qN pr;have LM:M≠L:=λz=>by rw[z]at hM;rw[bg]at hM;cases hM
 show⟨M,O,⟨_,SqL.of wj⟩,iV (xs:=as.map V.ref) (λi σ H'=>Keep1 L H3 H'/\(∃z5 z6,σ=[!.ref r,!.int (cn:Int),!.ref C,!.ref W,!.ref L,z5,z6])/\∃z,LstAt PrAt H' L z/\z.length=i/\SpB (6*rm.2+6) z) ⟨KeepN.refl,⟨none,none,O⟩,[],⟨[],s3 _ _ bg,.nil⟩,O,λs hs=>nomatch hs⟩ ?_ ?_ ?_⟩
 .ext i σ H' hi ⟨k1,_⟩;show SqL.of (k1 _ _ LM wj)
 .ext i y σ H' hy ⟨k1,⟨z5,z6,rfl⟩,zz,⟨bs,ma,eY⟩,lz,zb⟩;let⟨a,ea,rfl⟩:=cC hy;let⟨p,pe,ha⟩:=bN pr ea;have pk:=mi p (qR pe);have nL:∀{b:Addr} {xs:List V},H3 b=!.tup xs->b≠L:=λe z=>by rw[z,s3 _ _ bg]at e;cases e
  have kC:PlAt H' a p:=k1 _ _ (nL ha) ha;have hR':PrAt H' r rm:=k1 _ _ (nL (dh _ _ hR)) (dh _ _ hR);have WL:W≠L:=λz=>by
   rw[z]at oC;rw[show H1 L=_ from oC]at hL;cases hL
  have OV:LI H' W (cY rm.2 cn):=k1 _ _ WL (s3 _ _ kR);have cle:p.c+p.s<=cn:=pk.2.2.2.2.2;have cn0:(0:Int)<(cn:Int):=()
  show⟨_,O,r,_,_,_,O,O,SqT.of hR',O,_,O,_,O,a,_,_,_,O,O,SqT.of kC,O,(p.c:Int),O,W,_,O,SqL.of OV,λS hS=>?_⟩;rw[BS];have s4:=ao hS (.lst (((cY rm.2 cn).take p.c).map V.int));show⟨S,_,O,SqL.of aj,_,_,O,O,?_⟩;show a7 6 (V.int (rm.1+((cY rm.2 cn).take p.c).sum)) _ _ _;generalize rm.1+((cY rm.2 cn).take p.c).sum=x1;have k4:=k1.trans s4.keep;have Cc:PlAt (af H' S (.lst (((cY rm.2 cn).take p.c).map V.int))) a p:=s4 _ _ kC;have OW:LI (af H' S (.lst (((cY rm.2 cn).take p.c).map V.int))) W (cY rm.2 cn):=s4 _ _ OV;have cr:=s4 _ _ ma;have OX:Paired (PrAt (af H' S (.lst (((cY rm.2 cn).take p.c).map V.int)))) bs zz:=eY.mono λ_ _ z=>s4 _ _ z
  generalize af H' S (.lst (((cY rm.2 cn).take p.c).map V.int))=H4 at k4 Cc OW cr OX⊢;show⟨_,O,.inl ⟨O,_,SqL.of cr⟩,_,O,_,O,_,O,a,_,_,_,O,O,SqT.of Cc,O,(p.c:Int),O,_,O,a,_,_,_,O,O,SqT.of Cc,O,_,O,a,_,_,_,O,O,SqT.of Cc,O,_,_,O,O,((p.c+p.s:Nat):Int),by show V.int ((p.c:Int)+(p.s:Int))=_;rw[show((p.c+p.s:Nat):Int)=(p.c:Int)+(p.s:Int) by omega],W,_,O,SqL.of OW,λS2 Cd=>?_⟩;rw[qao () (by rw[F0];omega),show p.c+p.s-p.c=p.s by omega];have s5:=ao Cd (.lst ((((cY rm.2 cn).drop p.c).take p.s).map V.int));show⟨S2,_,O,SqL.of aj,aM,λt ht=>?_⟩;have sb:=sum_b (B:=rm.2+1) () (l:=((cY rm.2 cn).drop p.c).take p.s) (n:=6) (by rw[qQ,uI,F0];omega) λv hv=>qbs r0 cn0 v (uW (yC hv))
  generalize (((cY rm.2 cn).drop p.c).take p.s).sum=x2 at sb⊢;have s6:=s5.trans (ao ht (.tup [.int x1,.int x2]));have mH:af (af H4 S2 (.lst ((((cY rm.2 cn).drop p.c).take p.s).map V.int))) t (.tup [.int x1,.int x2]) t=!.tup [.int x1,.int x2]:=aj;have k6:=k4.trans s6.keep;have jN:=s6 _ _ cr;have OY:Paired (PrAt (af (af H4 S2 (.lst ((((cY rm.2 cn).drop p.c).take p.s).map V.int))) t (.tup [.int x1,.int x2]))) bs zz:=OX.mono λ_ _ z=>s6 _ _ z
  generalize af (af H4 S2 (.lst ((((cY rm.2 cn).drop p.c).take p.s).map V.int))) t (.tup [.int x1,.int x2])=H6 at mH k6 jN OY⊢;have GL:=qN eY;have hi:i<as.length:=(qI.mp ea).1;show⟨L,_,_,O,O,jN,aR (by rw[qA,GL,lz];omega),?_⟩;have tl:=Tups.lst (o:=.lst (bs.map V.ref++[.ref t])) jN;show⟨λb o n e=>by rw[aE n];show k6 b o n e,⟨_,_,O⟩,zz++[(x1,x2)],⟨bs++[t],by rw[aj,qD];rfl,?_⟩,by rw[qG,lz];rfl,λs hs=>?_⟩
  rotate_left
  .rcases rG.mp hs with z | z
   .show zb s z
   .rw[List.mem_singleton.mp z];show⟨sb.1,by show x2<=_;omega⟩
  show(OY.mono λ_ _ z=>tl _ _ z).snoc (tl _ _ mH)
 .ext σ H' ⟨k1,⟨z5,z6,rfl⟩,z,lL,lz,zb⟩;show⟨_,O,q L z H' L0 (λb o e=>k1 _ _ (λz=>by rw[z,L0]at e;cases e) (dh _ _ e)) (by rw[lz,qA,la,lp]) zb lL⟩
def qbG(F:Fun K "aside_span" "aside_span" OU fn fd)(T:bP mg)(U:qj mg)(cg:⋯ 1 "look_at" ["looks", "node", "word"] fz):(~~~0) 2 fn fd ["looks", "room", "aside"] F4:=by
 rcases F.go ["looks", "room", "aside", "wide"] with⟨p,r,m,ls,rm,rfl,lk,hR,hm,cE,q⟩;let⟨_,jO⟩:=U.left;let⟨_,gL⟩:=U.wide;have l13:∀l∈ls,l.length=13:=λl h=>(cE l h).len
 have lv:aB ls m 10=ls[m].getD 10 0:=by unfold aB;rw[qB hm];rfl
 have sd:=(cE _ (rL hm)).side;rw[<-lv]at sd;show⟨_,(ar (sv 3 (cb (sq (by rfl)) T.min lW (a2 (cF cg hr (a3 (pv 0) (pv 2) aO)) (aH Dj (px aF (pv 1) (gi gL)) aw))))
  (ar (ba (tc bq (cF cg hr (a3 (pv 0) (pv 2) aO)) aw) (ax (aG (br (a2 (px aF (pv 1) (gi jO)) (pv 3))))) bj)
  (ax (aG (br (a2 (aH dQ (aH bc (px aF (pv 1) (gi jO)) (px aF (pv 1) (gi gL))) (pv 3)) (pv 3))))))),?_⟩
 show⟨_,O,_,O,p,m,11,_,ls,O,lk,hm,l13,{},Gi,_,O,r,_,_,_,O,O,SqT.of hR,O,_,_,O,O,⟨{},{}⟩,_,_,O,?_⟩;rw[Gj];show⟨_,O,_,O,p,m,10,_,ls,O,lk,hm,l13,{},qbv,O,_,O,?_⟩;rcases sd with e | e
 .rw[qJ (show V.int (aB ls m 10)=V.int 0 by rw[e])];show aY ⟨_,O,r,_,_,_,O,O,SqT.of hR,O,_,O,aM,λt ht=>q t _ ht (ao ht _) ?_⟩;show af H t _ t=_;rw[aj,e,Int.zero_mul,Int.add_zero];rfl
 .rw[qP (show¬V.int (aB ls m 10)=V.int 0 from λz=>by have:=V.int.inj z;omega)];show aW ⟨_,O,r,_,_,_,O,O,SqT.of hR,O,_,O,r,_,_,_,O,O,SqT.of hR,O,_,_,O,O,_,O,_,_,O,O,_,O,aM,λt ht=>q t _ ht (ao ht _) ?_⟩;show af H t _ t=_;rw[aj,e,Int.one_mul];unfold jJ;rw[show rm.1+(rm.2-min (aB ls m 11) (rm.2 / 2))=rm.1+rm.2-min (aB ls m 11) (rm.2 / 2) by omega]
end K32
namespace K32
open L2 Bk Gen Gd Shr
abbrev OZ:=top 85
abbrev O0:=top 83
abbrev O1:=top 84
abbrev O2:=top 82
theorem qbH(F:Fun K "had_below" "had_below" OZ f fd)(T:BnS mg):(~~~0) 1 f fd ["level", "floors", "roofs", "weights", "multiple"] Cb:=by
 rcases F.go ["level", "floors", "roofs", "weights", "multiple", "told", "floor", "roof", "weight"] with⟨lev,M,Bd,f,r,w,F,R,W,rfl,hf,hR,hw,ok,iF,iR,M0,M9,q⟩;show⟨_,(ar (sv 5 (a0 bH))
  (ar (fv (qaC (by rfl) T.zip (a3 (pv 1) (pv 2) (pv 3))) (jp (by rfl) (bv (nv 6) (bv (nv 7) (bv (nv 8) dO))))
  (ax (bX (ap (pv 5) (cb (sq (by rfl)) T.min lW (a2 (cb (mW (by rfl)) T.max eQ (a2 (dH dI (aH tz (aH fK (dH dI (pv 0)) (pv 8)) (pv 4))) (pv 6))) (pv 7)))))))
  (ax (aG (pv 5))))),?_⟩
 show⟨aM,λL hL=>?_⟩;have s1:=ao hL (.lst []);have bg:LI (af H L (.lst [])) L []:=aj;generalize af H L (.lst [])=H1 at s1 bg⊢;have n9:=ok.n;show⟨_,O,_,O,_,O,f,r,w,O,⟨_,SqL.of (s1 _ _ hf)⟩,⟨_,SqL.of (s1 _ _ hR)⟩,⟨_,SqL.of (s1 _ _ hw)⟩,qaE (xs:=F.map V.int) (ys:=R.map V.int) (zs:=W.map V.int) (by rw[qA,qA,ok.lr]) (by rw[qA,qA,ok.lw])
  (λi σ H'=>Same H H'/\(∃z6 z7 z8,σ=[!.int lev,!.ref f,!.ref r,!.ref w,!.int M,!.ref L,z6,z7,z8])/\∃x:TN,LI H' L x/\x.length=i/\InB Bd x) ⟨s1,⟨none,none,none,O⟩,[],bg,O,λv hv=>nomatch hv⟩ ?_ ?_ ?_⟩
 .ext i σ H' hi ⟨s2,_⟩;show⟨SqL.of (s2 _ _ hf),SqL.of (s2 _ _ hR),SqL.of (s2 _ _ hw)⟩
 .rintro i x y z σ H' T' hx hy hz hT ⟨s2,⟨z6,z7,z8,rfl⟩,l,h2,ll,il⟩;let⟨a,ea,rfl⟩:=mB hx;let⟨b,eb,rfl⟩:=mB hy;let⟨c,ec,rfl⟩:=mB hz;have hi:i<F.length:=(qI.mp ea).1;have wi:=ok.w i;rw[at_getD ec 1]at wi;have s3:=s2.trans (ao hT (.tup [.int a,.int b,.int c]));have eW:af H' T' (.tup [.int a,.int b,.int c]) T'=!.tup [.int a,.int b,.int c]:=aj;have h3:LI (af H' T' (.tup [.int a,.int b,.int c])) L l:=ao hT _ _ _ h2;generalize af H' T' (.tup [.int a,.int b,.int c])=H3 at s3 eW h3⊢;show⟨T',_,O,SqT.of eW,O,_,_,O,_,_,O,_,_,O,O,?_⟩;show⟨_,O,.inl ⟨O,_,SqL.of h3⟩,_,O,_,O,_,O,_,_,O,O,.inr ⟨(),()⟩,_,O,_,_,O,O,⟨M0,()⟩,_,O,_,O,_,_,O,_,O,_,_,O,L,_,_,O,O,h3,?_,?_⟩
  .rw[qA,ll];show aR ()
  .show⟨hG s3 hL,⟨_,_,_,O⟩,l++[if b<(if a > -(-lev*c / M)then a else -(-lev*c / M))then b else(if a > -(-lev*c / M)then a else -(-lev*c / M))],?_,by rw[qG,ll];rfl,il.snoc ?_ ?_⟩;show af H3 L _ L=_;rw[aj,qD];rfl
   .have ia:=iF.at ea;have ib:=iR.at eb
    split<;>split<;>omega
   .have ia:=iF.at ea;have ib:=iR.at eb
    split<;>split<;>omega
 .ext σ H' ⟨s2,⟨z6,z7,z8,rfl⟩,l,h2,ll,il⟩;show⟨_,O,q L l H' hL s2 h2 (by rw[ll,qA]) il⟩
theorem qbI(F:Fun K "common_multiple" "common_multiple" O0 f fd):(~~~0) 1 f fd ["weights"] GE:=by
 rcases F.go ["weights", "multiple", "weight", "step"] with⟨w,W,rfl,hw,ok,q⟩;show⟨_,(ar (sv 1 aw)
  (ar (fv (a9 (pv 0)) (nv 2)
  (ar (sv 3 (pv 1))
  (ax (Ai uO (tc iw (aH lH (pv 1) (pv 2)) aw) (ax (av 1 (pv 3) Dd))))))
  (ax (aG (pv 1))))),?_⟩
 show⟨_,O,w,O,⟨_,SqL.of hw⟩,iV (xs:=W.map V.int) (λi σ H'=>H'=H/\∃(M:Int) (z2 z3:Option V),σ=[!.ref w,!.int M,z2,z3]/\0<M/\M∣2520) ⟨O,1,none,none,O,{},⟨2520,O⟩⟩ ?_ ?_ ?_⟩
 .ext i σ H' hi ⟨rfl,_⟩;show SqL.of hw
 .rintro i x σ H' hx ⟨rfl,M,z2,z3,rfl,M0,M9⟩;let⟨c,ec,rfl⟩:=mB hx;have wi:=ok i;rw[at_getD ec 1]at wi;show⟨_,O,λm σ H2=>H2=H'/\∃t:Nat,m=c.toNat-t/\σ=[!.ref w,!.int (M*((t:Int)+1)),!.int c,!.int M]/\∀s:Nat,s<t->M*((s:Int)+1) % c≠0,⟨_,O,0,O,by rw[show M*(((0:Nat):Int)+1)=M by omega];rfl,λs hs=>absurd hs (yO _)⟩,?_⟩;ext m σ H2 ⟨rfl,t,rfl,rfl,ne⟩;have te:=NQ M0 () ne;show⟨_,O,_,O,_,_,O,O,(show 0<c by omega),O,_,O,?_⟩
  by_cases c0:M*((t:Int)+1) % c=0
  .rw[qJ (show V.int (M*((t:Int)+1) % c)=V.int 0 by rw[c0])];show aW ⟨O,M*((t:Int)+1),_,_,O,Int.mul_pos M0 (),qaI M0 M9 (qaJ wi.1 wi.2) ne c0⟩
  .rw[qP (show¬V.int (M*((t:Int)+1) % c)=V.int 0 from λz=>c0 (V.int.inj z))];have O3:∀s:Nat,s<t+1->M*((s:Int)+1) % c≠0:=λs hs=>by
    rcases uL.mp hs with h | h
    .show ne s h
    .rw[h];show c0
   have te':=NQ M0 () O3;show aY ⟨λσ H3=>H3=H2/\σ=[!.ref w,!.int (M*(((t+1:Nat):Int)+1)),!.int c,!.int M],?_,?_⟩
   .ext σ H3 ⟨rfl,rfl⟩;show⟨c.toNat-(t+1),(),O,t+1,O,O,O3⟩
   .show⟨_,O,_,O,_,_,O,O,O,?_⟩;have e:M*((t:Int)+1)+M=M*(((t+1:Nat):Int)+1):=by
     rw[show(((t+1:Nat):Int)+1)=((t:Int)+1)+1 by omega,Int.mul_add M ((t:Int)+1) 1,Int.mul_one]
    rw[<-e];rfl
 .ext σ H' ⟨rfl,M,z2,z3,rfl,M0,M9⟩;show⟨_,O,q M M0 (Int.le_of_dvd {} M9)⟩
def qbJ(F:Fun K "last_level" "last_level" O1 f fd)(T:BnS mg)(GM:⋯ 1 "had_below" ["level", "floors", "roofs", "weights", "multiple"] Cb):(~~~0) 2 f fd ["width", "floors", "roofs", "weights", "multiple"] GF:=by
 rcases F.go ["width", "floors", "roofs", "weights", "multiple", "low", "high", "middle"] with⟨wd,M,Bd,f,r,w,F,R,W,rfl,hf,hR,hw,ok,iF,iR,M0,M9,ne,q⟩;show⟨_,(ar (sv 5 aw)
  (ar (sv 6 (aH fK (cb (pV (by rfl)) T.max eQ (a1 (pv 2))) (pv 4)))
  (ar (Ai uO (tc sj (aH dQ (pv 6) (pv 5)) aw) (ar (sv 7 (aH Dj (aH bc (pv 5) (pv 6)) aw))
  (ax (ba (tc Dk (cb (i7 (by rfl)) T.sum fW (a1 (cF GM hr (aI (pv 7) (aI (pv 1) (a3 (pv 2) (pv 3) (pv 4))))))) (pv 0)) (ax (sv 5 (pv 7))) (ax (sv 6 (pv 7)))))))
  (ax (aG (pv 5)))))),?_⟩
 obtain⟨top,ht,hm⟩:∃top,top∈R/\∀x∈R,x<=top:=N1 ne;show⟨_,O,r,R,top,O,SqL.of hR,ht,hm,_,O,_,_,O,O,.inr ⟨(),()⟩,?_⟩;show⟨λm σ H'=>Same H H'/\∃(lo hi:Int) (z:Option V),σ=[!.int wd,!.ref f,!.ref r,!.ref w,!.int M,!.int lo,!.int hi,z]/\m=(hi-lo).toNat,⟨_,Same.refl H,0,top*M,none,O,O⟩,?_⟩;ext m σ H' ⟨s1,lo,hi,z,rfl,rfl⟩;show⟨_,O,_,O,_,_,O,O,_,_,O,O,_,O,?_⟩;show ca (λc=>?_) (λc=>?_)
 .have c':hi-lo>1:=rH c;show⟨λσ H'=>Same H H'/\∃(xw ci:Int) (z:Option V),σ=[!.int wd,!.ref f,!.ref r,!.ref w,!.int M,!.int xw,!.int ci,z]/\ci-xw<hi-lo,?_,?_⟩
  .ext σ H' ⟨s2,xw,ci,z,rfl,d⟩;show⟨(ci-xw).toNat,(),s2,xw,ci,z,O,O⟩
  show⟨_,O,_,O,_,_,O,O,_,_,O,O,⟨{},{}⟩,?_⟩;show⟨_,O,_,O,_,O,_,O,_,O,_,M,Bd,f,r,w,F,R,W,O,s1 _ _ hf,s1 _ _ hR,s1 _ _ hw,ok,iF,iR,M0,M9,λt x H2 um s2 h2 _ _=>?_⟩;show⟨t,_,O,SqL.of h2,_,O,_,_,O,O,_,O,?_⟩;show ca (λd=>?_) (λd=>?_)
  .show⟨_,O,s1.trans s2,(lo+hi) / 2,hi,_,O,()⟩
  .show⟨_,O,s1.trans s2,lo,(lo+hi) / 2,_,O,()⟩
 .show⟨_,O,q lo H' s1⟩
theorem qbK(F:Fun K "shares" "shares" O2 f fd)(T:BnS mg)(qbL:⋯ 1 "common_multiple" ["weights"] GE)(qbM:⋯ 2 "last_level" ["width", "floors", "roofs", "weights", "multiple"] GF)(GM:⋯ 1 "had_below" ["level", "floors", "roofs", "weights", "multiple"] Cb):(~~~0) 3 f fd ["width", "floors", "roofs", "weights"] GG:=by
 rcases F.go ["width", "floors", "roofs", "weights", "multiple", "level", "told", "left", "place", "weight"] with⟨wd,Bd,f,r,w,F,R,W,rfl,hf,hR,hw,ok,iF,iR,q⟩;show⟨_,(ar (ba (tc JH (cb (i7 (by rfl)) T.sum fW (a1 (pv 1))) (pv 0)) (ax (aG (eP mZ (by rfl) T.list lO (a1 (pv 1))))) bj)
  (ar (ba (tc Dk (cb (i7 (by rfl)) T.sum fW (a1 (pv 2))) (pv 0)) (ax (aG (eP mZ (by rfl) T.list lO (a1 (pv 2))))) bj)
  (ar (sv 4 (cF qbL hr (a1 (pv 3))))
  (ar (sv 5 (cF qbM hr (aI (pv 0) (aI (pv 1) (a3 (pv 2) (pv 3) (pv 4))))))
  (ar (sv 6 (cF GM hr (aI (pv 5) (aI (pv 1) (a3 (pv 2) (pv 3) (pv 4))))))
  (ar (sv 7 (aH dQ (pv 0) (cb (i7 (by rfl)) T.sum fW (a1 (pv 6)))))
  (ar (fv (tG (by rfl) T.enumerate (a1 (pv 3))) (jp (by rfl) (bv (nv 8) (bv (nv 9) dO)))
  (ax (ba (PW.pt (iS (tc sj (pv 7) aw) (iS (tc lI (px aC (pv 6) (pv 8)) (px aC (pv 2) (pv 8))) (jV (tc bq (aH fK (px aC (pv 6) (pv 8)) (pv 4)) (aH fK (pv 5) (pv 9))))))) (ar (SZ (pv 6) (pv 8) qaG aw Dd pA)
  (ax (av 7 aw Ub))) bj)))
  (ax (aG (pv 6)))))))))),?_⟩
 show⟨_,O,f,F,O,SqL.of hf,_,O,_,_,O,O,_,O,?_⟩;show ca (λc=>?_) (λc=>?_)
 .show⟨_,O,f,_,O,.inl (SqL.of hf),λt ht=>q t F _ ht (ao ht _) aj O iF⟩
 have c':¬F.sum≥wd:=λz=>c (qJ z)
 show⟨_,O,r,R,O,SqL.of hR,_,O,_,_,O,O,_,O,?_⟩;show ca (λd=>?_) (λd=>?_)
 .show⟨_,O,r,_,O,.inl (SqL.of hR),λt ht=>q t R _ ht (ao ht _) aj ok.lr iR⟩
 have d':¬R.sum<=wd:=λz=>d (qJ z)
 have ne:R≠[]:=λz=>by
  have l:=ok.lr;rw[z]at l d';have:F=[]:=rK l.symm;rw[this]at c';have e:([]:TN).sum=0:=rfl;omega
 show⟨_,O,w,W,O,hw,ok.w,λM M0 M9=>?_⟩;show⟨_,O,_,O,_,O,_,O,_,O,wd,M,Bd,f,r,w,F,R,W,O,hf,hR,hw,ok,iF,iR,M0,M9,ne,λlev H1 s1=>?_⟩;show⟨_,O,_,O,_,O,_,O,_,O,lev,M,Bd,f,r,w,F,R,W,O,s1 _ _ hf,s1 _ _ hR,s1 _ _ hw,ok,iF,iR,M0,M9,λt x H2 ht s2 h3 lx ix=>?_⟩;have t0:H t=none:=s1.free ht;have aZ:=s1.trans s2;show⟨_,O,_,O,t,_,O,SqL.of h3,_,_,O,O,?_⟩;show⟨_,O,w,O,⟨_,SqL.of (aZ _ _ hw)⟩,ES (xs:=W.map V.int) (λk σ H'=>Same H H'/\(∃(u:Int) (z8 z9:Option V),σ=[!.int wd,!.ref f,!.ref r,!.ref w,!.int M,!.int lev,!.ref t,!.int u,z8,z9])/\∃y:TN,LI H' t y/\y.length=F.length/\InB Bd y) ⟨aZ,⟨_,none,none,O⟩,x,h3,lx,ix⟩ ?_ ?_ ?_⟩
 .ext i σ H' hi ⟨s3,_⟩;show SqL.of (s3 _ _ hw)
 .ext k z σ H' T' hx hT ⟨s3,⟨u,z8,z9,rfl⟩,y,h4,ly,iy⟩;let⟨c,ec,rfl⟩:=mB hx;have hk:k<F.length:=by rw[<-ok.lw];show(qI.mp ec).1
  have wk:=ok.w k;rw[at_getD ec 1]at wk;have s4:=s3.trans (ao hT (.tup [.int (k:Int),.int c]));have eW:af H' T' (.tup [.int (k:Int),.int c]) T'=!.tup [.int (k:Int),.int c]:=aj;have h5:LI (af H' T' (.tup [.int (k:Int),.int c])) t y:=ao hT _ _ _ h4;generalize af H' T' (.tup [.int (k:Int),.int c])=H3 at s4 eW h5⊢;have gy:y[k]?=!y.getD k 0:=by rw[qX,qB (by rw[ly];show hk)];rfl
  have gR:R[k]?=!R.getD k 0:=by rw[qX,qB (by rw[ok.lr];show hk)];rfl
  have gk:(y.map V.int)[k]?=!.int (y.getD k 0):=by
   rw[qK,qX,qB (by rw[ly];show hk)];rfl
  have O4:bD (y.map V.int) (k:Int)=!.int (y.getD k 0):=eG gk;have at2:bD (R.map V.int) (k:Int)=!.int (R.getD k 0):=qaH (by rw[ok.lr];show hk) 0;show⟨T',_,O,SqT.of eW,O,_,_,O,_,_,O,O,?_⟩;show⟨_,O,_,_,O,O,_,O,?_⟩;show ca (λe1=>?_) (λe1=>aW ⟨s4,⟨_,_,_,O⟩,y,h5,ly,iy⟩);show⟨_,O,_,O,t,_,_,_,O,O,SqL.of h5,O4,_,O,_,O,r,_,_,_,O,O,SqL.of (s4 _ _ hR),at2,_,_,O,O,_,O,?_⟩;show ca (λe2=>?_) (λe2=>aW ⟨s4,⟨_,_,_,O⟩,y,h5,ly,iy⟩);show⟨_,O,_,O,t,_,_,_,O,O,SqL.of h5,O4,_,O,_,_,O,O,.inr ⟨(),()⟩,_,O,_,O,_,_,O,O,.inr ⟨(),()⟩,O,_,O,?_⟩;show ca (λe3=>?_) (λe3=>⟨s4,⟨_,_,_,O⟩,y,h5,ly,iy⟩);show⟨_,O,_,O,t,_,k,_,O,O,SqL.of h5,gk,_,_,O,O,t,_,k,k,O,O,h5,?_,?_⟩
  .rw[qA,ly];show FY hk
  .show⟨_,O,_,_,O,O,hG s4 t0,⟨_,_,_,O⟩,y.set k (y.getD k 0+1),?_,by rw[uN,ly],iy.set k ?_ ?_⟩;show af H3 t _ t=_;rw[aj,List.map_set]
   .have i1:=iy.at gy;omega
   .have sX:y.getD k 0<R.getD k 0:=rH e2;have i2:=iR.at gR;omega
 .ext σ H' ⟨s3,⟨u,z8,z9,rfl⟩,y,h4,ly,iy⟩;show⟨_,O,q t y H' t0 s3 h4 ly iy⟩
end K32
namespace K32
open L2 Bk Gen Gd Bd Shr Sp0
abbrev O5:=top 90
abbrev O6:=top 89
theorem qbN(F:Fun K "held_spans" "held_spans" O5 fn fd)(T:bP mg)(U:qj mg)(kH:mg "KINDS_OF_PIECES" = !.ref gH)(KP:∀H:Hp,SqT K H gH (pieceKinds.map V.str))(jd:⋯ 1 "holds" ["book", "node"] l7)(cg:⋯ 1 "look_at" ["looks", "node", "word"] fz)(Ce:⋯ 2 "room_of" ["looks", "spans", "node"] BP)(qbO:⋯ 3 "floors_of" ["looks", "bounds", "held"] (wq cj))(qbP:⋯ 4 "roofs_of" ["looks", "bounds", "held"] (wq fX))(qbQ:⋯ 2 "weights_of" ["looks", "held"] F1)(qbR:⋯ 3 "shares" ["width", "floors", "roofs", "weights"] GG)(qbS:⋯ 1 "one_behind_the_other" ["left", "wides"] F2)(GN:⋯ 2 "cells_of" ["looks", "held"] BQ)(qbT:⋯ 4 "cell_spans" ["room", "columns", "cells"] GI)(qbU:⋯ 2 "aside_span" ["looks", "room", "aside"] F4) :
  (~~~0) 5 fn fd ["book", "looks", "bounds", "spans", "node"] GJ:=by
 rcases F.go ["book", "looks", "bounds", "spans", "node", "kind", "held", "room", "wides"] with⟨M,Bd,B,p,L,S,n,ds,ls,bs,sp,rfl,I,lS,im,hn,cx,hM,sb,q⟩;let⟨_,dM⟩:=U.kind;let⟨_,jO⟩:=U.left;let⟨_,gL⟩:=U.wide;have le:=cx.le;have l13:=cx.l13;have nl:n<ls.length:=by rw[cx.ll];show hn
 have ns:n<sp.length:=by rw[im];show hn
 have rb:∀m,m<ds.length->0<=(fD ls sp m).2/\(fD ls sp m).2<=Bd:=λm hm=>by
  let⟨l,_,ok,lv⟩:=cx.look hm;show OL (by rw[lv];show ok.ins) (sb.at (by rw[im];show hm))
 have rn:=rb n hn;show⟨_,(ar (sv 5 (px aF (px aC (pv 0) (pv 4)) (gi dM)))
  (ar (sv 6 (cF jd hr (a2 (pv 0) (pv 4))))
  (ar (ba (tc Du (pv 5) (gr kH)) (ax (aG (cm ["one"] ["looks", "spans"] [1,3] (a9 (pv 6)) (nv 0) bf (cF Ce hr (a3 (pv 1) (pv 2) aw))))) bj)
  (ar (sv 7 (cF Ce hr (a3 (pv 1) (pv 3) (pv 4))))
  (ar (ba (tc bq (pv 5) aO) (ar (sv 8 (cF qbR hr (aI (px aF (pv 7) (gi gL)) (a3 (cF qbO hr (a3 (pv 1) (pv 2) (pv 6))) (cF qbP hr (a3 (pv 1) (pv 2) (pv 6))) (cF qbQ hr (a2 (pv 1) (pv 6)))))))
  (ax (aG (cF qbS hr (a2 (px aF (pv 7) (gi jO)) (pv 8)))))) bj)
  (ar (ba (tc bq (pv 5) aO) (ax (aG (cF qbT hr (a3 (pv 7) (cF cg hr (a3 (pv 1) (pv 4) aO)) (cF GN hr (a2 (pv 1) (pv 6))))))) bj)
  (ax (aG (cm ["one"] ["room", "looks", "book"] [7,1,0] (a9 (pv 6)) (nv 0) bf (jo (tc bq (px (r:=b8 K) aF (px (r:=cz K) aC (pv 3) (pv 0)) (gi dM)) aO) (cF qbU hr (a3 (pv 2) (pv 1) (pv 0))) (pv 1))))))))))),?_⟩
 let⟨ab,hB,nd⟩:=I.bk;obtain⟨d,ed⟩:∃d,ds[n]?=!d:=⟨_,qB hn⟩;let⟨c,ec,nc⟩:=nd.get ed;let⟨m',s',hc,_⟩:=nc.ex;show⟨_,O,_,O,B,_,_,_,O,O,SqL.of hB,aU ec,c,_,_,_,O,O,SqT.of hc,O,?_⟩;show⟨_,O,_,O,B,n,ds,_,O,⟨ab,hB,nd⟩,(),hn,λK0 H1 hK s1 bM=>?_⟩;have kl:=lZ ds n;have kz:(((ay ds n).map λ(j:Nat)=>(j:Int)).map V.int).length<sizeLine:=by rw[qA,qA];show aR ()
 have kin:∀m∈ay ds n,m<ls.length:=λm hm=>by rw[cx.ll];show dC hm
 have O7:∀m∈ay ds n,m<ls.length/\m<bs.length:=λm hm=>⟨kin m hm,by rw[cx.bl];show dC hm⟩
 dsimp only[a7];show⟨_,O,gH,_,O,.inr (KP _),O,ua _,_,O,?_⟩;rw[if_neg qZ,vy]
 by_cases fF:d.k=.text\/d.k=.head\/d.k=.note
 .rw[qJ fF];show aY ⟨_,O,K0,O,⟨_,SqL.of bM⟩,bw (xs:=((ay ds n).map λ(j:Nat)=>(j:Int)).map V.int) (λi ys ae H'=>Same H1 H'/\(∃z,ae=[z,!.ref p,!.ref S])/\∃as,ys=as.map V.ref/\Paired (PrAt H') as (((ay ds n).map λ_=>fD ls sp 0).take i)) kz ⟨Same.refl _,⟨none,O⟩,[],O,.nil⟩ ?_ ?_ ?_⟩
  .ext i ys ae H' hi ⟨s2,_,as,rfl,pr⟩;show⟨SqL.of (s2 _ _ bM),?_⟩;rw[qA,qN pr,qQ];show qV _ _
  .ext i y ys ae H' hy ⟨s2,⟨z,rfl⟩,as,rfl,pr⟩;let⟨m,em,rfl⟩:=dN hy;have aZ:=s1.trans s2;show⟨_,O,_,O,p,S,0,ls,sp,O,cU aZ I.lk,fZ aZ lS,by rw[cx.ll];show cx.pos,by rw[im];show cx.pos,l13,λt gK ht s3 pt=>?_⟩;show⟨s2.trans s3,⟨_,O⟩,as++[t],by rw[qD];rfl,?_⟩;have e2:((ay ds n).map λ_=>fD ls sp 0)[i]?=!fD ls sp 0:=by rw[qK,em];rfl
   rw[qS,e2];show(pr.mono λ_ _ z=>s3 _ _ z).snoc pt
  .ext ys ae H' ⟨s2,_,as,rfl,pr⟩ D hD;rw[qH (by rw[qA,qA,qA];show qF _)]at pr;show q D _ _ ((s1.trans s2).free hD) ((s1.trans s2).trans (ao hD _)) (qA _) (λs hs=>by let⟨_,_,rfl⟩:=qW.mp hs;have:=rb 0 cx.pos;omega) ⟨as,aj,pr.mono λ_ _ z=>ao hD _ _ _ z⟩
 rw[qP fF];show aW ?_;show⟨_,O,_,O,_,O,p,S,n,ls,sp,O,cU s1 I.lk,fZ s1 lS,nl,ns,l13,λr H2 Cf s2 hR=>?_⟩;have aZ:=s1.trans s2;have eK:KL H2 K0 (ay ds n):=s2 _ _ bM;have kT:=cU aZ I.lk;have O8:=fZ aZ I.bd;dsimp only[a7];show⟨_,O,O,_,O,?_⟩;rw[show decide (V.str d.k.s=V.str (s!"shelf"))=decide (d.k=.shelf)from bY d.k .shelf]
 by_cases hs:d.k=.shelf
 .rw[qJ hs];show aY ⟨_,O,r,_,_,_,O,O,SqT.of hR,O,?_⟩;show⟨_,O,_,O,_,O,p,L,K0,_,ls,bs,O,kT,O8,eK,(),O7,l13,λf H3 hf s3 lf=>?_⟩;show⟨_,O,_,O,_,O,p,L,K0,_,ls,bs,O,cU s3 kT,fZ s3 O8,s3 _ _ eK,(),O7,l13,λg H4 hg s4 lg=>?_⟩;have kU:=s3.trans s4;show⟨_,O,_,O,p,K0,_,ls,O,cU kU kT,kU _ _ eK,(),kin,l13,λv H5 hv s5 lv=>?_⟩;have s25:=kU.trans s5;show⟨_,Bd,f,g,v,_,_,_,O,(s4.trans s5) _ _ lf,s5 _ _ lg,lv,cx.ok n,InB.mono (cx.inF n).1 hM,InB.mono (cx.inF n).2 hM,λx y H6 hx s6 ly O9 iy=>?_⟩;have GO:=s25.trans s6;rw[qA]at O9;show⟨_,O,r,_,_,_,O,O,SqT.of (GO _ _ hR),O,_,O,_,x,y,O,ly,(),λt H7 ht s7 lt=>?_⟩;show q t _ H7 ((aZ.trans GO).free ht) ((aZ.trans GO).trans s7) (by rw[N3];show O9) ((SpB.behind iy).mono ()) lt
 rw[qP hs];show aW ?_;show⟨_,O,O,_,O,?_⟩;rw[show decide (V.str d.k.s=V.str (s!"grid"))=decide (d.k=.grid)from bY d.k .grid]
 by_cases hg:d.k=.grid
 .rw[qJ hg];let⟨l,_,cE,lv⟩:=cx.look hn;have cb:=cE.cols;rw[<-lv]at cb;show aY ⟨_,O,_,O,_,O,p,n,7,_,ls,O,kT,nl,l13,{},Gh,?_⟩;show⟨_,O,_,O,p,K0,_,ls,O,kT,eK,(),kin,cx.lk,λC' H3 hC s3 lC=>?_⟩;show⟨r,C',_,_,_,O,s3 _ _ hR,rn.1,lC,cx.cells n,by rw[wu];omega,cb.1,cb.2,λt z H4 ht s4 lpl zb lt=>?_⟩;show q t _ H4 ((aZ.trans s3).free ht) ((aZ.trans s3).trans s4) (by rw[lpl,wu]) (zb.mono ()) lt
 rw[qP hg];show aW ?_;show⟨_,O,K0,O,⟨_,SqL.of eK⟩,bw (xs:=((ay ds n).map λ(j:Nat)=>(j:Int)).map V.int) (λi ys ae H'=>Same H2 H'/\(∃z,ae=[z,!.ref r,!.ref p,!.ref B])/\∃as,ys=as.map V.ref/\Paired (PrAt H') as (((ay ds n).map (wo ds ls (fD ls sp n))).take i)) kz ⟨Same.refl _,⟨none,O⟩,[],O,.nil⟩ ?_ ?_ ?_⟩
 .ext i ys ae H' hi ⟨s3,_,as,rfl,pr⟩;show⟨SqL.of (s3 _ _ eK),?_⟩;rw[qA,qN pr,qQ];show qV _ _
 .ext i y ys ae H' hy ⟨s3,⟨z,rfl⟩,as,rfl,pr⟩;let⟨m,em,rfl⟩:=dN hy;have hm:=dC (qR em);have dh:=aZ.trans s3;obtain⟨dm,oD⟩:∃dm,ds[m]?=!dm:=⟨_,qB hm⟩;let⟨cm,GP,GQ⟩:=nd.get oD;let⟨_,_,GR,_⟩:=GQ.ex;have e2:((ay ds n).map (wo ds ls (fD ls sp n)))[i]?=!wo ds ls (fD ls sp n) m:=by rw[qK,em];rfl
  have e3:=N4 (ls:=ls) (rm:=fD ls sp n) oD;show⟨_,O,_,O,B,_,_,_,O,O,SqL.of (dh _ _ hB),aU GP,cm,_,_,_,O,O,SqT.of (dh _ _ GR),O,O,_,O,?_⟩;rw[show decide (V.str dm.k.s=V.str (s!"aside"))=decide (dm.k=.aside)from bY dm.k .aside]
  by_cases ha:dm.k=.aside
  .rw[qJ ha];rw[if_pos ha]at e3;show aY ⟨_,O,_,O,_,O,p,r,m,ls,_,O,cU dh I.lk,s3 _ _ hR,by rw[cx.ll];show hm,cx.lk,λt H4 ht s4 pt=>?_⟩;show⟨s3.trans s4,⟨_,O⟩,as++[t],by rw[qD];rfl,?_⟩;rw[qS,e2,e3];show(pr.mono λ_ _ z=>s4 _ _ z).snoc pt
  .rw[qP ha];rw[if_neg ha]at e3;show aW ⟨_,O,s3,⟨_,O⟩,as++[r],by rw[qD];rfl,?_⟩;rw[qS,e2,e3];show pr.snoc (s3 _ _ hR)
 .ext ys ae H' ⟨s3,_,as,rfl,pr⟩ D hD;rw[qH (by rw[qA,qA,qA];show qF _)]at pr;show q D _ _ ((aZ.trans s3).free hD) ((aZ.trans s3).trans (ao hD _)) (qA _) (λs hs=>by
   let⟨m,hm,rfl⟩:=qW.mp hs;obtain⟨dm,oD⟩:∃dm,ds[m]?=!dm:=⟨_,qB (dC hm)⟩;let⟨l,_,ok,lv⟩:=cx.look (dC hm);have hw:=ok.wide;rw[<-lv]at hw;rw[N4 oD]
   split
   .show 0<=jJ ls (fD ls sp n) m/\jJ ls (fD ls sp n) m<=_;unfold jJ;omega
   .omega) ⟨as,aj,pr.mono λ_ _ z=>ao hD _ _ _ z⟩
theorem qbV(F:Fun K "all_spans" "all_spans" O6 fn fd)(T:bP mg)(jd:⋯ 1 "holds" ["book", "node"] l7)(qbW:⋯ 5 "held_spans" ["book", "looks", "bounds", "spans", "node"] GJ):(~~~0) 6 fn fd ["book", "looks", "bounds", "wide"] GK:=by
 rcases F.go ["book", "looks", "bounds", "wide", "spans", "node", "within", "place", "one"] with⟨M,B,p,L,wide,ds,ls,bs,rfl,I,cx,w0,w1,q⟩;have le:=cx.le;show⟨_,(ar (sm 4 ["node"] ["wide"] [3] (a9 (pv 0)) (nv 0) bf (br (a2 aw (pv 1))))
  (ar (fv (r1 T.range (ln T.len (pv 0))) (nv 5)
  (ar (sv 6 (cF qbW hr (aI (pv 0) (aI (pv 1) (a3 (pv 2) (pv 4) (pv 5))))))
  (ax (fv (tG (by rfl) T.enumerate (a1 (cF jd hr (a2 (pv 0) (pv 5))))) (jp (by rfl) (bv (nv 7) (bv (nv 8) dO)))
  (ax (oY (px aC (pv 6) (pv 7)) (rq (pv 4) (pv 8) pA)))))))
  (ax (aG (pv 4))))),?_⟩
 let⟨ab,hB,nd⟩:=I.bk;have dY:ab.length=ds.length:=nd.length;show⟨_,O,B,O,⟨_,SqL.of hB⟩,bw (xs:=ab.map V.ref) (λi ys ae H'=>Same H H'/\(∃z,ae=[z,!.int wide])/\∃as,ys=as.map V.ref/\Paired (PrAt H') as (List.replicate i (0,wide))) (by rw[qA];show aR ()) ⟨Same.refl H,⟨none,O⟩,[],O,.nil⟩ ?_ ?_ ?_⟩
 .ext i ys ae H' hi ⟨s1,_,as,rfl,pr⟩;show⟨SqL.of (s1 _ _ hB),?_⟩;rw[qA,qN pr,rY];show qF _
 .ext i y ys ae H' hy ⟨s1,⟨z,rfl⟩,as,rfl,pr⟩;show⟨_,O,aM,λt ht=>?_⟩;have s2:=ao ht (.tup [.int 0,.int wide]);show⟨s1.trans s2,⟨_,O⟩,as++[t],by rw[qD];rfl,?_⟩;rw[List.replicate_succ'];show(pr.mono λ_ _ z=>s2 _ _ z).snoc aj
 ext ys ae H1 ⟨s1,_,as,rfl,pr⟩ S hS;rw[qA,dY]at pr;have s2:=ao hS (.lst (as.map V.ref));have lS:LstAt PrAt (af H1 S (.lst (as.map V.ref))) S (List.replicate ds.length (0,wide)):=⟨as,aj,pr.mono λ_ _ z=>s2 _ _ z⟩;have aZ:=s1.trans s2;have S0:H S=none:=s1.free hS;generalize af H1 S (.lst (as.map V.ref))=H2 at lS aZ⊢;clear s2 hS s1 pr as;have el:(((ab.map V.ref).length:Nat):Int)=ds.length:=by rw[qA,dY]
 show⟨_,O,B,_,O,.inl (SqL.of (aZ _ _ hB)),_,O,(),(),gg (λk σ H'=>Same H H'/\(∃sp,LstAt PrAt H' S sp/\sp.length=ds.length/\SpB (gW M k) sp)/\∃z5 z6 z7 z8,σ=[!.ref B,!.ref p,!.ref L,!.int wide,!.ref S,z5,z6,z7,z8]) ⟨aZ,⟨_,lS,rY,λs hs=>by rw[u9 hs];show⟨w0,w1⟩⟩,none,none,none,none,O⟩ ?_ ?_⟩
 .rintro n σ H3 hn0 ⟨dh,⟨sp,xx,im,sb⟩,z5,z6,z7,z8,rfl⟩;have hn:n<ds.length:=()
  rw[show(0:Int)+(n:Int)=(n:Int)from uC _];show⟨_,O,_,O,_,O,_,O,_,O,M,gW M n,B,p,L,S,n,ds,ls,bs,_,O,I.same dh,xx,im,hn,cx,GH cx.m4 n,sb,λt zs H4 ht s4 hl zb lt=>?_⟩;have ii:=dh.trans s4;have O':=fZ s4 xx;let⟨ab4,F7,EB⟩:=(I.same ii).bk;show⟨_,O,_,O,B,n,ds,_,O,⟨ab4,F7,EB⟩,(),hn,λK0 H5 hK s5 Pa=>?_⟩;have gM:=ii.trans s5;let⟨ts,hts,prt⟩:=fZ s5 lt;have Pb:=fZ s5 O';have nS:∀{b:Addr} {o:HO},H b=!o->b≠S:=λe z=>by rw[z,S0]at e;cases e
  have KS:K0≠S:=λz=>by
   let⟨_,e,_⟩:=O';rw[z,e]at hK;cases hK
  have tS:t≠S:=λz=>by
   let⟨_,e,_⟩:=xx;rw[z,e]at ht;cases ht
  show⟨K0,O,⟨_,SqL.of Pa⟩,ES (xs:=((ay ds n).map λ(j:Nat)=>(j:Int)).map V.int) (λi σ H'=>Keep1 S H5 H'/\LstAt PrAt H' S (putAll sp ((ay ds n).take i) (zs.take i))/\∃z7 z8,σ=[!.ref B,!.ref p,!.ref L,!.int wide,!.ref S,!.int (n:Int),!.ref t,z7,z8]) ⟨KeepN.refl,Pb,_,_,O⟩ ?_ ?_ ?_⟩
  .ext i σ H' hi ⟨k1,_⟩;show SqL.of (k1 _ _ KS Pa)
  .ext i y σ H' T' hy hT ⟨k1,⟨as,gJ,dZ⟩,z7,z8,rfl⟩;let⟨m,em,rfl⟩:=dN hy;have hm:=dC (qR em);have hi:i<(ay ds n).length:=(qI.mp em).1;have Pc:i<zs.length:=by rw[hl];show hi
   let⟨b,eb,hb⟩:=fY prt (qB Pc);have st:=ao hT (.tup [.int (i:Int),.int (m:Int)]);have kt:=k1.trans st.keep;have kQ:=st _ _ gJ;have ju:Paired (PrAt (af H' T' (.tup [.int (i:Int),.int (m:Int)]))) as (putAll sp ((ay ds n).take i) (zs.take i)):=dZ.mono λ_ _ z=>st _ _ z
   show⟨T',_,O,SqT.of aj,O,_,_,O,_,_,O,O,?_⟩;generalize af H' T' (.tup [.int (i:Int),.int (m:Int)])=H6 at kt kQ ju⊢;have bS:b≠S:=λz=>by
    let⟨_,e,_⟩:=Pb;have hb':H5 b=!.tup _:=hb;rw[z,e]at hb';cases hb'
   have GD:PrAt H6 b zs[i]:=kt _ _ bS hb;have lse:(as.map V.ref).length=ds.length:=by rw[qA,qN dZ,FZ,im]
   show⟨_,O,_,O,t,_,_,_,O,O,SqL.of (kt _ _ tS hts),aU eb,_,O,_,O,S,_,_,m,O,O,kQ,by rw[lse];show FY hm,?_⟩;have tl:=Tups.lst (o:=.lst ((as.map V.ref).set m (.ref b))) kQ;show⟨λc o nn e=>by rw[aE nn];show kt c o nn e,⟨as.set m b,by rw[aj,List.map_set],?_⟩,_,_,O⟩;have e1:(ay ds n).take (i+1)=(ay ds n).take i++[m]:=by rw[qS,em];rfl
   have e2:zs.take (i+1)=zs.take i++[zs[i]]:=by rw[qS,qB Pc];rfl
   rw[e1,e2,putAll_snoc (by rw[qQ,qQ,hl])];show Paired.set (ju.mono λ_ _ z=>tl _ _ z) (tl _ _ GD) m
  .ext σ H' ⟨k1,Pd,z7,z8,rfl⟩;rw[qA,qA,x8,qH ()]at Pd;show⟨λb o e=>k1 _ _ (nS e) (gM _ _ e),⟨_,Pd,by rw[FZ,im],SpB.put (sb.mono (by show gW M n<=6*gW M n+6;have:=GH cx.m4 n;have:=cx.m4;omega)) zb⟩,_,_,_,_,O⟩
 .ext σ H3 ⟨dh,⟨sp,xx,im,sb⟩,z5,z6,z7,z8,rfl⟩;have en:(((ab.map V.ref).length:Nat):Int).toNat=ds.length:=()
  rw[en]at sb;show⟨_,O,q S sp H3 S0 dh xx im sb⟩
end K32
namespace Ins
open L2 Bk Gen Gd Bd Shr Sp0
def bZ(ds:List Nd)(e:Int)(n:Nat):TM:=(List.range n).filter λj=>decide (ds[j]?.map Nd.e=!e)
def cG(ds:List Nd)(m:Nat):Bool:=decide (ds[m]?.map Nd.k=!Kd.aside)
def dF(ds:List Nd)(n:Nat):Option Nat:=match ds[n]? with
 | some d=>if d.k=.text then(bZ ds d.e n).getLast?.filter (cG ds)else none
 | none=>none
noncomputable def fG(ls:TB)(hs:Nat->Int)(cols:Nat)(ks:TM):List (Nat×Int) :=
 (ks.zip (dg cols (bG ls ks))).map λx=>(x.1,((cJ ((dg cols (bG ls ks)).zip (ks.map hs)) (many (dg cols (bG ls ks)))).take x.2.r).sum)
def fH(ds:List Nd)(ls:TB)(hs:Nat->Int)(acc:List (Nat×Int)×Int)(m:Nat):List (Nat×Int)×Int :=
 match dF ds m with
 | none=>(acc.1++[(m,acc.2+if acc.1=[]then 0 else aB ls m 2)],acc.2+(if acc.1=[]then 0 else aB ls m 2)+hs m)
 | some a=>(acc.1++[(a,acc.2+if acc.1=[]then 0 else aB ls m 2),(m,acc.2+if acc.1=[]then 0 else aB ls m 2)],acc.2+(if acc.1=[]then 0 else aB ls m 2)+max (hs a) (hs m))
def eZ(ds:List Nd)(ls:TB)(hs:Nat->Int)(ks:TM):List (Nat×Int)×Int:=(ks.filter λm=>(Bool.not (cG ds m))).foldl (fH ds ls hs) ([],0)
noncomputable def bB(ds:List Nd)(ls:TB)(hs:Nat->Int)(n:Nat):List (Nat×Int) :=
 match ds[n]?.map Nd.k with
 | some .text | some .head | some .note=>[]
 | some .shelf=>(ay ds n).map λm=>(m,0)
 | some .grid=>fG ls hs (aB ls n 7).toNat (ay ds n)
 | _=>(eZ ds ls hs (ay ds n)).1
def Pe{n e:Nat}(h:ds[n]?=!d)(he:d.e=(e:Int)):∃r,ay ds e=bZ ds e n++n::r:=by
 have hn:n<ds.length:=(qI.mp h).1;show⟨((List.range (ds.length-n-1)).map (n+1 + ·)).filter λj=>decide (ds[j]?.map Nd.e=!(e:Int)),?_⟩;have e1:List.range ds.length=List.range n++n::(List.range (ds.length-n-1)).map (n+1 + ·):=by
  have:ds.length=n+(1+(ds.length-n-1)):=()
  conv=>lhs;rw[this,List.range_add,List.range_add]
  rw[qD,xH];simp[Function.comp_def,Nat.add_assoc]
 unfold ay bZ;rw[e1,rT,vF,if_pos (by rw[h];show qJ (xC some he))]
def xy{e:Int}{n m:Nat}(h:m∈bZ ds e n):m<n:=xF.mp (xL.mp h).1
theorem Pf{n a:Nat}(h:dF ds n=!a):∃d,ds[n]?=!d/\d.k=.text/\(bZ ds d.e n).getLast?=!a/\cG ds a=true:=by
 unfold dF at h;cases e:ds[n]? with
 | none=>rw[e]at h;cases h
 | some d =>
   rw[e]at h
   simp only at h
   by_cases hk:d.k=.text
   · rw[if_pos hk]at h
     let⟨h1,h2⟩:=Option.filter_eq_some_iff.mp h
     show⟨d,O,hk,h1,h2⟩
   · rw[if_neg hk]at h;cases h
def GS{ls:TB}{hs:Nat->Int}{ks:TM}{m:Nat}:eZ ds ls hs (ks++[m])=if cG ds m=true then eZ ds ls hs ks else fH ds ls hs (eZ ds ls hs ks) m:=by
 unfold eZ;rw[rT,List.foldl_append];cases h:cG ds m<;>simp[h]
theorem GT{ls:TB}{hs:Nat->Int}{e:Nat}:∀k,k<=(ay ds e).length->((eZ ds ls hs ((ay ds e).take k)).1.map Prod.fst).Sublist ((ay ds e).take k)
 | 0,_=>by simp[eZ]
 | k + 1, hk => by
   have ih:=GT (ds:=ds) (ls:=ls) (hs:=hs) (e:=e) k ()
   obtain⟨m,em⟩:∃m,(ay ds e)[k]?=!m:=⟨_,qB ()⟩
   have et:(ay ds e).take (k+1)=(ay ds e).take k++[m]:=by rw[qS,em];rfl
   rw[et,GS]
   by_cases ha:cG ds m=true
   · rw[if_pos ha]
     show ih.trans (List.sublist_append_left _ _)
   · rw[if_neg ha]
     unfold fH
     cases hb:dF ds m with
     | none =>
       change (((eZ ds ls hs ((ay ds e).take k)).1++[(m,_)]).map Prod.fst).Sublist _
       rw[qD]
       show ih.append (List.Sublist.refl _)
     | some a =>
       let⟨d,ed,_,hl,hA⟩:=Pf hb
       let⟨d',qk,he⟩:=Bh (qR em)
       rw[ed]at qk
       cases qk
       let⟨r,er⟩:=Pe ed he
       have hm:m∉bZ ds e m:=λz=>rP _ (xy z)
       have nd:(ay ds e).Nodup:=N2 e
       have ek:k=(bZ ds e m).length:=by
         have h2:(ay ds e)[(bZ ds e m).length]?=!m:=by rw[er,rJ (qF _),Nat.sub_self];rfl
         show(List.getElem?_inj (qI.mp em).1 nd).mp (em.trans h2.symm)
       have ta:(ay ds e).take k=bZ ds e m:=by rw[er,ek,List.take_left'];rfl
       rw[he]at hl
       obtain⟨ys,ey⟩:∃ys,bZ ds e m=ys++[a]:=List.getLast?_eq_some_iff.mp hl
       have k1:k=ys.length+1:=by rw[ek,ey,qG];rfl
       have ty:(ay ds e).take ys.length=ys:=by
         have:(ay ds e).take ys.length=((ay ds e).take k).take ys.length:=by rw[List.take_take,yW ()]
         rw[this,ta,ey,List.take_left']
         rfl
       have gt:=GT (ds:=ds) (ls:=ls) (hs:=hs) (e:=e) ys.length ()
       change (((eZ ds ls hs ((ay ds e).take k)).1++[(a,_),(m,_)]).map Prod.fst).Sublist _
       rw[ta,ey,GS,if_pos hA,qD]
       rw[ty]at gt
       have:=gt.append (List.Sublist.refl [a,m])
       simpa using this
theorem Pg{α β:Type}:∀{l:List α} {m:List β},((l.zip m).map Prod.fst).Sublist l
 | [],_=>∅
 | _::_,[]=>∅
 | x :: l, y :: m => by
   rw[List.zip_cons_cons,xO]
   show List.Sublist.cons_cons _ Pg
def Cg{ls:TB}{hs:Nat->Int}{n:Nat}:((bB ds ls hs n).map Prod.fst).Sublist (ay ds n):=by
 unfold bB
 split
 .show List.nil_sublist _
 .show List.nil_sublist _
 .show List.nil_sublist _
 .rw[xH];show((ay ds n).map λm=>m).Sublist _;rw[List.map_id'];show List.Sublist.refl _
 .unfold fG;rw[xH];have:((ay ds n).zip (dg (aB ls n 7).toNat (bG ls (ay ds n)))).map (Prod.fst∘λx=>(x.1,((cJ ((dg (aB ls n 7).toNat (bG ls (ay ds n))).zip ((ay ds n).map hs)) (many (dg (aB ls n 7).toNat (bG ls (ay ds n))))).take x.2.r).sum))=((ay ds n).zip (dg (aB ls n 7).toNat (bG ls (ay ds n)))).map Prod.fst:=rfl;rw[this];show Pg
 .have:=GT (ds:=ds) (ls:=ls) (hs:=hs) (e:=n) _ (qF _)
  rwa [x8]at this
section
variable(box:Nat->Int->List Int)(tops:Nat->List (Nat×Int))
def put(T:Nat->Option Int)(t:Int)(xs:List (Nat×Int)):Nat->Option Int:=xs.foldl (λT x=>λj=>if j=x.1 then !t+x.2else T j) T
def stepI(st:List (TN)×(Nat->Option Int))(i:Nat):List (TN)×(Nat->Option Int):=match st.2 i with
 | none=>st
 | some t=>(st.1++[box i t],put st.2 t (tops i))
def dG:Nat->Nat->Int->List (TN)
 | 0,_,_=>[]
 | f+1,n,t=>box n t::(tops n).flatMap λx=>dG f x.1 (t+x.2)
def io(f:Nat)(T:Nat->Option Int)(r:Nat):TB:=match T r with
 | none=>[]
 | some t=>dG box tops f r t
end
section
variable{box:Nat->Int->List Int}{tops:Nat->List (Nat×Int)}{ds:List Nd}
theorem ql{t:Int}:∀{xs:List (Nat×Int)} {T:Nat->Option Int} {j:Nat},j∉xs.map Prod.fst->put T t xs j=T j
 | [],_,_,_=>rfl
 | x :: xs, T, j, h => by
   show put (λj=>if j=x.1 then !t+x.2else T j) t xs j=T j
   rw[ql (xs:=xs) λz=>h (qU _ z),if_neg λz=>h (by rw[z];show rB)]
theorem GU{f:Nat}{t:Int}:∀{ks:TM} {xs:List (Nat×Int)} {T:Nat->Option Int},ks.Nodup->(xs.map Prod.fst).Sublist ks->(∀r∈ks,T r=none)->ks.flatMap (io box tops f (put T t xs))=xs.flatMap λx=>dG box tops f x.1 (t+x.2)
 | [], xs, T, _, sb, _ => by
   have:xs=[]:=List.map_eq_nil_iff.mp (List.sublist_nil.mp sb)
   rw[this]
   rfl
 | a :: ks, xs, T, nd, sb, h => by
   let⟨na,Ph⟩:=yV.mp nd
   by_cases ha:a∈xs.map Prod.fst
   · obtain⟨x,i6,rfl⟩:∃x i6,xs=x::i6:=by
       cases xs with
       | nil=>cases ha
       | cons x i6=>show⟨x,i6,O⟩
     rw[xO]at sb
     have e:x.1=a:=by
       cases sb with
       | cons _ jP =>
         rw[xO]at ha
         show absurd (jP.subset ha) na
       | cons_cons _ jP=>rfl
     subst e
     have jP:(i6.map Prod.fst).Sublist ks:=List.cons_sublist_cons.mp sb
     have nx:x.1∉i6.map Prod.fst:=λz=>na (jP.subset z)
     have ih:=GU (f:=f) (t:=t) (T:=λj=>if j=x.1 then !t+x.2else T j) Ph jP λr hr=>by
       rw[if_neg λz=>na (by rw[<-z];show hr)]
       show h r (qU _ hr)
     rw[List.flatMap_cons,List.flatMap_cons]
     have e1:io box tops f (put T t (x::i6)) x.1=dG box tops f x.1 (t+x.2):=by
       unfold io
       have:put T t (x::i6) x.1=!t+x.2:=by
         show put (λj=>if j=x.1 then !t+x.2else T j) t i6 x.1=_
         rw[ql nx,if_pos O]
       rw[this]
     rw[e1]
     show xC _ ih
   · have jP:(xs.map Prod.fst).Sublist ks:=by
       generalize xs.map Prod.fst=ys at sb ha
       cases sb with
       | cons _ jP=>show jP
       | cons_cons _ jP=>show absurd rB ha
     rw[List.flatMap_cons]
     have e1:io box tops f (put T t xs) a=[]:=by
       unfold io
       rw[ql ha,h a rB]
     rw[e1,vI]
     show GU Ph jP λr hr=>h r (qU _ hr)
def GV{bF:TB}{T:Nat->Option Int}{i:Nat}(h:T i=none):stepI box tops (bF,T) i=(bF,T):=by
 simp only[stepI,h]
def Pi{bF:TB}{T:Nat->Option Int}{i:Nat}{t:Int}(h:T i=!t):stepI box tops (bF,T) i=(bF++[box i t],put T t (tops i)):=by
 simp only[stepI,h]
theorem GW{T:Nat->Option Int}:∀{l:TM} {bF:TB},(∀j∈l,T j=none)->l.foldl (stepI box tops) (bF,T)=(bF,T)
 | [],_,_=>rfl
 | j :: l, bF, h => by
   rw[xE]
   have:stepI box tops (bF,T) j=(bF,T):=GV (h j rB)
   rw[this]
   show GW λi hi=>h i (qU _ hi)
def oE(ds:List Nd)(e j:Nat):Bool:=decide (ds[j]?.map Nd.e=!(e:Int))
def mI(ds:List Nd)(i len:Nat):=∀(j:Nat) (d:Nd),i+len<=j->ds[j]?=!d->d.e<(i:Int)\/((i+len:Nat):Int)<=d.e
def filter_none{p:Nat->Bool}{l:TM}(h:∀j∈l,p j=false):l.filter p=[]:=List.filter_eq_nil_iff.mpr λj hj=>by rw[h j hj];simp
def qbX{i len:Nat}(bh:Behind ds)(sh:mI ds i (1+len))(hl:i+1+len<=ds.length):ay ds i=(List.range' (i+1) len).filter (oE ds i):=by
 have e:List.range ds.length=List.range' 0 (i+1)++(List.range' (i+1) len++List.range' (i+1+len) (ds.length-(i+1+len))):=by
  have h2:=List.range'_append_1 (s:=i+1) (m:=len) (n:=ds.length-(i+1+len));have h3:=List.range'_append_1 (s:=0) (m:=i+1) (n:=len+(ds.length-(i+1+len)));rw[h2,List.range_eq_range'];rw[Nat.zero_add]at h3;rw[h3]
  congr 1
  omega
 unfold ay;rw[e,rT,rT,filter_none (l:=List.range' 0 (i+1)) λj hj=>?_,filter_none (l:=List.range' (i+1+len) _) λj hj=>?_,vI,rQ]
 .rfl
 .let⟨h1,h2⟩:=List.mem_range'_1.mp hj;have ed:ds[j]?=!ds[j]:=qB ();rw[ed];show qP λz=>?_
  have z:=rD z;rcases sh j _ () ed with h | h<;>omega
 .let⟨h1,h2⟩:=List.mem_range'_1.mp hj;have ed:ds[j]?=!ds[j]:=qB ();rw[ed];show qP λz=>?_
  have z:=rD z;have:=bh j _ ed;omega
def GX(box:Nat->Int->List Int)(tops:Nat->List (Nat×Int))(ds:List Nd)(e i len f:Nat):=∀(bF:TB) (T:Nat->Option Int),(∀j,i<=j->j<i+len->T j≠none->oE ds e j=true) ->
 ∃T',(List.range' i len).foldl (stepI box tops) (bF,T)=(bF++((List.range' i len).filter (oE ds e)).flatMap (io box tops f T),T')/\∀j,(j<i\/i+len<=j)->T' j=T j
def GY{α β:Type}{g h:α->List β}:∀{l:List α},(∀x∈l,g x=h x)->l.flatMap g=l.flatMap h
 | [],_=>rfl
 | x::l,q=>by rw[List.flatMap_cons,List.flatMap_cons,q x rB,GY λy hy=>q y (qU _ hy)]
theorem Pj{i len f:Nat}(bh:Behind ds)(ts:∀n,((tops n).map Prod.fst).Sublist (ay ds n))(sh:mI ds i (1+len))(hl:i+1+len<=ds.length)(fo:GX box tops ds i (i+1) len f)(bF:TB)(T:Nat->Option Int)(hT:∀j,i<j->j<i+1+len->T j=none) :
  ∃T',(List.range' i (1+len)).foldl (stepI box tops) (bF,T)=(bF++io box tops (f+1) T i,T')/\∀j,(j<i\/i+(1+len)<=j)->T' j=T j:=by
 have er:List.range' i (1+len)=i::List.range' (i+1) len:=by rw[Nat.add_comm 1 len,List.range'_succ]
 rw[er,xE];cases ht:T i with
 | none =>
   have e1:stepI box tops (bF,T) i=(bF,T):=GV ht
   show⟨T,?_,λj _=>rfl⟩
   rw[e1,GW λj hj=>by let⟨h1,h2⟩:=List.mem_range'_1.mp hj;show hT j () ()]
   unfold io
   rw[ht,rQ]
 | some t =>
   have e1:stepI box tops (bF,T) i=(bF++[box i t],put T t (tops i)):=Pi ht
   have ki:=qbX bh sh hl
   have Pk:∀j,j∈(tops i).map Prod.fst->i<j/\j<i+1+len/\oE ds i j=true:=λj hj=>by
     have:=(ts i).subset hj
     rw[ki]at this
     let⟨h1,h2⟩:=xL.mp this
     let⟨h3,h4⟩:=List.mem_range'_1.mp h1
     show⟨(),(),h2⟩
   let⟨T',e2,out⟩:=fo (bF++[box i t]) (put T t (tops i)) λj h1 h2 h3=>by
     by_cases hj:j∈(tops i).map Prod.fst
     · show(Pk j hj).2.2
     · show absurd ((ql hj).trans (hT j () ())) h3
   show⟨T',?_,λj hj=>?_⟩
   · rw[e1,e2,<-ki,GU (N2 i) (ts i) λr hr=>by
       rw[ki]at hr
       let⟨h3,h4⟩:=List.mem_range'_1.mp (xL.mp hr).1
       show hT r () ()]
     unfold io
     rw[ht,rZ]
     rfl
   · rw[out j ()]
     show ql λz=>by have:=Pk j z;omega
def Sub(box:Nat->Int->List Int)(tops:Nat->List (Nat×Int))(ds:List Nd)(n:Nat):=∃len,mI ds n (1+len)/\n+1+len<=ds.length/\GX box tops ds n (n+1) len 7
theorem qbY{e i lv:Nat}(bh:Behind ds)(ts:∀n,((tops n).map Prod.fst).Sublist (ay ds n))(x:Forest e i lv l ks):e<i->(∀k d,l[k]?=!d->ds[i+k]?=!d)->mI ds i l.length->(∀f,7<=lv+f->GX box tops ds e i l.length f)/\∀k,k<l.length->Sub box tops ds (i+k):=by
 induction x with
 | nil =>
   intro _ _ _
   show⟨λf _ bF T _=>⟨T,∅,λj _=>rfl⟩,λk hk=>absurd hk (yO _)⟩
 | @cons e i lv d sub rest ks bV h1 h2 h3 f1 h4 f2 js gt =>
   intro he hp hs
   have A:=f1.all ()
   have B:=f2.all ()
   have i9:∀k c,sub[k]?=!c->ds[i+1+k]?=!c:=λk c hc=>by
     have gx:k<sub.length:=(qI.mp hc).1
     have:=hp (k+1) c (by rw[rN,rW gx];show hc)
     rw[show i+1+k=i+(k+1) by omega];show this
   have fJ:∀k c,rest[k]?=!c->ds[i+1+sub.length+k]?=!c:=λk c hc=>by
     have:=hp (sub.length+k+1) c (by rw[rN,rJ ()];rw[show sub.length+k-sub.length=k by omega];show hc)
     rw[show i+1+sub.length+k=i+(sub.length+k+1) by omega];show this
   have ll:(d::(sub++rest)).length=1+sub.length+rest.length:=by rw[rC,qG];omega
   rw[ll]at hs⊢
   have tM:∀j c,i+1<=j->j<i+1+sub.length->ds[j]?=!c->(i:Int)<=c.e/\c.e<(i+1+sub.length:Nat):=λj c a b hc=>by
     obtain⟨c',ec⟩:∃c',sub[j-(i+1)]?=!c':=⟨_,qB ()⟩
     have q:=i9 _ _ ec
     rw[show i+1+(j-(i+1))=j by omega,hc]at q
     cases q
     rcases A.el c (qR ec)with z | z<;>omega
   have el2:∀j c,i+1+sub.length<=j->j<i+1+sub.length+rest.length->ds[j]?=!c->c.e=(e:Int)\/((i+1+sub.length:Nat):Int)<=c.e/\c.e<(i+1+sub.length+rest.length:Nat):=λj c a b hc=>by
     obtain⟨c',ec⟩:∃c',rest[j-(i+1+sub.length)]?=!c':=⟨_,qB ()⟩
     have q:=fJ _ _ ec
     rw[show i+1+sub.length+(j-(i+1+sub.length))=j by omega,hc]at q
     cases q
     rcases B.el c (qR ec)with z | z
     · show .inl z
     · right;omega
   have GZ:mI ds i (1+sub.length):=λj c a hc=>by
     by_cases hj:j<i+1+sub.length+rest.length
     · rcases el2 j c () hj hc with z | z<;>omega
     · rcases hs j c () hc with z | z<;>omega
   have He:mI ds (i+1) sub.length:=λj c a hc=>by
     rcases GZ j c () hc with z | z<;>omega
   have sh2:mI ds (i+1+sub.length) rest.length:=λj c a hc=>by
     rcases hs j c () hc with z | z<;>omega
   have len:i+1+sub.length<=ds.length:=by
     cases hz:sub.length with
     | zero =>
       have:=hp 0 d O
       have:=(qI.mp this).1
       omega
     | succ k =>
       obtain⟨c,ec⟩:∃c,sub[k]?=!c:=⟨_,qB ()⟩
       have:=(qI.mp (i9 k c ec)).1
       omega
   let⟨Ci,fa1⟩:=js () i9 He
   let⟨Hf,fa2⟩:=gt () fJ sh2
   show⟨λf hf bF T hT=>?_,λk hk=>?_⟩
   rotate_left
   · cases k with
     | zero=>show⟨sub.length,GZ,len,Ci 7 ()⟩
     | succ k =>
       by_cases gx:k<sub.length
       · rw[show i+(k+1)=i+1+k by omega]
         show fa1 k gx
       · have:=fa2 (k-sub.length) ()
         rw[show i+1+sub.length+(k-sub.length)=i+(k+1) by omega]at this
         show this
   obtain⟨g,rfl⟩:∃g,f=g+1:=⟨f-1,()⟩
   have Ci:=Ci g ()
   have Hf:=Hf (g+1) hf
   have FN:∀j,i<j->j<i+1+sub.length->T j=none:=λj a b=>by
     cases hj:T j with
     | none=>rfl
     | some v =>
       have q:=rH (hT j () () (by rw[hj];simp))
       have ed:ds[j]?=!ds[j]:=qB ()
       rw[ed]at q
       have q:ds[j].e=(e:Int):=rD q
       have:=tM j _ () b ed
       omega
   let⟨T1,e1,o1⟩:=Pj bh ts GZ len Ci bF T FN
   let⟨T2,e2,o2⟩:=Hf (bF++io box tops (g+1) T i) T1 λj a b z=>by
     rw[o1 j (.inr ())]at z
     show hT j () () z
   have er:List.range' i (1+sub.length+rest.length)=List.range' i (1+sub.length)++List.range' (i+1+sub.length) rest.length:=by
     rw[<-List.range'_append_1,Nat.add_assoc i 1]
   have ef:(List.range' i (1+sub.length)).filter (oE ds e)=[i]:=by
     rw[Nat.add_comm 1,List.range'_succ,vF,if_pos (by unfold oE;rw[show ds[i]?=!d from hp 0 d O];show qJ (xC some h1)),filter_none λj hj=>?_]
     let⟨a,b⟩:=List.mem_range'_1.mp hj
     have ed:ds[j]?=!ds[j]:=qB ()
     unfold oE
     rw[ed]
     show qP λz=>?_
     have z:ds[j].e=(e:Int):=rD z
     have:=tM j _ () () ed
     omega
   show⟨T2,?_,λj hj=>?_⟩
   · rw[er,List.foldl_append,e1,e2,rT,ef,List.flatMap_append,List.flatMap_singleton,rZ]
     congr 2
     congr 1
     show GY λr hr=>?_
     let⟨a,b⟩:=List.mem_range'_1.mp (xL.mp hr).1
     unfold io
     rw[o1 r (.inr ())]
   · rw[o2 j (),o1 j ()]
theorem Pm(b:Book ds)(ts:∀n,((tops n).map Prod.fst).Sublist (ay ds n)){n:Nat}(hn:n<ds.length)(t:Int) :
  ((List.range' n (ds.length-n)).foldl (stepI box tops) ([],λj=>if j=n then !t else none)).1=dG box tops 8 n t:=by
 have bh:=Bt b;have sub:Sub box tops ds n:=by
  let⟨d0,sub,ks,rfl,e0,k0,f,hh⟩:=b.tree;have He:mI (d0::sub) 1 sub.length:=λj d a hd=>by
   have:=(qI.mp hd).1;rw[rC]at this;omega
  let⟨h1,h2⟩:=qbY bh ts f {} (λk d hd=>by rw[Nat.add_comm,rN];show hd) He;cases n with
  | zero =>
    show⟨sub.length,λj d a hd=>?_,by rw[rC];omega,h1 7 {}⟩
    have:=(qI.mp hd).1
    rw[rC]at this
    omega
  | succ k =>
    have:=h2 k (by rw[rC]at hn;omega)
    rw[Nat.add_comm]at this
    show this
 let⟨len,sh,hl,fo⟩:=sub;let⟨T',e,out⟩:=Pj bh ts sh hl fo [] (λj=>if j=n then !t else none) λj a _=>if_neg ()
 have er:List.range' n (ds.length-n)=List.range' n (1+len)++List.range' (n+(1+len)) (ds.length-n-(1+len)):=by
  rw[List.range'_append_1]
  congr 1
  omega
 rw[er,List.foldl_append,e,GW λj hj=>?_]
 .show[]++io box tops 8 _ n=_;simp[io]
 .let⟨a,_⟩:=List.mem_range'_1.mp hj;rw[out j (.inr a)];show if_neg ()
def Dp(ds:List Nd):Nat->Nat->Prop
 | 0,_=>False
 | f+1,n=>∀m∈ay ds n,Dp ds f m
theorem qbZ{n l:Nat}(h:Lev ds n l):∀{k:Nat},Lev ds n k->l=k:=by
 induction h with
 | top e h =>
   intro k h'
   cases h' with
   | top _ _=>rfl
   | up e' h1 h2 h3=>rw[e]at e';cases e';omega
 | up e h1 h2 _ ih =>
   intro k h'
   cases h' with
   | top e' h=>rw[e]at e';cases e';omega
   | up e' h1' qm h3 =>
     rw[e]at e'
     cases e'
     have:_=_:=Int.ofNat.inj (h1.symm.trans h1')
     subst this
     rw[ih h3]
theorem Pn(b:Book ds):∀{f n l:Nat},Lev ds n l->7<=l+f->Dp ds f n
 | 0, n, l, h, hf => by
   obtain⟨d,e⟩:∃d,ds[n]?=!d:=by cases h with
     | top e _=>show⟨_,e⟩
     | up e _ _ _=>show⟨_,e⟩
   let⟨u,hu,lu⟩:=(Bk.Book.each b e).lev
   have:=qbZ h lu
   omega
 | f + 1, n, l, h, hf => λm hm => by
   let⟨d,e,he⟩:=Bh hm
   have:=Bt b m d e
   show Pn b (.up e he () h) ()
def Po(b:Book ds){n:Nat}(hn:n<ds.length):Dp ds 7 n:=by
 let⟨u,_,lu⟩:=(Bk.Book.each b (qB hn)).lev;show Pn b lu ()
theorem Pp(ts:∀n,((tops n).map Prod.fst).Sublist (ay ds n)):∀{f n:Nat} {t:Int},Dp ds f n->dG box tops (f+1) n t=dG box tops f n t
 | 0,_,_,h=>h.elim
 | f + 1, n, t, h => by
   show box n t::_=box n t::_
   congr 1
   show GY λx hx=>?_
   show Pp ts (h x.1 ((ts n).subset (yQ hx)))
end
end Ins
namespace Gd
open L2 Gen
structure HsW(ps:List Pl)(hs:TN):Prop where
 len:hs.length=ps.length
 le:ps.length<=100
 ro:∀p∈ps,1<=p.d/\p.r+p.d<=400
def HsW.many{hs:TN}(ok:HsW ps hs):many ps<=400:=qal λp hp=>(ok.ro p hp).2
inductive Cj:List V->Hp->VK->XK->Prop
|m (a b:Addr) (ps:List Pl) (hs:TN):vs=[.ref a,.ref b]->LstAt PlAt H a ps->H b=!.lst (hs.map V.int)->HsW ps hs->(∀(L:Addr) (H':Hp),H L=none->Same H H'->H' L=!.lst ((cJ (ps.zip hs) (many ps)).map V.int)->Q (.ref L) H')->Cj vs H Q E
def PsOk.hs{cols:Nat}{hs:TN}(ok:PsOk cols ps)(le:ps.length<=100)(e:hs.length=ps.length):HsW ps hs:=⟨e,le,λp hp=>⟨(ok p hp).2.1,by have:=(ok p hp).2.2.2.2.1;omega⟩⟩
end Gd
namespace Ins
open L2 Bk Gen Gd Bd Shr Sp0
structure Sz where
 h:Int
 rows:List (Nat×Nat)
 sums:List (List (Option Int))
 c:Int
def SzAt(H:Hp)(a:Addr)(z:Sz):=∃A B,H a=!.tup [.int z.h,.ref A,.ref B,.int z.c]/\LstAt Br.NnAt H A z.rows/\LstAt Br.OsAt H B z.sums
def SzAt.same(s:Same H H')(h:SzAt H a z):SzAt H' a z:=by
 let⟨A,B,h1,h2,h3⟩:=h;show⟨A,B,s _ _ h1,Br.nns_same s h2,Br.sums_same s h3⟩
def Ck(s:Same H H')(h:LstAt SzAt H p z):LstAt SzAt H' p z:=eJ (λ_ _=>SzAt.same s) s h
def aJ(sz:List Sz)(m:Nat):Int:=(sz[m]?.map Sz.h).getD 0
def kW(pr:Paired (SzAt H) as sz){m:Nat}(h:m<sz.length):∃a A B c,as[m]?=!a/\H a=!.tup [.int (aJ sz m),.ref A,.ref B,.int c]:=by
 have l:=qN pr;let⟨z,ez,A,B,h1,_⟩:=bN pr (qB (show m<as.length by omega));show⟨_,A,B,z.c,qB (show m<as.length by omega),?_⟩;unfold aJ;rw[ez];show h1
structure Cx4(ds:List Nd)(ls:TB)(sz:List Sz):Prop where
 bk:Book ds
 le:ds.length<=100
 ll:ls.length=ds.length
 lk:∀l∈ls,kJ l
 zl:sz.length=ds.length
def Cx4.l13{ls:TB}(c:Cx4 ds ls sz):∀l∈ls,l.length=13:=λl h=>(c.lk l h).len
def Cx4.look{ls:TB}(c:Cx4 ds ls sz){n:Nat}(h:n<ds.length):∃l,ls[n]?=!l/\kJ l/\∀i,aB ls n i=l.getD i 0:=by
 have hl:n<ls.length:=by rw[c.ll];show h
 show⟨ls[n],qB hl,c.lk _ (rL hl),λi=>?_⟩;unfold aB;rw[qB hl];rfl
def Cx4.cells{ls:TB}(c:Cx4 ds ls sz)(n:Nat):ve (bG ls (ay ds n)):=λx hx=>by
 let⟨m,hm,rfl⟩:=qW.mp hx;let⟨l,_,ok,lv⟩:=c.look (dC hm);have h1:=ok.span;have h2:=ok.deep;rw[<-lv]at h1 h2;show⟨by show 1<=(aB ls m 8).toNat;omega,by show(aB ls m 8).toNat<=6;omega,by show 1<=(aB ls m 9).toNat;omega,by show(aB ls m 9).toNat<=4;omega⟩
structure InT(H:Hp)(B p S:Addr)(ds:List Nd)(ls:TB)(sz:List Sz):Prop where
 bk:cB (λ_=>True) H B ds
 lk:LstAt LkAt H p ls
 sz:LstAt SzAt H S sz
def InT.same{H H':Hp}{B p S:Addr}{ds:List Nd}{ls:TB}{sz:List Sz}(h:InT H B p S ds ls sz)(s:Same H H'):InT H' B p S ds ls sz:=by
 let⟨as,e,nd⟩:=h.bk;show⟨⟨as,s _ _ e,nd.keep s.keep λ_ _ _=>trivial⟩,cU s h.lk,Ck s h.sz⟩
inductive Hg:List V->Hp->VK->XK->Prop
|m (p S k:Addr) (cols:Nat) (ks:TM) (ls:TB) (sz:List Sz):vs=[.ref p,.ref S,.int cols,.ref k]->LstAt LkAt H p ls->LstAt SzAt H S sz->KL H k ks->ks.length<=100->(∀m∈ks,m<ls.length/\m<sz.length)->(∀l∈ls,kJ l)->ve (bG ls ks)->1<=cols->cols<=6->(∀(t:Addr) (H':Hp),H t=none->Same H H'->LstAt Br.PnAt H' t (fG ls (aJ sz) cols ks)->Q (.ref t) H')->Hg vs H Q E
inductive Hh:List V->Hp->VK->XK->Prop
|m (B p S k:Addr) (ks:TM) (ds:List Nd) (ls:TB) (sz:List Sz):vs=[.ref B,.ref p,.ref S,.ref k]->InT H B p S ds ls sz->Cx4 ds ls sz->KL H k ks->ks.length<=100->(∀m∈ks,m<ds.length)->(∀(t:Addr) (H':Hp),H t=none->Same H H'->LstAt Br.PnAt H' t (eZ ds ls (aJ sz) ks).1->Q (.ref t) H')->Hh vs H Q E
inductive qo:List V->Hp->VK->XK->Prop
|m (B p S:Addr) (n:Nat) (ds:List Nd) (ls:TB) (sz:List Sz):vs=[.ref B,.ref p,.ref S,.int n]->InT H B p S ds ls sz->Cx4 ds ls sz->n<ds.length->(∀(t:Addr) (H':Hp),H t=none->Same H H'->LstAt Br.PnAt H' t (bB ds ls (aJ sz) n)->Q (.ref t) H')->qo vs H Q E
inductive Hi:List V->Hp->VK->XK->Prop
|m (B p S:Addr) (n:Nat) (ds:List Nd) (ls:TB) (sz:List Sz):vs=[.ref B,.ref p,.ref S,.int n]->InT H B p S ds ls sz->Cx4 ds ls sz->n<ds.length->(∀(H':Hp),Same H H'->Q (.int (cf ((bB ds ls (aJ sz) n).map λx=>x.2+aJ sz x.1))) H')->Hi vs H Q E
theorem Hj{ls:TB}{hs:Nat->Int}:∀{ks:TM} {acc:List (Nat×Int)×Int},(ks.foldl (fH ds ls hs) acc).1.length<=acc.1.length+2*ks.length
 | [],_=>∅
 | m :: ks, acc => by
   rw[xE]
   have h1:=Hj (ds:=ds) (ls:=ls) (hs:=hs) (ks:=ks) (acc:=fH ds ls hs acc m)
   have h2:(fH ds ls hs acc m).1.length<=acc.1.length+2:=by
     unfold fH
     cases dF ds m<;>simp
   rw[rC]
   omega
def Hk{n a:Nat}(h:dF ds n=!a):a<n:=by
 let⟨d,_,_,hl,_⟩:=Pf h;show xy (List.mem_of_getLast? hl)
def bz(ds:List Nd)(m:Nat):TM:=match dF ds m with
 | none=>[m]
 | some a=>[a,m]
def mJ(ls:TB)(acc:List (Nat×Int)×Int)(m:Nat):Int:=acc.2+if acc.1=[]then 0 else aB ls m 2
def Pq{ls:TB}{hs:Nat->Int}{acc:List (Nat×Int)×Int}{m:Nat}:fH ds ls hs acc m=(acc.1++(bz ds m).map (λe=>(e,mJ ls acc m)),mJ ls acc m+cf ((bz ds m).map hs)):=by
 unfold fH bz mJ;cases dF ds m<;>rfl
def qb0{m:Nat}:(bz ds m).length<=2/\bz ds m≠[]:=by
 unfold bz;cases dF ds m<;>simp
theorem qb1{m x:Nat}(h:x∈bz ds m):x<=m:=by
 unfold bz at h;cases e:dF ds m with
 | none=>rw[e]at h;simp at h;omega
 | some a =>
   rw[e]at h
   have:=Hk e
   rcases qO.mp h with z | z
   · omega
   · simp at z;omega
end Ins
namespace L2
open PyProof.Rows
def Hl:List (TE×TE)->St->Hp->(List (V×V)->Hp->Prop)->Prop
 | [],_,H,Q=>Q [] H
 | (tk,tv)::r,σ,H,Q=>tk σ H λx H1=>tv σ H1 λy H2=>Hl r σ H2 λps H3=>Q ((x,y)::ps) H3
abbrev VV:List (V×V)->List (Value×Value)->Prop:=Paired λp q=>RelV p.1 q.1/\RelV p.2 q.2
def Cm(X:Cx)(pos:Pos)(bo:List (Option Expr))(Cn:TW)(kX:List (TE×TE)):Prop :=
 ∀(aa:TF) (s:Shared) (σ:St) (H:Hp) (Q:List (V×V)->Hp->Prop),Inv X aa σ H s->Hl kX σ H Q ->
  wpAny (model X.prog X.w) X.A (evalPairs (pairTrees bo Cn X.env pos)) (λvs s'=>∃ps H',Inv X aa σ H' s'/\VV ps vs/\Q ps H') X.xe s
def qb2:Cm X pos [] [] []:=λaa s σ H Q I h=>pairTrees_nil_walk ⟨[],H,I,.nil,h⟩
def qb3{kX:List (TE×TE)}(hk:PE X k tk)(hv:PE X v tv)(hr:Cm X pos ks vs kX) :
  Cm X pos (some k::ks) (v::vs) ((tk,tv)::kX):=λaa s σ H Q I h =>
 pairTrees_cons_walk (aN (hk aa s σ H _ I h) λu s1 ⟨x,H1,I1,rx,q1⟩=>aN (hv aa s1 σ H1 _ I1 q1) λw2 s2 ⟨y,H2,I2,ry,q2⟩ =>
  aN (hr aa s2 σ H2 _ I2 q2) λws s3 ⟨ps,H3,I3,cw,q3⟩=>⟨(x,y)::ps,H3,I3,.cons ⟨rx,ry⟩ cw,q3⟩)
def mK(ah more:List (aQ×V)):List (aQ×V):=more.foldl (λacc kv=>da acc kv.1 kv.2) ah
theorem KV.merge:∀{more:List (aQ×V)} {rs:List (aQ×Value)} {ah:List (aQ×V)} {vs:List (aQ×Value)},KV more rs->KV ah vs->KV (mK ah more) (merged vs rs):=by
 intro more rs ah vs r;unfold KV at r
 induction r generalizing ah vs with
 | nil=>intro q;show q
 | @cons p q ps qs h t ih =>
   intro r0
   have e:KV (da ah p.1 p.2) (stored vs q.1 q.2):=by
     have:=r0.put p.1 h.2
     rw[<-h.1];show this
   show ih e
theorem Pr:∀(more ah:List (aQ×V)),(mK ah more).length<=ah.length+more.length
 | [],ah=>by show ah.length<=ah.length+0;omega
 | p :: r, ah => by
   have h1:=Pr r (da ah p.1 p.2)
   have h2:=va ah p.1 p.2
   show(mK (da ah p.1 p.2) r).length<=_
   rw[rC];omega
theorem Ps:∀{ah:List (aQ×V)} {ws:List (Value×Value)},VV (ah.map λkv=>(kV kv.1,kv.2)) ws->∃rs,Carries (eB P w) ws rs/\KV ah rs
 | [],_,r=>by rw[vO]at r;cases r;show⟨[],True.intro,.nil⟩
 | p :: ah, _, r => by
   rw[xO]at r
   cases r with
   | @cons a b as bs h t =>
     let⟨rs,c,q⟩:=Ps (P:=P) (w:=w) t
     let⟨b1,b2⟩:=b
     show⟨(p.1,b2)::rs,⟨n8 h.1,O,c⟩,.cons ⟨O,h.2⟩ q⟩
def qb4(kX:List (TE×TE)):TE:=λσ H Q=>∀p,H p=none->Hl kX σ (af H p (.dK [])) λps H2=>H2 p=!.dK []/\∃ah:List (aQ×V),ps=ah.map (λkv=>(kV kv.1,kv.2))/\ah.length<=15/\Q (.ref p) (af H2 p (.dK (mK [] ah)))
def qb5{kX:List (TE×TE)}(h:Cm X pos bo Cn kX)(DA:bo.all (·.isSome)=true)(hl:bo.length=Cn.length)(h0:bo≠[])(h15:bo.length<=15):PE X (.Dict bo Cn pos) (qb4 kX):=by
 intro aa s σ H Q I q;have hn:=I.hok.fresh (qF (~~~s));have I1:=I.laid (a:= ~~~s) (o:=.dK []) (h':=s.heap.push {cls:=.type "dict",data:=.dict #[]}) (t':=s.toks) (λ_ _ q=>qE _ q) (qF _) (X0 s.heap I.big);show wpAny_Dict_walk (knd:=eB X.prog X.w) DA hl h0 h15 (aN (h aa _ σ _ _ I1 (q _ hn)) λws s2 ⟨ps,H2,I2,cw,e,ah,ep,lk,q2⟩=>?_);subst ep;let⟨rs,c,rk⟩:=Ps (P:=X.prog) (w:=X.w) cw;let⟨z,hd,vs0,r0,dd⟩:=Mj I2.hok e;cases r0;show⟨rs,c,dd,λh' oa hs=>⟨.ref (~~~s),_,?_,O,q2⟩⟩;have hz:(mK [] ah).length<=sizeLine:=by
  have h1:=Pr ah [];rw[List.length_nil]at h1;rw[sizeLine_eq];omega
 have he:∃q,h'.get? (~~~s)=!q:=let⟨q,_,_,hq,_⟩:=oa;⟨q,hq⟩;show EJ I2 (by rw[e];show True.intro) hs he (EK hz hd (rk.merge .nil) oa)
end L2
namespace Ins
open L2 Bk Gen Gd Bd Shr Sp0
def ge(ds:List Nd)(sp:TC)(n:Nat):Int:=match ds[n]? with
 | some d=>if d.k=.picture then gF d else(aT sp n).2
 | none=>0
def cy(ds:List Nd)(sp:TC)(sz:List Sz)(n:Nat)(t:Int):TN:=[(n:Int),(aT sp n).1,t,ge ds sp n,aJ sz n]
def gf(H:Hp)(a:Addr)(b:TN):=H a=!.tup (b.map V.int)
def DRel(ah:List (aQ×V))(T:Nat->Option Int):=∀j:Nat,bJ ah (.inl (j:Int))=(T j).map V.int
def DRel.put{ah:List (aQ×V)}{T:Nat->Option Int}(h:DRel ah T)(m:Nat)(v:Int):DRel (da ah (.inl (m:Int)) (.int v)) (λj=>if j=m then !v else T j):=λj=>by
 rw[Mf];show _=Option.map V.int (if j=m then !v else T j)
 by_cases e:j=m
 .rw[if_pos e,e,if_pos O];rfl
 .rw[if_neg e,if_neg λz=>e (by have:=Sum.inl.inj z;omega)];show h j
def qb6{T:Nat->Option Int}{t:Int}{xs:List (Nat×Int)}{x:Nat×Int}:put T t (xs++[x])=λj=>if j=x.1 then !t+x.2else put T t xs j:=by
 unfold put;rw[List.foldl_append];rfl
structure Cx5(ds:List Nd)(ls:TB)(sz:List Sz)(sp:TC):Prop extends Cx4 ds ls sz where
 sl:sp.length=ds.length
structure InI(H:Hp)(B p Sp S:Addr)(ds:List Nd)(ls:TB)(sp:TC)(sz:List Sz):Prop extends InT H B p S ds ls sz where
 sp:LstAt PrAt H Sp sp
def InI.same{H H':Hp}{B p Sp S:Addr}{ds:List Nd}{ls:TB}{sp:TC}{sz:List Sz}(h:InI H B p Sp S ds ls sp sz)(s:Same H H'):InI H' B p Sp S ds ls sp sz:=⟨h.toInT.same s,fZ s h.sp⟩
def Cx5.pic{ls:TB}{sp:TC}(c:Cx5 ds ls sz sp):∀(m:Nat) (d:Nd),ds[m]?=!d->d.k=.picture->∃a b:Int,d.st=[.int a,.int b]:=λm d e hk=>by
 let⟨a,b,h,_⟩:=M7 c.bk e hk;show⟨a,b,h⟩
inductive Hm:List V->Hp->VK->XK->Prop
|m (B p Sp S:Addr) (n:Nat) (t:Int) (ds:List Nd) (ls:TB) (sp:TC) (sz:List Sz):vs=[.ref B,.ref p,.ref Sp,.ref S,.int n,.int t]->InI H B p Sp S ds ls sp sz->Cx5 ds ls sz sp->n<ds.length->(∀(L:Addr) (H':Hp),H L=none->Same H H'->LstAt gf H' L (dG (cy ds sp sz) (bB ds ls (aJ sz)) 8 n t)->(dG (cy ds sp sz) (bB ds ls (aJ sz)) 8 n t).length<=100->Q (.ref L) H')->Hm vs H Q E
inductive spLIns(f:Nat):List V->Hp->VK->XK->Prop
|m (B p Sp S:Addr) (n:Nat) (t:Int) (ds:List Nd) (ls:TB) (sp:TC) (sz:List Sz):vs=[.ref B,.ref p,.ref Sp,.ref S,.int n,.int t]->InI H B p Sp S ds ls sp sz->Cx5 ds ls sz sp->n<ds.length->Dp ds f n->(dG (cy ds sp sz) (bB ds ls (aJ sz)) f n t).length<=1000->(∀(L:Addr) (H':Hp),Same H H'->LstAt gf H' L (dG (cy ds sp sz) (bB ds ls (aJ sz)) f n t)->Q (.ref L) H')->spLIns f vs H Q E
theorem Hn{box:Nat->Int->List Int}{tops:Nat->List (Nat×Int)}:∀{l:TM} {st:List (TN)×(Nat->Option Int)},(l.foldl (stepI box tops) st).1.length<=st.1.length+l.length
 | [],_=>∅
 | i :: l, st => by
   rw[xE]
   have h1:=Hn (box:=box) (tops:=tops) (l:=l) (st:=stepI box tops st i)
   have h2:(stepI box tops st i).1.length<=st.1.length+1:=by
     unfold stepI
     split<;>simp
   rw[rC]
   omega
def Pu{box:Nat->Int->List Int}{tops:Nat->List (Nat×Int)}(b:Book ds)(ts:∀n,((tops n).map Prod.fst).Sublist (ay ds n)){n:Nat}(hn:n<ds.length)(t:Int):(dG box tops 8 n t).length<=ds.length/\dG box tops 8 n t=dG box tops 7 n t:=by
 show⟨?_,Pp ts (Po b hn)⟩;rw[<-Pm b ts hn t];show rF Hn ?_;show 0+_<=_;rw[List.length_range'];omega
end Ins
namespace L2
open PyProof.Rows
def iM:Int:=2 ^ 4000
def qb7:iM=((2 ^ 4000:Nat):Int):=by unfold iM;rw[Int.natCast_pow];rfl
def qb8(i j:Int):=0<=i/\i<=iM/\0<=j/\j<=iM
def Pw{i:Int}(h0:0<=i)(h1:i<=iM):Builtin.Int.intBits i<=4001:=by
 rw[qb7]at h1;show intBits_le_iff.mpr (yB (show i.natAbs<=2 ^ 4000 by generalize 2 ^ 4000=n at h1;omega) (Nat.pow_lt_pow_right {} {}))
def qb9:bQ X (binaryOp .Mult) (rI qb8 λi j=>.int (i*j)):=si λ_ _ _ _ _ _ _ hc q=>mul_int q (IntMulOk.of_le (Pw hc.1 hc.2.1) (Pw hc.2.2.1 hc.2.2.2) {})
end L2
namespace Bw
open L2 Bk Gen Gd
open Bd
open Br
structure Co(us:List Un)(wd:Int)(nw:Int×Int):Prop where
 ne:us≠[]
 le:us.length<=100
 ok:∀u∈us,UOk u
 w0:0<=wd
 w1:wd<=iM
 b0:0<=nw.2
def qca{wd:Int}{nw:Int×Int}(row:Int)(h0:0<=wd)(h1:wd<=iM)(h2:0<=nw.2):0<=cR wd nw row/\cR wd nw row<=iM:=by
 unfold cR
 split<;>omega
inductive Ho(K:W.Frag):List V->Hp->VK->XK->Prop
|m (p t:Addr) (i j:Nat) (wd row:Int) (nw:Int×Int) (us:List Un):vs=[.ref p,.int i,.int j,.int wd,.ref t,.int row]->RowAt H p us->PrK K H t nw->i<j->j<=us.length->us.length<=100->(∀u∈us,UOk u)->0<=wd->wd<=iM->0<=nw.2->(∀H',Same H H'->Q (ov (du us i j (cR wd nw row))) H')->Ho K vs H Q E
inductive Hq(K:W.Frag):List V->Hp->VK->XK->Prop
|m (p t:Addr) (j:Nat) (wd row:Int) (nw:Int×Int) (us:List Un):vs=[.ref p,.int j,.int wd,.ref t,.int row]->RowAt H p us->PrK K H t nw->j<=us.length->Co us wd nw->(∀(L:Addr) (H':Hp),Same H H'->LstAt PnAt H' L (fA us j (cR wd nw row))->Q (.ref L) H')->Hq K vs H Q E
inductive Hr(K:W.Frag):List V->Hp->VK->XK->Prop
|m (p t:Addr) (wd row:Int) (nw:Int×Int) (us:List Un):vs=[.ref p,.int wd,.ref t,.int row]->RowAt H p us->PrK K H t nw->Co us wd nw->(∀(L:Addr) (H':Hp),Same H H'->qb H' L (je us (cR wd nw row))->Q (.ref L) H')->Hr K vs H Q E
inductive Hs(K:W.Frag):List V->Hp->VK->XK->Prop
|m (p t:Addr) (wd:Int) (nw:Int×Int) (us:List Un):vs=[.ref p,.int wd,.ref t]->RowAt H p us->PrK K H t nw->Co us wd nw->(∀(L:Addr) (H':Hp),Same H H'->wg H' L (jf us (cq wd nw))->Q (.ref L) H')->Hs K vs H Q E
inductive Ht:List V->Hp->VK->XK->Prop
|m (p:Addr) (us:List Un):vs=[.ref p]->RowAt H p us->us.length<=100->(∀(L:Addr) (H':Hp),H L=none->Same H H'->OsAt H' L (wf us)->Q (.ref L) H')->Ht vs H Q E
inductive spBroken2(K:W.Frag)(nn:Addr):List V->Hp->VK->XK->Prop
|m (p t:Addr) (v:V) (wd:Int) (nw:Int×Int) (us:List Un):vs=[.ref p,.int wd,v]->(v=.ref t\/(v=.non/\t=nn))->RowAt H p us->PrK K H t nw->Co us wd nw->(∀(R A B:Addr) (rows:List (Nat×Nat)) (k:Nat) (M:Int) H',Same H H'->H R=none->H' R=!.tup [.ref A,.ref B]->H A=none->A≠B->LstAt NnAt H' A rows->Z0 H H' B (gI us (cq wd nw))->Ch us (cq wd nw) k us.length rows->BC us (cq wd nw) k M->Q (.ref R) H')->spBroken2 K nn vs H Q E
end Bw
namespace Ins
open L2 Bk Gen Gd Shr Sp0
open Bd
def SzN(N:Addr->Prop)(H:Hp)(a:Addr)(z:Sz):=∃A B,H a=!.tup [.int z.h,.ref A,.ref B,.int z.c]/\N A/\LstAt Br.NnAt H A z.rows/\N B/\∃bs:TQ,H B=!.lst (bs.map V.ref)/\Paired (λc os=>Br.OsAt H c os/\N c) bs z.sums
def SzN.at{N:Addr->Prop}(h:SzN N H a z):SzAt H a z:=by
 let⟨A,B,h1,_,h2,_,bs,h3,h4⟩:=h;show⟨A,B,h1,h2,bs,h3,h4.mono λ_ _ y=>y.1⟩
def SzN.mono{N N':Addr->Prop}(k:∀b,(∃o,H b=!o)->N b->N' b)(h:SzN N H a z):SzN N' H a z:=by
 let⟨A,B,h1,n1,h2,n2,bs,h3,h4⟩:=h;let⟨as,h5,h6⟩:=h2;show⟨A,B,h1,k A ⟨_,h5⟩ n1,⟨as,h5,h6⟩,k B ⟨_,h3⟩ n2,bs,h3,h4.mono λc os y=>⟨y.1,k c ⟨_,y.1⟩ y.2⟩⟩
def SzN.same{N:Addr->Prop}(s:Same H H')(h:SzN N H a z):SzN N H' a z:=by
 let⟨A,B,h1,n1,h2,n2,bs,h3,h4⟩:=h;show⟨A,B,s _ _ h1,n1,Br.nns_same s h2,n2,bs,s _ _ h3,h4.mono λc os y=>⟨s _ _ y.1,y.2⟩⟩
def SzN.put(hS:H S=!.lst xs)(h:SzN (·≠ S) H a z):SzN (·≠ S) (af H S o) a z:=by
 let⟨A,B,h1,n1,⟨as,h5,h6⟩,n2,bs,h3,h4⟩:=h;have tl:=Tups.lst (o:=o) hS;show⟨A,B,tl _ _ h1,n1,⟨as,by rw[aE n1];show h5,h6.mono λ_ _ y=>tl _ _ y⟩,n2,bs,by rw[aE n2];show h3,h4.mono λc os y=>⟨?_,y.2⟩⟩;show af H S o c=_;rw[aE y.2];show y.1
structure xz(ds:List Nd)(ls:TB)(sz:List Sz)(sp:TC)(us:List (List Un)):Prop extends Cx5 ds ls sz sp where
 ul:us.length=ds.length
 uok:∀r∈us,r.length<=100/\∀u∈r,Br.UOk u/\1<=u.h/\u.h<=100
 un:∀(n:Nat) (d:Nd),ds[n]?=!d->(d.k=.text\/d.k=.head\/d.k=.note)->cD us n≠[]
 sb:SpB iM sp
structure InZ(H:Hp)(B p U Sp S:Addr)(ds:List Nd)(ls:TB)(us:List (List Un))(sp:TC)(sz:List Sz):Prop extends InI H B p Sp S ds ls sp sz where
 un:LstAt Bw.RowAt H U us
def InZ.same{H H':Hp}{B p U Sp S:Addr}{ds:List Nd}{ls:TB}{us:List (List Un)}{sp:TC}{sz:List Sz}(h:InZ H B p U Sp S ds ls us sp sz)(s:Same H H'):InZ H' B p U Sp S ds ls us sp sz:=⟨h.toInI.same s,Bw.units_same s h.un⟩
inductive Hu(K:W.Frag):List V->Hp->VK->XK->Prop
|m (B p U Sp S:Addr) (n:Nat) (ds:List Nd) (ls:TB) (us:List (List Un)) (sp:TC) (sz:List Sz):vs=[.ref B,.ref U,.ref Sp,.ref S,.int n]->InZ H B p U Sp S ds ls us sp sz->xz ds ls sz sp us->n<ds.length->cD us n≠[]->(∀(t:Addr) (nw:Int×Int) (H':Hp),Same H H'->Br.PrK K H' t nw->0<=nw.2->Q (.ref t) H')->Hu K vs H Q E
inductive Hv:List V->Hp->VK->XK->Prop
|m (B p U Sp S:Addr) (n:Nat) (ds:List Nd) (ls:TB) (us:List (List Un)) (sp:TC) (sz:List Sz):vs=[.ref B,.ref p,.ref U,.ref Sp,.ref S,.int n]->InZ H B p U Sp S ds ls us sp sz->xz ds ls sz sp us->n<ds.length->(∀(t:Addr) (z:Sz) (H':Hp),Same H H'->SzN (λb=>H b=none) H' t z->Q (.ref t) H')->Hv vs H Q E
def Px(ne:us≠[])(h:∀u∈us,Br.UOk u/\1<=u.h/\u.h<=100):1<=cf (us.map Un.h)/\cf (us.map Un.h)<=100:=by
 let⟨u,hu,e⟩:=qW.mp (kF (show us.map Un.h≠[]from λz=>ne (List.map_eq_nil_iff.mp z)));rw[<-e];show(h u hu).2
end Ins
namespace Bd
open L2 Bk Gen Gd
def qcb{l s:Int}(hl:0<=l)(h1:1<=s)(h6:s<=6):iG l s<=l:=by
 unfold iG;rcases(by omega:s=1\/s=2\/s=3\/s=4\/s=5\/s=6)with rfl | rfl | rfl | rfl | rfl | rfl<;>omega
theorem Hw{B:Int}(hB:0<=B){l:TN}(h:∀x∈l,x<=B):cf l<=B:=by
 cases l with
 | nil=>show hB
 | cons x l =>
   show l.foldl max x<=B
   rcases qO.mp (wl l x)with e | e
   · rw[e];show h x rB
   · show h _ (qU _ e)
section
variable{ds:List Nd}{ls:TB}{us:List (List Un)}
structure Hx(ds:List Nd)(ls:TB)(us:List (List Un)):Prop where
 ins:∀n,aB ls n 3<=100
 wide:∀n,aB ls n 11<=4000
 least:∀n,aB ls n 5<=4000
 un:∀r∈us,∀u∈r,u.w<=960
 pic:∀d∈ds,d.k=.picture->gF d<=2000
theorem qcc(cx:Ctx ds ls us)(lo:Hx ds ls us){B:Int}{bs:TC}(hb:∀m,0<=(aT bs m).1/\(aT bs m).1<=B){n:Nat}(hn:n<ds.length):(eR ds ls us bs n).1<=100*B+500000:=by
 have B0:0<=B:=by have:=hb 0;omega
 obtain⟨l,el,cE,lv⟩:=cx.look hn;have ed:ds[n]?=!ds[n]:=qB hn;have hi:=lo.ins n;have vw:(ja ds ls us bs n ds[n]).1<=100*B+400000:=by
  have nY:kE (cD us n)<=960:=by
   show Hw {} λx hx=>?_
   let⟨u,hu,rfl⟩:=qW.mp hx;unfold cD at hu;cases e:us[n]? with
   | none=>rw[e]at hu;cases hu
   | some r=>rw[e]at hu;show lo.un r (qR e) u hu
  unfold ja
  split
  .show kE _<=_;omega
  .show kE _<=_;omega
  .show kE _<=_;omega
  .have kl:=lZ ds n;have le:=cx.le;have:=(Sp0.sum_b (B:=B+4000) () (l:=(ay ds n).map (cj ls bs)) (n:=100) (by rw[qA];omega) λv hv=>by
    let⟨m,hm,rfl⟩:=qW.mp hv;have h1:=hb m;have h2:=lo.least m;unfold cj;omega).2
   show((ay ds n).map (cj ls bs)).sum<=_;omega
  .have c:=cE.cols;rw[<-lv]at c;have:cf (((ay ds n).map λm=>(m,(aT bs m).1)).map λx=>iG x.2 (min (aB ls x.1 8) (aB ls n 7)))<=B:=Hw B0 λx hx=>by
    let⟨z,hz,rfl⟩:=qW.mp hx;let⟨m,hm,rfl⟩:=qW.mp hz;let⟨l',_,vt,oq⟩:=cx.look (dC hm);have sp:=vt.span;rw[<-oq]at sp;show Int.le_trans (qcb (hb m).1 (by show 1<=min (aB ls m 8) (aB ls n 7);omega) (by show min (aB ls m 8) (aB ls n 7)<=6;omega)) (hb m).2
   show kD ls (aB ls n 7) _<=_;unfold kD;generalize cf (((ay ds n).map λm=>(m,(aT bs m).1)).map λx=>iG x.2 (min (aB ls x.1 8) (aB ls n 7)))=b at this⊢;rcases(by omega:aB ls n 7=1\/aB ls n 7=2\/aB ls n 7=3\/aB ls n 7=4\/aB ls n 7=5\/aB ls n 7=6)with e | e | e | e | e | e<;>rw[e]<;>omega
  .show Int.le_trans (Hw (B:=B+4000) () λx hx=>?_) ();let⟨m,hm,rfl⟩:=qW.mp hx;unfold cM;have h1:=hb m;have h2:=lo.wide m
   split
   .show aB ls m 11<=_;omega
   .omega
 unfold eR;rw[ed]
 by_cases hp:ds[n].k=.picture
 .have:=lo.pic _ (rL hn) hp;simp only[hp,if_true];omega
 .simp only[hp,if_false];omega
def gB:Nat->Int
 | 0=>0
 | k+1=>101*gB k+500000
theorem Hy:∀k,0<=gB k
 | 0=>Int.le_refl _
 | k + 1 => by
   have:=Hy k
   show 0<=101*gB k+500000
   omega
theorem Py(cx:Ctx ds ls us)(lo:Hx ds ls us):∀k,k<=ds.length->∀m,(aT (dU ds ls us k) m).1<=gB k
 | 0, _, m => by
   have:aT (dU ds ls us 0) m=(0,0):=by
     unfold aT dU
     rw[List.getElem?_replicate]
     split<;>rfl
   rw[this]
   show Int.le_refl _
 | k + 1, h, m => by
   have ih:=Py cx lo k ()
   have nn:=Fq cx k ()
   have g0:=Hy k
   show _<=101*gB k+500000
   rw[dU]
   by_cases e:ds.length-1-k=m
   · subst e
     rw[MH (by rw[pY];omega)]
     have:=qcc cx lo (λm=>⟨(nn m).1,ih m⟩) (n:=ds.length-1-k) ()
     omega
   · rw[MG e]
     have:=ih m
     omega
end
end Bd
namespace Ins
open L2 Bk Gen Gd Shr Sp0 Fc
open Bd
def Cp(u:dt):=((1<=u.w/\u.w<=960)/\0<=u.b/\u.b<=960)/\1<=u.h/\u.h<=100
def ya(u:dt):Un:=⟨u.w,u.b,u.h,u.k⟩
theorem qcd(hf:ou f)(h1:1<=x.cps.size)(h2:x.cps.size<=20):1<=l5 f x/\l5 f x<=180:=by
 have all:∀v∈x.cps.toList.map λc=>gG f ⟨#[c]⟩,1<=v/\v<=9:=λv hv=>by
  let⟨c,_,rfl⟩:=qW.mp hv;show 1<=gG f _/\gG f _<=9;unfold gG;cases e:f.odd.find? λp=>decide (p.1=⟨#[c]⟩)with
  | none=>show hf.2.2.1
  | some p=>show hf.2.2.2 p (List.mem_of_find?_eq_some e)
 have len:(x.cps.toList.map λc=>gG f ⟨#[c]⟩).length=x.cps.size:=by rw[qA,xI]
 unfold l5;generalize x.cps.toList.map (λc=>gG f ⟨#[c]⟩)=l at all len;show⟨?_,(sum_b (B:=9) {} (l:=l) (n:=20) () λv hv=>by have:=all v hv;omega).2⟩;cases l with
 | nil=>simp at len;omega
 | cons a r =>
   rw[List.sum_cons]
   have h3:=all a rB
   have h4:=NT (l:=r) λv hv=>by have:=all v (qU _ hv);omega
   omega
theorem qce{sh:TK}(hs:∀p∈sh,qf p.2)(x:Str):1<=(l6 sh x).cps.size/\(l6 sh x).cps.size<=20:=by
 unfold l6;cases e:sh.find? λp=>decide (p.1=x)with
 | none=>show⟨by ac_rfl,by ac_rfl⟩
 | some p =>
   have:=(hs p (List.mem_of_find?_eq_some e)).2
   show⟨this.1,rF this.2 {}⟩
def qcf(ne:fs≠[])(hf:∀f∈fs,ou f)(n:Int):ou (dW fs n):=by
 have l0:0<fs.length:=List.length_pos_iff.mpr ne;have h1:=uM n (show(fs.length:Int)≠0 by omega);have h2:=uB n (show(0:Int)<(fs.length:Int) by omega);unfold dW;rw[qB (show(n % (fs.length:Int)).toNat<fs.length by omega)];show hf _ (rL _)
theorem Pz{sh:List (Str×Str)}{num:Int}{kids:TN}(ne:fs≠[])(hf:∀f∈fs,ou f)(hs:∀p∈sh,qf p.2)(ok:∀x∈st,gq x):∀i,∀u∈cV fs sh false num kids st i,Cp u
 | 0,u,hu=>nomatch hu
 | i + 1, u, hu => by
   have ih:=Pz (num:=num) (kids:=kids) ne hf hs ok i
   unfold cV at hu
   cases e:st[i]? with
   | none=>rw[e]at hu;show ih u hu
   | some x =>
     rw[e]at hu
     have px:=ok x (qR e)
     have one:∀{s:So} {y:Str} {t:Int},(1<=(jA sh s y).cps.size/\(jA sh s y).cps.size<=20)->Cp ⟨hV (dW fs (num+t)) sh false s y,(dW fs (num+t)).bl,(dW fs (num+t)).hi,i,[]⟩:=λ{s y t} h=>by
       have fb:=qcf ne hf (num+t)
       have:=qcd fb h.1 h.2
       have ew:hV (dW fs (num+t)) sh false s y=l5 (dW fs (num+t)) (jA sh s y):=by unfold hV;rw[if_neg λz=>qZ z.1]
       let⟨a,b,_⟩:=fb
       show⟨⟨⟨?_,?_⟩,?_,?_⟩,?_,?_⟩
       · show 1<=hV (dW fs (num+t)) sh false s y
         omega
       · show hV (dW fs (num+t)) sh false s y<=960
         omega
       · show b.1
       · show(dW fs (num+t)).bl<=960;omega
       · show a.1
       · show(dW fs (num+t)).hi<=100;omega
     have tJ:∀{v:dt},Cp v->u∈cV fs sh false num kids st i++[v]->Cp u:=λhv hm=>by
       rcases rG.mp hm with z | z
       · show ih u z
       · rw[List.mem_singleton.mp z];show hv
     cases x with
     | int n=>show px.elim
     | tri s y t =>
       cases s with
       | sign=>cases y<;>show px.elim
       | word =>
         cases y with
         | inr j=>show px.elim
         | inl w=>show tJ (one (s:=.word) ⟨px.1.1,px.1.2.1⟩) hu
       | page =>
         cases y with
         | inr j=>show px.elim
         | inl w=>show tJ (one (s:=.page) (qce hs w)) hu
       | note =>
         cases y with
         | inl w=>show px.elim
         | inr j =>
           have hu:u∈kG (cV fs sh false num kids st i) ((kids[j.toNat]?).getD 0):=hu
           unfold kG at hu
           cases el:(cV fs sh false num kids st i).getLast? with
           | none=>rw[el]at hu;show ih u hu
           | some v =>
             rw[el]at hu
             rcases rG.mp hu with z | z
             · show ih u (by rw[List.dropLast_eq_take]at z;show yC z)
             · rw[List.mem_singleton.mp z]
               show ih v (List.mem_of_getLast? el)
def PB{α β γ δ:Type}{F:γ->δ->Prop}{f:α->γ}{g:β->δ}{as:List α}{bs:List β}(h:Paired (λa b=>F (f a) (g b)) as bs):Paired F (as.map f) (bs.map g):=by
 induction h with
 | nil=>show .nil
 | cons q _ ih=>show .cons q ih
def gN(ds:List Nd)(fs:List cN)(sh:TK)(ls:TB):List (List Un):=(jD ds fs sh false ls).map λr=>r.map ya
def qcg{sh:TK}{ls:TB}{n:Nat}(h:n<ds.length):cD (gN ds fs sh ls) n=(mf ds fs sh false (aB ls n 0) n).map ya:=by
 unfold cD gN jD;rw[qK,qK,rV h];rfl
def qch{sh:TK}{ls:TB}:(gN ds fs sh ls).length=ds.length:=by
 unfold gN jD;rw[qA,qA,List.length_range]
def qci{xs:List (Addr×List (Addr×Addr))}{sh:TK}{ls:TB}(hL:H0 L=none)(e:H L=!.lst ((xs.map Prod.fst).map V.ref))(h:Ux H0 H xs (jD ds fs sh false ls))(k:KeepN (λb=>H0 b=none) H H'):LstAt Bw.RowAt H' L (gN ds fs sh ls):=by
 show⟨_,k _ _ hL e,PB (h.1.mono λx us q=>?_)⟩;show⟨_,k _ _ q.1 q.2.1,PB (q.2.2.mono λp u z=>⟨p.2,k _ _ z.2.1 z.1.1,_,k _ _ z.2.2 z.1.2⟩)⟩
section
variable{ds:List Nd}{fs:List cN}{sh:TK}{ls:TB}
theorem qcj(b:Book ds)(ne:fs≠[])(hf:∀f∈fs,ou f)(hs:∀p∈sh,qf p.2):∀r∈gN ds fs sh ls,r.length<=100/\∀u∈r,Br.UOk u/\1<=u.h/\u.h<=100:=λr hr=>by
 let⟨r',xt,rfl⟩:=qW.mp hr;let⟨n,hn,rfl⟩:=qW.mp xt;have hn:=xF.mp hn;have ed:ds[n]?=!ds[n]:=qB hn;have ef:=(b.form ds[n] (rL hn)).st;unfold mf;rw[ed];show((if ds[n].k=.text\/ds[n].k=.head\/ds[n].k=.note then _ else[]).map ya).length<=100/\∀u∈(if ds[n].k=.text\/ds[n].k=.head\/ds[n].k=.note then _ else[]).map ya,_
 split
 .rename_i hk;have h3:(∀x∈ds[n].st,gq x)/\(∃x r,ds[n].st=x::r/\gV x=false)/\ds[n].st.length<=60:=by
   rcases hk with e | e | e<;>rw[e]at ef<;>show ef
  show⟨by rw[qA];show rF (NM _) (),λu hu=>?_⟩;let⟨v,hv,rfl⟩:=qW.mp hu;let⟨⟨w1,b1⟩,h1⟩:=Pz ne hf hs h3.1 _ v hv;show⟨⟨w1.1,w1.2,b1.1,b1.2⟩,h1⟩
 .show⟨rS _,λu hu=>nomatch hu⟩
def qck(b:Book ds){n:Nat}(ed:ds[n]?=!d)(hk:d.k=.text\/d.k=.head\/d.k=.note):cD (gN ds fs sh ls) n≠[]:=by
 have hn:=(qI.mp ed).1;have ef:=(b.form d (qR ed)).st;have h3:(∀x∈d.st,gq x)/\(∃x r,d.st=x::r/\gV x=false)/\d.st.length<=60:=by
  rcases hk with e | e | e<;>rw[e]at ef<;>show ef
 rw[qcg hn];unfold mf;rw[ed];show(if d.k=.text\/d.k=.head\/d.k=.note then _ else[]).map ya≠[];rw[if_pos hk];intro z;have z:=List.map_eq_nil_iff.mp z;let⟨x,r,e,_⟩:=h3.2.1;have l1:d.st.length=r.length+1:=by rw[e];rfl
 rw[l1]at z;show Fs h3.1 h3.2.1 r.length () z
end
def qcl(k:Gw.Kids 0 0 .body [bL] sub ks)(ne:ks≠[]):Book (bL::sub):=by
 show⟨⟨bL,sub,ks,O,O,O,k.fo,k.may,λ_=>ne,k.nx,λz=>by cases z⟩,λd hd=>?_,Gw.names_nodup k.nm⟩;rcases qO.mp hd with rfl | h
 .show⟨.inl O,⟨{},(λm hm=>nomatch hm),.nil⟩,O⟩
 .show k.fm d h
def qcm:∀n,n<64->gW (gB n+4000) n<=iM:=by
 unfold iM;ac_rfl
end Ins
namespace K32
open L2 Bk Gd Shr Sp0 Ins Fc
open Bd
open Gen
abbrev PD:=top 127
def qcn{l:TN}(h:LkTo 13 l):kJ l:=by
 have a:=λj {b} e=>h.at j (b:=b) e
 show⟨⟨h.1,(a 3 O).1,(a 5 O).1,Int.le_trans {} (a 6 O).1,a 7 O,a 8 O,Int.le_trans {} (a 11 O).1⟩,a 4 O,Int.le_trans (a 5 O).2 {},Int.le_trans (a 6 O).2 {},a 9 O,by have:=a 10 O;have h1:0<=l.getD 10 0:=this.1;have h2:l.getD 10 0<=1:=this.2;omega⟩
def Hz{ls:TB}(h:∀l∈ls,LkTo 13 l){j:Nat}{b:Int×Int}(e:kK[j]?=!b)(h0:0<=b.2)(n:Nat):aB ls n j<=b.2:=by
 unfold aB;cases en:ls[n]? with
 | none=>show h0
 | some l=>show((h l (qR en)).at j e).2
def qco{l:TN}(h:LkAt H a l)(hl:l.length=13)(S:StOk H st):a≠st:=λz=>by
 let⟨x,y,e,_⟩:=S;have h:H a=_:=h;rw[z,e]at h;have:=xC List.length (HO.lst.inj (rD h));rw[qA,hl]at this;cases this
def looks_keep{ls:TB}(S:StOk H st)(k:Keep1 st H H')(l13:∀l∈ls,l.length=13)(h:LstAt LkAt H p ls):LstAt LkAt H' p ls:=by
 let⟨as,e,pr⟩:=h;show⟨as,k _ _ (jH e S) e,Br.paired_mem pr λa l hl z=>k _ _ (qco z (l13 l hl) S) z⟩
def qcp(S:StOk H st)(k:Keep1 st H H')(h:LstAt FcAt H p fs):LstAt FcAt H' p fs:=by
 let⟨as,e,pr⟩:=h;show⟨as,k _ _ (jH e S) e,pr.mono λa f z=>?_⟩;let⟨L,e1,bs,e2,po⟩:=z;show⟨L,k _ _ (mw e1 S) e1,bs,k _ _ (jH e2 S) e2,BH S k po⟩
def qcq{bs:TC}(S:StOk H st)(k:Keep1 st H H')(h:LstAt PrAt H p bs):LstAt PrAt H' p bs:=by
 let⟨as,e,pr⟩:=h;show⟨as,k _ _ (jH e S) e,pr.mono λa x z=>k _ _ (mw z S) z⟩
inductive HB(K:W.Frag):List V->Hp->VK->XK->Prop
|m (a:Addr) (ns:TN):vs=[.ref a]->SqL K H a (ns.map V.int)->(∀(R B p U Sp:Addr) (ds:List Nd) (ls:TB) (us:List (List Un)) (sp:TC) (H':Hp),Same H H'->H' R=!.lst [.ref B,.ref p,.ref U,.ref Sp]->cB (λ_=>True) H' B ds->LstAt LkAt H' p ls->LstAt Bw.RowAt H' U us->LstAt PrAt H' Sp sp->ds.length<64->(∀sz:List Sz,sz.length=ds.length->xz ds ls sz sp us)->Q (.ref R) H')->HB K vs H Q E
theorem qcr(F:Fun K "_law_made" "_law_made" PD f fd)(T:bP mg)(yb:⋯ 1 "_law_stream" ["_law_script", "_law_k"] (AH K))(bx:⋯ 1 "_law_take" ["_law_stream_here", "_law_most"] gY)(qcs:⋯ 11 "_law_book" ["_law_stream_here", "_law_many", "_law_room"] Gw.spBook)(qct:⋯ 11 "_law_wide" ["_law_nodes", "_law_stream_here"] Gw.spWide)(qcu:⋯ 2 "_law_looks" ["_law_book_here", "_law_stream_here"] F6)(qcv:⋯ 2 "_law_faces" ["_law_stream_here"] FP)(qcw:⋯ 2 "_law_shown" ["_law_book_here", "_law_stream_here"] Ga)(qcx:FM P w K mg base am 4 "all_units" ["book", "looks", "faces", "shown", "held"] [Value.bool false] (oo 4 spAllU))(qcy:⋯ 6 "all_bounds" ["book", "looks", "units"] Bw.spAll)(qcz:⋯ 6 "all_spans" ["book", "looks", "bounds", "wide"] GK):(~~~0) 12 f fd ["_law_script"] (HB K):=by
 rcases F.go ["_law_script", "_law_stream_here", "_law_wide_here", "_law_book_here", "_law_looks_here", "_law_units", "_law_spans"] with⟨a,ns,rfl,hA,q⟩;have qcA:Room 4 _:=hr.mono {};show⟨_,(ar (sv 1 (cF yb hr (a2 (pv 0) aw)))
  (ar (sv 2 (ec bq (cF bx hr (a2 (cF yb hr (a2 (pv 0) aw)) aw)) aw))
  (ar (sv 3 (cF qcs hr (a3 (pv 1) (px aC (a0 (a2 (aH bc aw (cF bx hr (a2 (pv 1) aw))) aw)) (eP sr (by rfl) T.int pN (a1 (pv 2)))) (px aC (a0 (a2 aw aw)) (eP sr (by rfl) T.int pN (a1 (pv 2)))))))
  (ar (ba (lB (pv 2)) (ax (bX (cF qct hr (a2 (pv 3) (pv 1))))) bj)
  (ar (sv 1 (cF yb hr (a2 (pv 0) aw)))
  (ar (sv 4 (cF qcu hr (a2 (pv 3) (pv 1))))
  (ar (sv 5 (Z5 qcx Z7 qcA (by rfl) DD (aI (pv 3) (a3 (pv 4) (cF qcv hr (a1 (pv 1))) (cF qcw hr (a2 (pv 3) (pv 1)))))))
  (ar (sv 6 (cF qcz hr (aI (pv 3) (a3 (pv 4) (cF qcy hr (a3 (pv 3) (pv 4) (pv 5))) (aH bc aw (cF bx hr (a2 (pv 1) aw)))))))
  (ax (aG (a0 (aI (pv 3) (a3 (pv 4) (pv 5) (pv 6)))))))))))))),?_⟩
 show⟨_,O,a,ns,0,O,hA,{},{},λst H1 b7 S1 s1=>?_⟩;dsimp only[a7];show⟨_,O,a,ns,0,O,Br.sql_same s1 hA,{},{},λgP H2 PF S2 s2=>?_⟩;show⟨gP,8,O,S2,{},{},λr H3 r0 r1 S3 K3=>⟨O,?_⟩⟩;have n2:st≠gP:=λz=>by
  let⟨o,e⟩:=S1.some;rw[z,PF]at e;cases e
 have S13:StOk H3 st:=by
  let⟨x,y,e,z⟩:=S1;show⟨x,y,K3 _ _ n2 (s2 _ _ e),z⟩
 have dh:Same H H3:=λb o e=>K3 _ _ (λz=>by have:=s1.free PF;rw[z,this]at e;cases e) (s2 _ _ (s1 _ _ e))
 clear K3 S3 S2 s2 S1;dsimp only[a7];generalize decide (V.int r=V.int 6)=wb;show seq_post (λae H'=>∃(H0:Hp) (p:Addr) (sub:List Nd) (ks:List Kd),ae=[!.ref a,!.ref st,!.bl wb,!.ref p,none,none,none]/\Keep1 st H3 H0/\Gw.Kids 0 0 .body [bL] sub ks/\ks≠[]/\sub.length<=50/\(wb=true->sub.length<=33)/\Gs H0 st p H' (bL::sub)) (λD' kk=>?_) ?_
 .refine⟨_,O,_,O,st,4,O,S13,{},{},λr4 H4 nM nN S4 K4=>⟨_,_,O,O,aM,λZ hZ=>?_⟩⟩;have s5:=ao hZ (.lst [.int (1+r4),.int 1]);have qp:af H4 Z (.lst [.int (1+r4),.int 1]) Z=!.lst [.int (1+r4),.int 1]:=aj;generalize af H4 Z (.lst [.int (1+r4),.int 1])=H5 at s5 qp⊢;show⟨_,O,.inr ⟨wb,O,?_⟩⟩;have S5:=S4.same s5;have K5:=K4.trans (s5.keep (N:=λb=>b≠st));cases wb with
  | true =>
    show⟨Z,_,_,_,O,O,SqL.of qp,(show bD [V.int (1+r4),V.int 1] (if true=true then 1 else 0)=!V.int 1from rfl),aM,λY hY=>?_⟩
    have s6:=ao hY (.lst [.int 12,.int 4])
    show⟨_,O,.inr ⟨true,O,Y,_,_,_,O,O,SqL.of aj,(show bD [V.int 12,V.int 4] (if true=true then 1 else 0)=!V.int 4from rfl),st,1,4,O,S5.same s6,{},{},{},{},λp sub ks H' ki le ne G=>kk _ _ ⟨_,p,sub,ks,O,K5.trans s6.keep,ki,ne,(),λ_=>(),G⟩⟩⟩
  | false =>
    obtain⟨m,em⟩:∃m:Nat,(1:Int)+r4=m:=⟨(1+r4).toNat,()⟩
    show⟨Z,_,_,_,O,O,SqL.of qp,(show bD [V.int (1+r4),V.int 1] (if false=true then 1 else 0)=!V.int (1+r4)from rfl),aM,λY hY=>?_⟩
    have s6:=ao hY (.lst [.int 12,.int 4])
    show⟨_,O,.inr ⟨false,O,Y,_,_,_,O,O,SqL.of aj,(show bD [V.int 12,V.int 4] (if false=true then 1 else 0)=!V.int 12from rfl),st,m,12,by rw[em];rfl,S5.same s6,(),(),{},{},λp sub ks H' ki le ne G=>kk _ _ ⟨_,p,sub,ks,O,K5.trans s6.keep,ki,ne,(),(λz=>nomatch z),G⟩⟩⟩
 ext ae H4 ⟨H0,p,sub,ks,rfl,K0,ki,kO,PH,PJ,G⟩;show seq_post (λae H'=>∃(sub:List Nd) (ks:List Kd),ae=[!.ref a,!.ref st,!.bl wb,!.ref p,none,none,none]/\Gw.Kids 0 0 .body [bL] sub ks/\ks≠[]/\sub.length<=61/\Gs H0 st p H' (bL::sub)) (λD' kk=>?_) ?_
 .cases wb with
  | false=>show⟨_,O,_,O,aW (kk _ _ ⟨sub,ks,O,ki,kO,(),G⟩)⟩
  | true=>show⟨_,O,_,O,aY ⟨_,O,_,O,H0,p,st,sub,ks,O,G,ki,PH,λmore bV H' ki' l28 G'=>kk _ _ ⟨sub++more,ks++bV,O,ki',λz=>kO (List.append_eq_nil_iff.mp z).1,by rw[qG];have:=PJ O;omega,G'⟩⟩⟩
 clear PH PJ ki kO G sub ks;ext ae H5 ⟨sub,ks,rfl,ki,kO,l61,G⟩;have bk:=qcl ki kO;have l62:(bL::sub).length<=62:=by rw[rC];omega
 clear ki kO l61;generalize bL::sub=ds at bk l62 G;have gM:Same H H5:=λb o e=>by
  have n:b≠st:=λz=>by rw[z,b7]at e;cases e
  show G.old _ _ n (K0 _ _ n (dh _ _ e))
 show⟨_,O,a,ns,1,O,Br.sql_same gM hA,{},{},λcL H6 mD S6 s6=>?_⟩;dsimp only[a7];let⟨ab,hp,nd⟩:=G.bk;have p1:p≠cL:=λz=>by rw[z,mD]at hp;cases hp
 have PK:cB (λb=>b≠cL) H6 p ds:=⟨ab,s6 _ _ hp,nd.keep s6.keep λb _ hb z=>by rw[z,mD]at hb;cases hb⟩;have qq:∀{J J':Hp},Keep1 cL J J'->cB (λb=>b≠cL) J p ds->cB (λb=>b≠cL) J' p ds:=λk h=>by
  let⟨as,e,n⟩:=h;show⟨as,k _ _ p1 e,n.keep k λ_ z _=>z⟩
 have Cq:∀{J:Hp},cB (λb=>b≠cL) J p ds->cB (λ_=>True) J p ds:=λh=>by
  let⟨as,e,n⟩:=h;show⟨as,e,n.keep KeepN.refl λ_ _ _=>trivial⟩
 clear nd hp ab;show⟨_,O,_,O,p,cL,ds,O,PK,p1,(),S6,λP' ls H7 hP lP ll yc S7 K7=>?_⟩;dsimp only[a7];have bk7:=qq K7 PK;have l13:∀l∈ls,l.length=13:=λl hl=>(yc l hl).1
 have kT:∀l∈ls,kJ l:=λl hl=>qcn (yc l hl)
 show⟨_,O,_,O,_,O,cL,O,S7,λF' fs H8 hF lF fne f4 fok fb S8 K8=>?_⟩;have PL:=qq K8 bk7;have lP8:=looks_keep S7 K8 l13 lP;show⟨_,O,_,O,p,cL,ds,O,PL,p1,(),S8,λSh sh H9 hSh lSh PM wd S9 K9=>?_⟩;have Cr:=qq K9 PL;have Cs:=looks_keep S8 K9 l13 lP8;have lF9:=qcp S8 K9 lF;have sho:on sh:=⟨PM.nodup bk.names,by
  have h1:=PM.length_le;rw[qA]at h1;have h2:(eX ds).length<=ds.length:=by unfold eX;rw[qA];show rR _ _
  omega,λp hp=>(wd p hp).1⟩
 have uc:=Z9 bk () fne () fok sho;show⟨O,p,P',F',Sh,false,ds,fs,sh,ls,O,Cq Cr,Cs,ll,l13,lF9,lSh,uc,λU xs H10 hU jI eU _ ux=>?_⟩;dsimp only[a7];have uok:=qcj (ls:=ls) bk fne fb wd;have gb:∀(n:Nat) (d:Nd),ds[n]?=!d->(d.k=.text\/d.k=.head\/d.k=.note)->cD (gN ds fs sh ls) n≠[]:=λn d e hk=>qck bk e hk
 have ul:(gN ds fs sh ls).length=ds.length:=qch;have cx:Ctx ds ls (gN ds fs sh ls):=⟨(),ll,ul,λl hl=>(kT l hl).toLkOk,λr hr=>⟨(uok r hr).1,λu hu=>by let⟨⟨h1,_,h2,_⟩,_⟩:=(uok r hr).2 u hu;show⟨(),h2⟩⟩,gb,λn d e hk=>M7 bk e hk,λn d e hk=>Y0 bk e hk,Bt bk⟩;have lo:Hx ds ls (gN ds fs sh ls):=⟨λn=>Int.le_trans (Hz yc (j:=3) O {} n) {},λn=>Int.le_trans (Hz yc (j:=11) O {} n) {},λn=>Int.le_trans (Hz yc (j:=5) O {} n) {},λr hr u hu=>((uok r hr).2 u hu).1.2.1,λd hd hk=>by
  have:=(bk.form d hd).st;rw[hk]at this;let⟨w1,h1,e,_,h2,_⟩:=this;unfold gF;rw[e];show h2⟩
 have rows:∀{J:Hp},KeepN (λb=>H9 b=none) H10 J->LstAt Bw.RowAt J U (gN ds fs sh ls):=λk=>qci hU eU ux k
 have nn:=Fq cx ds.length (qF _);have nl:=Py cx lo ds.length (qF _);have bl:(vn ds ls (gN ds fs sh ls)).length=ds.length:=pY _;generalize gN ds fs sh ls=us at uok gb ul cx rows nn nl bl;show⟨_,O,_,O,_,O,_,O,_,O,p,P',U,ds,ls,us,O,⟨Cq (qq jI.keep Cr),cU jI Cs,rows KeepN.refl⟩,cx,λL H11 hL yd lL=>?_⟩;have PN:=jI.trans yd;have PP:=S9.same PN;show⟨_,O,cL,200,O,PP,{},{},λrw H12 Em En S12 K12=>⟨_,_,O,O,?_⟩⟩;have HC:Keep1 cL H9 H12:=PN.keep.trans K12;have g0:=Hy ds.length;show⟨gB ds.length+4000,p,P',L,20+rw,ds,ls,_,O,⟨Cq (qq HC Cr),looks_keep S9 HC l13 Cs,qcq PP K12 lL⟩,⟨(),?_,ll,bl,kT,λb hb=>?_,()⟩,(),(),λSp sp H13 mL B9 lSp im sb=>?_⟩
 .let⟨d,sub',bV,rfl,_⟩:=bk.tree;rw[rC];omega
 .let⟨i,hi,rfl⟩:=List.mem_iff_getElem.mp hb;have e:aT (vn ds ls us) i=(vn ds ls us)[i]:=by unfold aT;rw[qB hi];rfl
  rw[<-e];have h1:=nn i;have h2:=nl i;have e2:vn ds ls us=dU ds ls us ds.length:=rfl;rw[e2];show⟨h1.1,()⟩
 dsimp only[a7];show⟨_,O,_,O,_,O,_,O,aM,λR hR=>?_⟩;have jv:=B9.trans (ao hR (.lst [.ref p,.ref P',.ref U,.ref Sp]));have HE:Keep1 cL H9 _:=HC.trans jv.keep;have qcB:Keep1 cL H6 _:=((K7.trans K8).trans K9).trans HE;let⟨o9,e9⟩:=S9.some;show q R p P' U Sp ds ls us sp _ (λb o e=>qcB b o (λz=>by have:=gM.free mD;rw[z,this]at e;cases e) (s6 _ _ (gM _ _ e))) aj (Cq (qq HE Cr)) (looks_keep S9 HE l13 Cs) (rows λb o n e=>(yd.keep.trans (K12.trans jv.keep)) b o (λz=>by rw[z,e9]at n;cases n) e) (fZ (ao hR _) lSp) () λsz lz=>⟨⟨⟨bk,(),ll,kT,lz⟩,im⟩,ul,uok,gb,sb.mono (qcm _ ())⟩
end K32
namespace K32
open L2 Bk Gen Gd Sp0
abbrev PQ:=top 114
abbrev PR:=top 80
abbrev PU:=top 79
def qcC(F:Fun K "_law_whole" "_law_whole" PQ f fd)(T:lV mg):(~~~0) 1 f fd ["_law_found"] EE:=by
 rcases F.go ["_law_found"] with⟨v,rfl,q⟩;show⟨_,(ax (aG (SK (AL T.isinstance (by rfl) T.int (by rfl) pN (pv 0)) (Jk (SM (AL T.isinstance (by rfl) T.bool (by rfl) Wf (pv 0))))))),?_⟩;show⟨_,O,_,_,_,_,O,.int v,⟨_,λu r=>r,WV⟩,_,O,aY ?_⟩;show⟨_,O,_,_,_,_,O,.int v,⟨_,λu r=>r,WW⟩,_,O,?_⟩;show q
def qcD(F:Fun K "end_of" "end_of" PR f fd)(U:A0 mg):(~~~0) 1 f fd ["place"] FV:=by
 rcases F.go ["place"] with⟨a,p,rfl,ha,q⟩;let⟨_,mG⟩:=U.row;let⟨_,Gr⟩:=U.deep;show⟨_,(ax (aG (aH bc (px aF (pv 0) (gi mG)) (px aF (pv 0) (gi Gr))))),?_⟩;show⟨_,O,a,_,_,_,O,O,SqT.of ha,O,_,O,a,_,_,_,O,O,SqT.of ha,O,_,_,O,O,q⟩
theorem qcE(F:Fun K "grid_highs" "grid_highs" PU f fd)(T:lV mg)(U:A0 mg)(PV:⋯ 1 "end_of" ["place"] FV):(~~~0) 2 f fd ["places", "highs"] Cj:=by
 rcases F.go ["places", "highs", "told", "row", "needed"] with⟨a,b,ps,hs,rfl,⟨as,ha,pr⟩,hb,ok,q⟩;let⟨_,mG⟩:=U.row;have la:=qN pr;have lh:=ok.len;have l20:=ok.le;have m80:=ok.many;show⟨_,(ar (sv 2 (a0 bH))
  (ar (fv (r1 T.range (xi true (by rfl) (by rfl) T.max eQ (a1 (cm ["place"] [] [] (a9 (pv 0)) (nv 0) bf (cF PV hr (a1 (pv 0))))) aw)) (nv 3)
  (ar (sm 4 ["place", "high"] ["told", "row"] [2,3] (vj (by rfl) T.zip (a2 (pv 0) (pv 1))) (kj K (n:=2) (by rfl) (by rfl) (bv (nv 0) (bv (nv 1) dO))) (iA (tc bq (cF PV hr (a1 (pv 0))) (aH bc (pv 3) aw))) (aH dQ (pv 1) (cb (r:=pX K) (BU K (by rfl) (by rfl)) T.sum fW (a1 (lJ (r:=mY K) (Be K (by rfl)) (pv 2) (jq (px (r:=b8 K) aF (pv 0) (gi mG))) pi)))))
  (ax (bX (ap (pv 2) (cb (pV (by rfl)) T.max eQ (a1 (aH pB (a0 (a1 aw)) (pv 4)))))))))
  (ax (aG (pv 2))))),?_⟩
 show⟨aM,λL hL=>?_⟩;have s1:=ao hL (.lst []);have bg:af H L (.lst []) L=!.lst (([]:TN).map V.int):=aj;generalize af H L (.lst [])=H1 at s1 bg⊢;show⟨_,O,a,O,⟨_,SqL.of (s1 _ _ ha)⟩,bw (xs:=as.map V.ref) (λi ys ae H'=>H'=H1/\ys=((cX ps).take i).map V.int/\∃z,ae=[z]) (by rw[qA];show aR ()) ⟨O,O,none,O⟩ ?_ ?_ ?_⟩
 .ext i ys ae H' hi ⟨rfl,rfl,_⟩;show⟨SqL.of (s1 _ _ ha),?_⟩;rw[qA,qQ];show qV _ _
 .ext i y ys ae H' hy ⟨rfl,rfl,z,rfl⟩;let⟨c,ec,rfl⟩:=cC hy;let⟨p,ep,hc⟩:=bN pr ec;show⟨_,O,c,p,O,s1 _ _ hc,O,?_,_,O⟩;have ee:(cX ps)[i]?=!(p.r:Int)+p.d:=by unfold cX;rw[qK,ep];rfl
  rw[qS,ee,qD];rfl
 ext ys ae H' ⟨rfl,rfl,_⟩ D hD;have el:((cX ps).take (as.map V.ref).length).map V.int=(cX ps).map V.int:=by
  rw[qH (by unfold cX;rw[qA,qA];omega)]
 rw[el];have sD:=ao hD (.lst ((cX ps).map V.int));have dE:af H' D (.lst ((cX ps).map V.int)) D=!.lst ((cX ps).map V.int):=aj;have s2:=s1.trans sD;have cu:=sD _ _ bg;generalize af H' D (.lst ((cX ps).map V.int))=H2 at sD dE s2 cu⊢;show⟨D,cX ps,.int (many ps),O,SqL.of dE,λz=>?_,λz=>⟨_,qaj λe=>z (by rw[e];rfl),O,qak⟩,_,O,(),(),gg (λi σ H3=>Same H H3/\(∃z3 z4,σ=[!.ref a,!.ref b,!.ref L,z3,z4])/\H3 L=!.lst ((cJ (ps.zip hs) i).map V.int)) ⟨s2,⟨none,none,O⟩,cu⟩ ?_ ?_⟩
 .rw[BK,z];rfl
 .rintro i σ H3 hi ⟨s3,⟨z3,z4,rfl⟩,bI⟩;rw[show(0:Int)+(i:Int)=(i:Int)from uC _];have lz:((as.map V.ref)).length=(hs.map V.int).length:=by rw[qA,qA];omega
  show⟨_,O,_,O,a,b,O,⟨_,SqL.of (s3 _ _ ha)⟩,⟨_,SqL.of (s3 _ _ hb)⟩,Bf (xs:=as.map V.ref) (ys:=hs.map V.int) lz (λj ys ae H4=>Same H3 H4/\ys=(fB ((ps.zip hs).take j) (cJ (ps.zip hs) i) i).map V.int/\∃z1 z2,ae=[z1,z2,!.ref L,!.int i]) (by rw[qA];show aR ()) ⟨Same.refl _,O,none,none,O⟩ ?_ ?_ ?_⟩
  .ext j ys ae H4 hj ⟨s4,rfl,_⟩;show⟨SqL.of ((s3.trans s4) _ _ ha),SqL.of ((s3.trans s4) _ _ hb),?_⟩;unfold fB;rw[qA,qA];show rF (rR _ _) (by rw[qQ];show qV _ _)
  .ext j x y ys ae H4 T' hx hy hT ⟨s4,rfl,z1,z2,rfl⟩;let⟨c,ec,rfl⟩:=cC hx;let⟨n,en,rfl⟩:=mB hy;let⟨p,ep,hc⟩:=bN pr ec;have ez:=qam ep en;have sT:=ao hT (.tup [.ref c,.int n]);have eW:af H4 T' (.tup [.ref c,.int n]) T'=!.tup [.ref c,.int n]:=aj;have fw:=s4.trans sT;generalize af H4 T' (.tup [.ref c,.int n])=H5 at sT eW fw⊢;have PX:PlAt H5 c p:=(s3.trans fw) _ _ hc;have e7:=fw _ _ bI;show⟨T',_,O,SqT.of eW,O,_,_,O,_,_,O,O,?_⟩;show⟨_,O,c,p,O,PX,_,O,_,_,O,O,O,_,O,?_⟩;have et:(ps.zip hs).take (j+1)=(ps.zip hs).take j++[(p,n)]:=by rw[qS,ez];rfl
   by_cases HF:p.r+p.d=i+1
   .rw[qJ (show V.int ((p.r:Int)+p.d)=V.int ((i:Int)+1) by congr 1;omega)];show aY ⟨_,O,_,O,_,O,c,_,_,_,O,O,SqT.of PX,O,_,O,L,_,O,SqL.of e7,λS hS=>?_⟩;have pd:=(ok.ro p (qR ep)).1;have sS:=ao hS (.lst (fN ((cJ (ps.zip hs) i).map V.int) (!(p.r:Int)) none));rw[qan]at sS⊢;show⟨S,_,O,SqL.of aj,_,_,O,O,?_⟩
    .show⟨fw.trans sS,?_,_,_,O⟩;rw[et,NR,if_pos HF,qD];rfl
   .rw[qP (show¬V.int ((p.r:Int)+p.d)=V.int ((i:Int)+1)from λz=>HF (by have:=V.int.inj z;omega))];show aW ⟨fw,?_,_,_,O⟩;rw[et,NR,if_neg HF,rQ]
  .ext ys ae H4 ⟨s4,rfl,z1,z2,rfl⟩ N hN;have en:(ps.zip hs).take (as.map V.ref).length=ps.zip hs:=qH (by rw[qA,List.length_zip];omega);rw[en];have sN:=ao hN (.lst ((fB (ps.zip hs) (cJ (ps.zip hs) i) i).map V.int));have fR:af H4 N (.lst ((fB (ps.zip hs) (cJ (ps.zip hs) i) i).map V.int)) N=!.lst ((fB (ps.zip hs) (cJ (ps.zip hs) i) i).map V.int):=aj;have HG:=s4.trans sN;generalize af H4 N (.lst ((fB (ps.zip hs) (cJ (ps.zip hs) i) i).map V.int))=H5 at sN fR HG⊢;have e7:=HG _ _ bI;have ln:(fB (ps.zip hs) (cJ (ps.zip hs) i) i).length<=100:=by
    unfold fB;rw[qA];show rF (rR _ _) ?_;rw[List.length_zip];omega
   show⟨_,O,.inl ⟨O,_,SqL.of e7⟩,aM,λZ hZ=>?_⟩;have sZ:=ao hZ (.lst [.int 0]);have qp:af H5 Z (.lst [.int 0]) Z=!.lst [.int 0]:=aj;have PY:=sZ _ _ fR;have jN:=sZ _ _ e7;have PZ:=HG.trans sZ;generalize af H5 Z (.lst [.int 0])=H6 at sZ qp PY jN PZ⊢;show⟨_,O,Z,N,_,_,O,O,qp,PY,by rw[qA];show xA (aR (by show 1+_<=1000;omega)),λC hC=>?_⟩;have sC:=ao hC (.lst ([.int 0]++(fB (ps.zip hs) (cJ (ps.zip hs) i) i).map V.int));have ye:af H6 C (.lst ([.int 0]++(fB (ps.zip hs) (cJ (ps.zip hs) i) i).map V.int)) C=!.lst (([0]++fB (ps.zip hs) (cJ (ps.zip hs) i) i).map V.int):=by rw[aj,qD];rfl
   have yf:=sC _ _ jN;have P0:=PZ.trans sC;generalize af H6 C (.lst ([.int 0]++(fB (ps.zip hs) (cJ (ps.zip hs) i) i).map V.int))=H7 at sC ye yf P0⊢;show⟨C,_,_,O,SqL.of ye,qag _,qah _,?_⟩;show⟨L,_,_,O,O,yf,aR (by rw[qA,NS];omega),?_⟩;show⟨hG (s3.trans P0) hL,⟨_,_,O⟩,?_⟩;rw[aj,cJ,qD];rfl
 .ext σ H3 ⟨s3,⟨z3,z4,rfl⟩,bI⟩;rw[yF]at bI;show⟨_,O,q L H3 hL s3 bI⟩
end K32
namespace L2
open PyProof.Rows
end L2
namespace L2
open PyProof.Rows Builtin Builtin.Str
end L2
namespace L2
open Builtin Builtin.Str
end L2
namespace L2
open Builtin Builtin.Str StrLaws
end L2
namespace L2
end L2
namespace L2
open PyProof.Rows
end L2
namespace Bk
open L2 Gen
end Bk
namespace Gen
open L2 Bk
end Gen
namespace L2
end L2
namespace Gen
open L2 Bk
end Gen
namespace L2
open PyProof
section
variable{X:Cx}
inductive P1(neg:Bool):V->V->Hp->VK->Prop
|m (a b:Addr) (xs:List V):x=.ref a->y=.ref b->H a=!.lst xs->H b=!.lst []->Q (.bl (if neg then (Bool.not (xs.isEmpty)) else xs.isEmpty)) H->P1 neg x y H Q
theorem P2(hu:X.A.units+64<cLine):bQ X (compareOp .NotEq) (P1 true):=by
 intro aa s σ H x y v u Q I rx ry h;let⟨a,b,xs,rfl,rfl,ha,hb,q⟩:=h;cases rx;cases ry;let⟨ag,rv,pl,hz⟩:=I.list (SqL.of ha);let⟨gj,ky,Ct,og⟩:=I.list (SqL.of hb);have l1:ag.length=xs.length:=rv.length.symm;have l2:gj.length=0:=ky.length.symm;rw[if_pos O]at q;cases xs with
 | nil =>
   show SeqAt.RcNeAt.lists (e:=λ_=>true) pl.isList Ct.isList (by simp[l1,l2]) () (λj h1 h2=>absurd h1 (by rw[qY,l1];show yO _)) _ _ _ _ ?_
   rw[qY,l1]
   show⟨.bl _,H,I,O,q⟩
 | cons z zs=>show SeqAt.RcNeAt.lists_lengths pl.isList Ct.isList (by simp[l1,l2]) () _ _ _ _ ⟨.bl _,H,I,O,q⟩
end
end L2
namespace K32
open L2 Bk Gen Gd Bd Ins
abbrev P3:=top 15
abbrev P4:=top 126
def mM:Option Nat->V
 | none=>.non
 | some m=>.int (m:Int)
inductive qt:List V->Hp->VK->XK->Prop
|m (B:Addr) (n:Nat) (ds:List Nd):vs=[.ref B,.int n]->cB (λ_=>True) H B ds->Book ds->ds.length<=100->n<ds.length->(∀H',Same H H'->Q (mM (dF ds n)) H')->qt vs H Q E
def P5{n:Nat}(e:ds[n]?=!d)(h:d.k≠.text):dF ds n=none:=by
 unfold dF;rw[e];show if_neg h
def P6{n:Nat}(e:ds[n]?=!d)(h:d.k=.text):dF ds n=(bZ ds d.e n).getLast?.filter (cG ds):=by
 unfold dF;rw[e];show if_pos h
theorem qcF(F:Fun K "aside_ahead" "aside_ahead" P3 f fd)(tE:∃t,mg "ELDER" = !.int 0 t)(tK:∃t,mg "KIND" = !.int 1 t)(jd:⋯ 1 "holds" ["book", "node"] l7):(~~~0) 2 f fd ["book", "node"] qt:=by
 rcases F.go ["book", "node", "held", "place"] with⟨B,n,ds,rfl,⟨as,hB,nd⟩,bk,le,hn,q⟩;let⟨_,pZ⟩:=tE;let⟨_,dM⟩:=tK;show⟨_,(ar (ba (tc iw (px aF (px aC (pv 0) (pv 1)) (gi dM)) aO) (ax (aG oU)) bj)
  (ar (sv 2 (cF jd hr (a2 (pv 0) (px aF (px aC (pv 0) (pv 1)) (gi pZ)))))
  (ar (sv 3 (jr xN PySem.F.slot_list_index PySem.F.type_list_index Nx (pv 2) (a1 (pv 1))))
  (ar (ba (PW.pt (mT (tc bq (pv 3) aw) (oV (tc iw (px aF (px aC (pv 0) (px aC (pv 2) (aH dQ (pv 3) aw))) (gi dM)) aO)))) (ax (aG oU)) bj)
  (ax (aG (px aC (pv 2) (aH dQ (pv 3) aw)))))))),?_⟩
 obtain⟨d,ed⟩:∃d,ds[n]?=!d:=⟨_,qB hn⟩;let⟨a,ea,na⟩:=nd.get ed;let⟨m',s',ha,_⟩:=na.ex;show⟨_,O,_,O,B,_,_,_,O,O,SqL.of hB,aU ea,a,_,_,_,O,O,SqT.of ha,O,O,_,O,?_⟩;rw[show decide (V.str d.k.s=V.str (s!"text"))=decide (d.k=.text)from bY d.k .text]
 by_cases hk:d.k=.text
 .rw[qJ hk];show aW ?_;have eb:=P6 ed hk;obtain⟨e,he⟩:∃e:Nat,d.e=(e:Int)/\e<n:=by
   rcases(Bk.Book.each bk ed).up with⟨z,_⟩ | ⟨_,j,_,ej,lt,_⟩
   .have:=(Bk.Book.each bk ed).body.mpr z;rw[hk]at this;cases this
   .show⟨j,ej,lt⟩
  let⟨he,hen⟩:=he;show⟨_,O,_,O,_,O,B,_,_,_,O,O,SqL.of hB,aU ea,a,_,_,_,O,O,SqT.of ha,O,B,e,ds,_,by rw[he];rfl,⟨as,hB,nd⟩,(),(),λK0 H1 hK s1 bM=>?_⟩;let⟨r,er⟩:=Pe ed he;have hO:H1 K0=!.lst (((ay ds e).map λ(j:Nat)=>!(j:Int)).map Br.ov):=by
   rw[bM,xH,xH];rfl
  have kl:=lZ ds e;rw[he]at eb;show⟨_,O,.inl ⟨O,_,SqL.of hO⟩,_,O,K0,_,(n:Int),(bZ ds e n).length,O,O,hO,by rw[qA];omega,?_,λi hi=>?_,?_⟩
  .rw[qK,er,rJ (qF _),Nat.sub_self];rfl
  .rw[qK,er,rW hi,qB hi];intro z;have z:(((bZ ds e n)[i]:Nat):Int)=(n:Int):=rD (rD z);have:=xy (rL hi);omega
  dsimp only[a7];show⟨_,O,O,_,O,?_⟩;rcases List.eq_nil_or_concat (bZ ds e n)with z | ⟨ys,b,z⟩
  .rw[z]at eb⊢;rw[qJ (show V.int (([]:TM).length:Int)=V.int 0 from rfl)];have q2:=q H1 s1;rw[eb]at q2;show aY (aY q2)
  .rw[List.concat_eq_append]at z;have lz:(bZ ds e n).length=ys.length+1:=by rw[z,qG];rfl
   rw[qP (λy=>by have:=V.int.inj y;omega:¬V.int ((bZ ds e n).length:Int)=V.int 0)];have HH:b∈bZ ds e n:=by rw[z];simp
   have hb:b<ds.length:=vH (xy HH) hn;obtain⟨db,yg⟩:∃d,ds[b]?=!d:=⟨_,qB hb⟩;let⟨c,ec,nc⟩:=nd.get yg;let⟨_,_,hc,_⟩:=nc.ex;have yh:bD (((ay ds e).map λ(j:Nat)=>(j:Int)).map V.int) (((bZ ds e n).length:Int)-1)=!.int (b:Int):=by
    rw[show((bZ ds e n).length:Int)-1=((ys.length:Nat):Int) by omega];show eG ?_;rw[qK,qK,er,z,rZ,rJ (qF _),Nat.sub_self];rfl
   show aW ⟨_,O,_,O,_,O,_,_,O,O,K0,_,_,_,O,O,SqL.of bM,yh,B,_,_,_,O,O,SqL.of (s1 _ _ hB),aU ec,c,_,_,_,O,O,SqT.of (s1 _ _ hc),O,O,_,O,?_⟩;rw[show decide (V.str db.k.s=V.str (s!"aside"))=decide (db.k=.aside)from bY db.k .aside];have eA:cG ds b=decide (db.k=.aside):=by
    unfold cG;rw[yg]
    by_cases y:db.k=.aside<;>simp[y]
   have q2:=q H1 s1;rw[eb,z,List.getLast?_append]at q2
   by_cases hA:db.k=.aside
   .rw[qJ hA];have e3:(([b].getLast?.or ys.getLast?).filter (cG ds))=!b:=by simp[Option.filter,eA,hA]
    rw[e3]at q2;show aW ⟨_,O,_,O,_,_,O,O,K0,_,_,_,O,O,SqL.of bM,yh,q2⟩
   .rw[qP hA];have e3:(([b].getLast?.or ys.getLast?).filter (cG ds))=none:=by simp[Option.filter,eA,hA]
    rw[e3]at q2;show aY q2
 .rw[qP hk];have q2:=q H (Same.refl H);rw[P5 ed hk]at q2;show aY q2
theorem qcG(F:Fun K "_law_beside" "_law_beside" P4 f fd)(T:bP mg):(~~~0) 1 f fd ["_law_book_here", "_law_node"] qt:=by
 rcases F.go ["_law_book_here", "_law_node", "_law_some"] with⟨B,n,ds,rfl,⟨as,hB,nd⟩,bk,le,hn,q⟩;have hu:=hr.units;show⟨_,(ar (sm 2 ["_law_k"] ["_law_book_here", "_law_node"] [0,1] (r1 T.range (pv 1)) (nv 0) (iA (tc bq (px (r:=b8 K) aF (px (r:=cz K) aC (pv 1) (pv 0)) aw) (px (r:=b8 K) aF (px (r:=cz K) aC (pv 1) (pv 2)) aw))) (pv 0))
  (ar (ba (PW.pt (iS (tc bq (px aF (px aC (pv 0) (pv 1)) aw) aO) (iS (tc (P2 hu) (pv 2) (a0 bH)) (jV (tc bq (px aF (px aC (pv 0) (px aC (pv 2) (dH dI aw))) aw) aO))))) (ax (aG (px aC (pv 2) (dH dI aw)))) bj)
  (ax (aG oU)))),?_⟩
 obtain⟨d,ed⟩:∃d,ds[n]?=!d:=⟨_,qB hn⟩;let⟨a,ea,na⟩:=nd.get ed;let⟨m',s',ha,_⟩:=na.ex;show⟨_,O,_,O,(),(),kg (n:=n) (λi ys ae H'=>H'=H/\ys=(bZ ds d.e i).map (λ(j:Nat)=>V.int (j:Int))/\∃z,ae=[z,!.ref B,!.int n]) (aR ()) ⟨O,O,none,O⟩ ?_ ?_ ?_⟩
 .ext i ys ae H' hi ⟨rfl,rfl,_⟩;rw[qA];show rF (rR _ _) (by rw[List.length_range];show qF _)
 .ext i ys ae H' hi ⟨rfl,rfl,z,rfl⟩;rw[show(0:Int)+(i:Int)=(i:Int)from uC _];have P7:ds[i]?=!ds[i]:=qB ();let⟨ai,eai,nai⟩:=nd.get P7;let⟨_,_,hai,_⟩:=nai.ex;have more:bZ ds d.e (i+1)=bZ ds d.e i++(if ds[i].e=d.e then[i]else[]):=by
   unfold bZ;rw[uD,rT]
   congr 1
   by_cases h1:ds[i].e=d.e<;>simp[P7,h1]
  show⟨_,O,_,O,B,_,_,_,O,O,SqL.of hB,aU eai,ai,_,_,_,O,O,SqT.of hai,O,_,O,_,O,B,_,_,_,O,O,SqL.of hB,aU ea,a,_,_,_,O,O,SqT.of ha,O,O,_,O,?_⟩
  by_cases he:ds[i].e=d.e
  .rw[qJ (xC V.int he)];show aY ⟨_,O,O,?_,_,O⟩;rw[more,if_pos he,qD];rfl
  .rw[qP λz=>he (V.int.inj z)];show aW ⟨O,?_,_,O⟩;rw[more,if_neg he,rQ]
 .rintro ys ae H' ⟨rfl,rfl,_⟩ L hL;have s1:=ao hL (.lst ((bZ ds d.e n).map (λ(j:Nat)=>V.int (j:Int))));have bg:af H' L (.lst ((bZ ds d.e n).map (λ(j:Nat)=>V.int (j:Int)))) L=!.lst ((bZ ds d.e n).map (λ(j:Nat)=>V.int (j:Int))):=aj;generalize af H' L (.lst ((bZ ds d.e n).map (λ(j:Nat)=>V.int (j:Int))))=H1 at s1 bg⊢;show⟨_,O,_,O,B,_,_,_,O,O,SqL.of (s1 _ _ hB),aU ea,a,_,_,_,O,O,SqT.of (s1 _ _ ha),O,O,_,O,?_⟩;rw[show decide (V.str d.k.s=V.str (s!"text"))=decide (d.k=.text)from bY d.k .text]
  by_cases hk:d.k=.text
  .rw[qJ hk];have eb:=P6 ed hk;show aY ⟨_,O,aM,λZ hZ=>?_⟩;have s2:=ao hZ (.lst []);have jM:=s1.trans s2;have cu:=s2 _ _ bg;show⟨L,Z,_,O,O,cu,aj,_,O,?_⟩;generalize af H1 Z (.lst [])=H2 at s2 jM cu⊢;have q2:=q H2 jM;rw[eb]at q2;rcases List.eq_nil_or_concat (bZ ds d.e n)with z | ⟨ys,b,z⟩
   .rw[z]at q2⊢;show aW (aW q2)
   .rw[List.concat_eq_append]at z;have HH:b∈bZ ds d.e n:=by rw[z];simp
    have hb:b<ds.length:=vH (xy HH) hn;obtain⟨db,yg⟩:∃d,ds[b]?=!d:=⟨_,qB hb⟩;let⟨c,ec,nc⟩:=nd.get yg;let⟨_,_,hc,_⟩:=nc.ex;have yh:bD ((bZ ds d.e n).map (λ(j:Nat)=>V.int (j:Int))) (-1)=!.int (b:Int):=by
     rw[z,qD];show L2.atI_last _ _
    have ne:((Bool.not (((bZ ds d.e n).map (λ(j:Nat)=>V.int (j:Int))).isEmpty)))=true:=by rw[z];simp
    rw[if_pos O,ne];show aY ⟨_,O,_,O,_,O,L,_,_,_,O,O,SqL.of cu,yh,B,_,_,_,O,O,SqL.of (jM _ _ hB),aU ec,c,_,_,_,O,O,SqT.of (jM _ _ hc),O,O,_,O,?_⟩;rw[show decide (V.str db.k.s=V.str (s!"aside"))=decide (db.k=.aside)from bY db.k .aside];have eA:cG ds b=decide (db.k=.aside):=by
     unfold cG;rw[yg]
     by_cases y:db.k=.aside<;>simp[y]
    rw[z,List.getLast?_append]at q2
    by_cases hA:db.k=.aside
    .rw[qJ hA];have e3:(([b].getLast?.or ys.getLast?).filter (cG ds))=!b:=by simp[Option.filter,eA,hA]
     rw[e3]at q2;show aY ⟨_,O,_,O,L,_,_,_,O,O,SqL.of cu,yh,q2⟩
    .rw[qP hA];have e3:(([b].getLast?.or ys.getLast?).filter (cG ds))=none:=by simp[Option.filter,eA,hA]
     rw[e3]at q2;show aW q2
  .rw[qP hk];have q2:=q H1 s1;rw[P5 ed hk]at q2;show aW (aW q2)
end K32
namespace K32
open L2 Bk Gen Gd Bd Shr Sp0 Ins
abbrev P8:=top 106
abbrev P9:=top 107
def qcH:iH (s!"above") 2:=⟨by ac_rfl,by ac_rfl⟩
theorem qcI(F:Fun K "tops_in_grid" "tops_in_grid" P8 f fd)(T:bP mg)(tS:∃t,mg "SIZE_HIGH" = !.int 0 t)(tR:∃t,mg "ROW" = !.int 0 t)(GN:⋯ 2 "cells_of" ["looks", "held"] BQ)(xu:⋯ 3 "grid_places" ["columns", "cells"] vg)(HI:⋯ 2 "grid_highs" ["places", "highs"] Cj):(~~~0) 4 f fd ["looks", "sizes", "columns", "held"] Hg:=by
 rcases F.go ["looks", "sizes", "columns", "held", "places", "highs"] with⟨p,S,k,cols,ks,ls,sz,rfl,lk,lS,hk,yi,kin,cE,kP,c1,c6,q⟩;let⟨_,kZ⟩:=tS;let⟨_,mG⟩:=tR;show⟨_,(ar (sv 4 (cF xu hr (a2 (pv 2) (cF GN hr (a2 (pv 0) (pv 3))))))
  (ar (sv 5 (cF HI hr (a2 (pv 4) (cm ["one"] ["sizes"] [1] (a9 (pv 3)) (nv 0) bf (px (r:=b8 K) aF (px (r:=cz K) aC (pv 1) (pv 0)) (gi kZ))))))
  (ax (aG (cm ["one", "place"] ["highs"] [5] (vj (by rfl) T.zip (a2 (pv 3) (pv 4))) (kj K (n:=2) (by rfl) (by rfl) (bv (nv 0) (bv (nv 1) dO))) bf (br (a2 (pv 0) (cb (r:=pX K) (BU K (by rfl) (by rfl)) T.sum fW (a1 (lJ (r:=mY K) (Be K (by rfl)) (pv 2) pi (jq (px (r:=b8 K) aF (pv 1) (gi mG))))))))))))),?_⟩
 have cl:(bG ls ks).length=ks.length:=wu;show⟨_,O,_,O,_,O,p,k,ks,ls,O,lk,hk,yi,λm hm=>(kin m hm).1,cE,λC H1 hC s1 lC=>?_⟩;show⟨C,cols,bG ls ks,O,lC,kP,(),c1,c6,λM H2 ps hM s2 lM pd mi=>?_⟩;have ep:=pd.eq;have lp:=pd.len;have aZ:=s1.trans s2;dsimp only[a7];let⟨as,hS,pr⟩:=Ck aZ lS;have gz:KL H2 k ks:=aZ _ _ hk;show⟨_,O,_,O,k,O,⟨_,SqL.of gz⟩,bw (xs:=(ks.map λ(j:Nat)=>(j:Int)).map V.int) (λi ys ae H'=>H'=H2/\(∃z,ae=[z,!.ref S])/\ys=((ks.map (aJ sz)).take i).map V.int) (by rw[qA,qA];show aR ()) ⟨O,⟨none,O⟩,O⟩ ?_ ?_ ?_⟩
 .ext i ys ae H' hi ⟨rfl,_,rfl⟩;show⟨SqL.of gz,?_⟩;rw[qA,qQ];show qV _ _
 .ext i y ys ae H' hy ⟨rfl,⟨z,rfl⟩,rfl⟩;let⟨m,em,rfl⟩:=dN hy;let⟨a,_,_,_,ea,ha⟩:=kW pr (kin m (qR em)).2;show⟨_,O,_,O,S,_,_,_,O,O,SqL.of hS,aU ea,a,_,_,_,O,O,SqT.of ha,O,O,⟨_,O⟩,?_⟩;have ec:(ks.map (aJ sz))[i]?=!aJ sz m:=by rw[qK,em];rfl
  rw[qS,ec,qD];rfl
 ext ys ae H' ⟨rfl,_,rfl⟩ D hD;rw[qH (by rw[qA,qA,qA];show qF _)];have s3:=ao hD (.lst ((ks.map (aJ sz)).map V.int));have dE:af H' D (.lst ((ks.map (aJ sz)).map V.int)) D=!.lst ((ks.map (aJ sz)).map V.int):=aj;generalize af H' D (.lst ((ks.map (aJ sz)).map V.int))=H3 at s3 dE⊢;have hs:=mi.hs (hs:=ks.map (aJ sz)) () (by rw[qA];omega);show⟨M,D,ps,_,O,eJ (λ_ _ z=>s3 _ _ z) s3 lM,dE,hs,λN H4 hN s4 fR=>?_⟩;have fw:=s3.trans s4;have ii:=aZ.trans fw;dsimp only[a7];let⟨bs,Qa,eY⟩:=eJ (F:=PlAt) (λ_ _ z=>fw _ _ z) fw lM;have lb:bs.length=ks.length:=by have:=qN eY;omega
 have yj:KL H4 k ks:=ii _ _ hk;rw[ep]at eY fR lp;have gl:(fG ls (aJ sz) cols ks).length=ks.length:=by unfold fG;rw[qA,List.length_zip];omega
 show⟨_,O,_,O,k,M,O,⟨_,SqL.of yj⟩,⟨_,SqL.of Qa⟩,Bf (xs:=(ks.map λ(j:Nat)=>(j:Int)).map V.int) (ys:=bs.map V.ref) (by rw[qA,qA,qA];omega) (λi ys ae H'=>Same H4 H'/\(∃z0 z1,ae=[z0,z1,!.ref N])/\∃ts,ys=ts.map V.ref/\Paired (Br.PnAt H') ts ((fG ls (aJ sz) cols ks).take i)) (by rw[qA,qA];show aR ()) ⟨Same.refl _,⟨none,none,O⟩,[],O,.nil⟩ ?_ ?_ ?_⟩
 .ext i ys ae H' hi ⟨s5,_,ts,rfl,pt⟩;show⟨SqL.of (s5 _ _ yj),SqL.of (s5 _ _ Qa),?_⟩;rw[qA,qN pt,qQ];show qV _ _
 .ext i x y ys ae H' T' hx hy hT ⟨s5,⟨z0,z1,rfl⟩,ts,rfl,pt⟩;let⟨m,em,rfl⟩:=dN hx;let⟨b,eb,rfl⟩:=cC hy;let⟨pl,HJ,hb⟩:=bN eY eb;have sT:=ao hT (.tup [.int (m:Int),.ref b]);have s6:=s5.trans sT;have yk:Paired (Br.PnAt (af H' T' (.tup [.int (m:Int),.ref b]))) ts ((fG ls (aJ sz) cols ks).take i):=pt.mono λ_ _ z=>sT _ _ z
  show⟨T',_,O,SqT.of aj,O,_,_,O,_,_,O,O,?_⟩;generalize af H' T' (.tup [.int (m:Int),.ref b])=H6 at s6 yk⊢;show⟨_,O,_,O,_,O,b,_,_,_,O,O,SqT.of (s6 _ _ hb),O,(pl.r:Int),O,N,_,O,SqL.of (s6 _ _ fR),λZ hZ=>?_⟩;rw[BS];have s7:=ao hZ (.lst (((cJ ((dg cols (bG ls ks)).zip (ks.map (aJ sz))) (many (dg cols (bG ls ks)))).take pl.r).map V.int));show⟨Z,_,O,SqL.of aj,aM,λt ht=>?_⟩;have s8:=s7.trans (ao ht (.tup [.int (m:Int),.int ((cJ ((dg cols (bG ls ks)).zip (ks.map (aJ sz))) (many (dg cols (bG ls ks)))).take pl.r).sum]));show⟨s6.trans s8,⟨_,_,O⟩,ts++[t],by rw[qD];rfl,?_⟩;have ec:(fG ls (aJ sz) cols ks)[i]?=!(m,((cJ ((dg cols (bG ls ks)).zip (ks.map (aJ sz))) (many (dg cols (bG ls ks)))).take pl.r).sum):=by
   unfold fG;have:(ks.zip (dg cols (bG ls ks)))[i]?=!(m,pl):=List.getElem?_zip_eq_some.mpr ⟨em,HJ⟩;rw[qK,this];rfl
  rw[qS,ec];show(yk.mono λ_ _ z=>s8 _ _ z).snoc aj
 .ext ys ae H' ⟨s5,_,ts,rfl,pt⟩ D hD;rw[qH (by rw[gl,qA,qA];show qF _)]at pt;have gM:=ii.trans s5;show q D _ (gM.free hD) (gM.trans (ao hD _)) ⟨ts,aj,pt.mono λ_ _ z=>ao hD _ _ _ z⟩
end K32
namespace K32
open L2 Bk Gd Bd Shr Sp0 Ins
open Gen
theorem qcJ(F:Fun K "tops_in_pile" "tops_in_pile" P9 f fd)(T:bP mg)(tS:∃t,mg "SIZE_HIGH" = !.int 0 t)(tK:∃t,mg "KIND" = !.int 1 t)(cg:⋯ 1 "look_at" ["looks", "node", "word"] fz)(HK:⋯ 2 "aside_ahead" ["book", "node"] qt):(~~~0) 3 f fd ["book", "looks", "sizes", "held"] Hh:=by
 rcases F.go ["book", "looks", "sizes", "held", "tops", "bottom", "one", "above", "top", "aside", "beside"] with⟨B,p,S,k,ks,ds,ls,sz,rfl,I,cx,hk,yi,kin,q⟩;let⟨_,kZ⟩:=tS;let⟨_,dM⟩:=tK;show⟨_,(ar (sv 4 (a0 bH))
  (ar (sv 5 aw)
  (ar (fv (a9 (cm ["other"] ["book"] [0] (a9 (pv 3)) (nv 0) (iA (tc iw (px (r:=b8 K) aF (px (r:=cz K) aC (pv 1) (pv 0)) (gi dM)) aO)) (pv 0))) (nv 6)
  (ar (sv 7 (jo (tc sj (ln T.len (pv 4)) aw) (cF cg hr (a3 (pv 1) (pv 6) aO)) aw))
  (ar (sv 8 (aH bc (pv 5) (pv 7)))
  (ar (sv 9 (cF HK hr (a2 (pv 0) (pv 6))))
  (ar (sv 10 (jo (jU (Ac (pv 9))) (a0 (a1 (pv 6))) (a0 (a2 (pv 9) (pv 6)))))
  (ar (bX (jr xN vB vD J7 (pv 4) (a1 (cm ["each"] ["top"] [8] (a9 (pv 10)) (nv 0) bf (br (a2 (pv 0) (pv 1)))))))
  (ax (sv 5 (aH bc (pv 8) (cb (pV (by rfl)) T.max eQ (a1 (cm ["each"] ["sizes"] [2] (a9 (pv 10)) (nv 0) bf (px (r:=b8 K) aF (px (r:=cz K) aC (pv 1) (pv 0)) (gi kZ))))))))))))))
  (ax (aG (pv 4)))))),?_⟩
 show⟨aM,λL hL=>?_⟩;have s1:=ao hL (.lst []);have bg:af H L (.lst []) L=!.lst (([]:TQ).map V.ref):=aj;generalize af H L (.lst [])=H1 at s1 bg⊢;let⟨ab,hB,nd⟩:=(I.same s1).bk;have dL:KL H1 k ks:=s1 _ _ hk;show⟨_,O,k,O,⟨_,SqL.of dL⟩,bw (xs:=(ks.map λ(j:Nat)=>(j:Int)).map V.int) (λi ys ae H'=>H'=H1/\(∃z,ae=[z,!.ref B])/\ys=((((ks.take i).filter λm=>(Bool.not (cG ds m))).map λ(j:Nat)=>(j:Int)).map V.int)) (by rw[qA,qA];show aR ()) ⟨O,⟨none,O⟩,O⟩ ?_ ?_ ?_⟩
 .ext i ys ae H' hi ⟨rfl,_,rfl⟩;show⟨SqL.of dL,?_⟩;rw[qA,qA];show rF (rR _ _) (by rw[qQ];show qV _ _)
 .ext i y ys ae H' hy ⟨rfl,⟨z,rfl⟩,rfl⟩;let⟨m,em,rfl⟩:=dN hy;have hm:=kin m (qR em);obtain⟨d,ed⟩:∃d,ds[m]?=!d:=⟨_,qB hm⟩;let⟨a,ea,na⟩:=nd.get ed;let⟨_,_,ha,_⟩:=na.ex;have et:ks.take (i+1)=ks.take i++[m]:=by rw[qS,em];rfl
  have eA:cG ds m=decide (d.k=.aside):=by
   unfold cG;rw[ed]
   by_cases y:d.k=.aside<;>simp[y]
  show⟨_,O,_,O,B,_,_,_,O,O,SqL.of hB,aU ea,a,_,_,_,O,O,SqT.of ha,O,O,_,O,?_⟩;rw[show decide (V.str d.k.s=V.str (s!"aside"))=decide (d.k=.aside)from bY d.k .aside]
  by_cases hA:d.k=.aside
  .rw[qJ hA];show aW ⟨O,⟨_,O⟩,?_⟩;rw[et,rT];simp[eA,hA]
  .rw[qP hA];show aY ⟨_,O,O,⟨_,O⟩,?_⟩;rw[et,rT];simp[eA,hA]
 ext ys ae H' ⟨rfl,_,rfl⟩ D hD;rw[qH (by rw[qA,qA];show qF _)];have Qb:∀m∈ks.filter λm=>(Bool.not (cG ds m)),m<ds.length:=λm hm=>kin m (xL.mp hm).1
 have qcK:(ks.filter λm=>(Bool.not (cG ds m))).length<=100:=rF (rR _ _) yi;have Qc:eZ ds ls (aJ sz) ks=(ks.filter λm=>(Bool.not (cG ds m))).foldl (fH ds ls (aJ sz)) ([],0):=rfl;generalize (ks.filter λm=>(Bool.not (cG ds m)))=fl at Qb qcK Qc⊢;have s2:=ao hD (.lst ((fl.map λ(j:Nat)=>(j:Int)).map V.int));have dE:KL (af H' D (.lst ((fl.map λ(j:Nat)=>(j:Int)).map V.int))) D fl:=aj;have DL:D≠L:=λz=>by rw[z,bg]at hD;cases hD
 have cu:=s2 _ _ bg;have aZ:=s1.trans s2;generalize af H' D (.lst ((fl.map λ(j:Nat)=>(j:Int)).map V.int))=H2 at s2 dE cu aZ⊢;have sm:∀{G:Hp},Keep1 L H2 G->Same H G:=λk1 b o e=>k1 _ _ (λz=>by rw[z,hL]at e;cases e) (aZ _ _ e)
 show⟨D,O,⟨_,SqL.of dE⟩,iV (xs:=(fl.map λ(j:Nat)=>(j:Int)).map V.int) (λi σ G=>Keep1 L H2 G/\(∃z6 z7 z8 z9 cp,σ=[!.ref B,!.ref p,!.ref S,!.ref k,!.ref L,!.int ((fl.take i).foldl (fH ds ls (aJ sz)) ([],0)).2,z6,z7,z8,z9,cp])/\LstAt Br.PnAt G L ((fl.take i).foldl (fH ds ls (aJ sz)) ([],0)).1) ⟨KeepN.refl,⟨none,none,none,none,none,O⟩,[],cu,.nil⟩ ?_ ?_ ?_⟩
 .ext i σ G hi ⟨k1,_⟩;show SqL.of (k1 _ _ DL dE)
 .rintro i y σ G hy ⟨k1,⟨z6,z7,z8,z9,cp,rfl⟩,as,k9,dZ⟩;let⟨m,em,rfl⟩:=dN hy;have hm:=Qb m (qR em);have hi:i<fl.length:=(qI.mp em).1;have et:(fl.take (i+1)).foldl (fH ds ls (aJ sz)) ([],0)=fH ds ls (aJ sz) ((fl.take i).foldl (fH ds ls (aJ sz)) ([],0)) m:=by
   rw[qS,em];show(fl.take i++[m]).foldl _ _=_;rw[List.foldl_append];rfl
  rw[et,Pq];have al:=Hj (ds:=ds) (ls:=ls) (hs:=aJ sz) (ks:=fl.take i) (acc:=([],0));rw[qQ]at al;generalize (fl.take i).foldl (fH ds ls (aJ sz)) ([],0)=acc at dZ al⊢;have IG:=I.same (sm k1);have oF:=qN dZ;have al:acc.1.length<=200:=by simp at al;omega
  dsimp only[a7];show seq_post (λae G'=>G'=G/\ae=[!.ref B,!.ref p,!.ref S,!.ref k,!.ref L,!.int acc.2,!.int m,!.int (if acc.1=[]then 0 else aB ls m 2),z8,z9,cp]) (λD' kk=>?_) ?_
  .show⟨_,O,L,_,O,.inl (SqL.of k9),_,_,O,O,_,O,?_⟩
   by_cases h0:acc.1=[]
   .have e0:as=[]:=rK (by rw[oF,h0];rfl);rw[qP (show¬(((as.map V.ref).length:Nat):Int)>0 by rw[e0];simp)];show aW (kk _ _ ⟨O,by rw[if_pos h0];rfl⟩)
   .have e0:0<as.length:=by rw[oF];show List.length_pos_iff.mpr h0
    rw[qJ (show(((as.map V.ref).length:Nat):Int)>0 by rw[qA];omega)];show aY ⟨_,O,_,O,p,m,2,_,ls,O,IG.lk,by rw[cx.ll];show hm,cx.l13,{},qcH,kk _ _ ⟨O,by rw[if_neg h0];rfl⟩⟩
  ext ae G' ⟨rfl,rfl⟩;show⟨_,O,_,O,_,_,O,O,?_⟩;show a7 8 (V.int (mJ ls acc m)) _ _ _;generalize mJ ls acc m=tp;show⟨_,O,_,O,B,m,ds,O,IG.bk,cx.bk,cx.le,hm,λG1 s3=>?_⟩;have mF:=s3 _ _ k9;have k2:Keep1 L H2 G1:=k1.trans s3.keep;have pr1:Paired (Br.PnAt G1) as acc.1:=dZ.mono λ_ _ z=>s3 _ _ z
  dsimp only[a7];show seq_post (λae G'=>∃Z,ae=[!.ref B,!.ref p,!.ref S,!.ref k,!.ref L,!.int acc.2,!.int m,!.int (if acc.1=[]then 0 else aB ls m 2),!.int tp,!mM (dF ds m),!.ref Z]/\Same G1 G'/\G1 Z=none/\KL G' Z (bz ds m)) (λD' kk=>?_) ?_
  .unfold bz at kk;cases hb:dF ds m with
   | none =>
     rw[hb]at kk
     show⟨_,O,_,O,aY ⟨_,O,aM,λZ hZ=>kk _ _ ⟨Z,O,ao hZ _,hZ,aj⟩⟩⟩
   | some a =>
     rw[hb]at kk
     show⟨_,O,_,O,aW ⟨_,O,_,O,aM,λZ hZ=>kk _ _ ⟨Z,O,ao hZ _,hZ,aj⟩⟩⟩
  ext ae G2 ⟨Z,rfl,s4,Qd,hZ⟩;have bl:=qb0 (ds:=ds) (m:=m);have blt:∀x∈bz ds m,x<sz.length:=λx hx=>by have:=qb1 hx;rw[cx.zl];omega
  generalize bz ds m=zs at hZ bl blt⊢;have yl:=s4 _ _ mF;have k3:Keep1 L H2 G2:=k2.trans s4.keep;have jB:Paired (Br.PnAt G2) as acc.1:=pr1.mono λ_ _ z=>s4 _ _ z
  have ZL:Z≠L:=λz=>by rw[z,mF]at Qd;cases Qd
  show⟨_,O,.inl ⟨O,_,SqL.of yl⟩,_,O,Z,O,⟨_,SqL.of hZ⟩,bw (xs:=(zs.map λ(j:Nat)=>(j:Int)).map V.int) (λi ys ae G'=>Same G2 G'/\(∃z,ae=[z,!.int tp])/\∃ts,ys=ts.map V.ref/\Paired (Br.PnAt G') ts ((zs.map λe=>(e,tp)).take i)) (by rw[qA,qA];show aR ()) ⟨Same.refl _,⟨none,O⟩,[],O,.nil⟩ ?_ ?_ ?_⟩
  .ext i ys ae G' hi ⟨s5,_,ts,rfl,pt⟩;show⟨SqL.of (s5 _ _ hZ),?_⟩;rw[qA,qN pt,qQ];show qV _ _
  .ext i y ys ae G' hy ⟨s5,⟨z,rfl⟩,ts,rfl,pt⟩;let⟨x,ex,rfl⟩:=dN hy;show⟨_,O,_,O,aM,λt ht=>?_⟩;have s6:=ao ht (.tup [.int (x:Int),.int tp]);show⟨s5.trans s6,⟨_,O⟩,ts++[t],by rw[qD];rfl,?_⟩;have ec:(zs.map λe=>(e,tp))[i]?=!(x,tp):=by rw[qK,ex];rfl
   rw[qS,ec];show(pt.mono λ_ _ z=>s6 _ _ z).snoc aj
  ext ys ae G3 ⟨s5,_,ts,rfl,pt⟩ C hC;rw[qH (by rw[qA,qA,qA];show qF _)]at pt;have s6:=s5.trans (ao hC (.lst (ts.map V.ref)));have ye:af G3 C (.lst (ts.map V.ref)) C=!.lst (ts.map V.ref):=aj;have Qe:Paired (Br.PnAt (af G3 C (.lst (ts.map V.ref)))) ts (zs.map λe=>(e,tp)):=pt.mono λ_ _ z=>ao hC _ _ _ z
  generalize af G3 C (.lst (ts.map V.ref))=G4 at s6 ye Qe⊢;have cr:=s6 _ _ yl;have lt:=qN pt;rw[qA]at lt;show⟨L,C,_,_,O,O,cr,ye,xA (aR (by rw[qA,qA];omega)),?_⟩;have tl:=Tups.lst (o:=.lst (as.map V.ref++ts.map V.ref)) cr;have k5:Keep1 L H2 (af G4 L (.lst (as.map V.ref++ts.map V.ref))):=λb o n e=>by
   rw[aE n];show(k3.trans s6.keep) b o n e
  have e7:af G4 L (.lst (as.map V.ref++ts.map V.ref)) L=!.lst ((as++ts).map V.ref):=by rw[aj,qD]
  have HL:KL (af G4 L (.lst (as.map V.ref++ts.map V.ref))) Z zs:=by
   show af G4 L _ Z=_;rw[aE ZL];show s6 _ _ hZ
  have oG:Paired (Br.PnAt (af G4 L (.lst (as.map V.ref++ts.map V.ref)))) (as++ts) (acc.1++zs.map λe=>(e,tp)):=pO (jB.mono λ_ _ z=>tl _ _ (s6 _ _ z)) (Qe.mono λ_ _ z=>tl _ _ z);generalize af G4 L (.lst (as.map V.ref++ts.map V.ref))=G5 at k5 e7 HL oG⊢;let⟨bs,hS5,cQ⟩:=(I.same (sm k5)).sz;show⟨_,O,_,O,Z,O,⟨_,SqL.of HL⟩,bw (xs:=(zs.map λ(j:Nat)=>(j:Int)).map V.int) (λi ys ae G'=>G'=G5/\(∃z,ae=[z,!.ref S])/\ys=((zs.map (aJ sz)).take i).map V.int) (by rw[qA,qA];show aR ()) ⟨O,⟨none,O⟩,O⟩ ?_ ?_ ?_⟩
  .ext i ys ae G' hi ⟨rfl,_,rfl⟩;show⟨SqL.of HL,?_⟩;rw[qA,qQ];show qV _ _
  .ext i y ys ae G' hy ⟨rfl,⟨z,rfl⟩,rfl⟩;let⟨x,ex,rfl⟩:=dN hy;let⟨a,_,_,_,ea,ha⟩:=kW cQ (blt x (qR ex));show⟨_,O,_,O,S,_,_,_,O,O,SqL.of hS5,aU ea,a,_,_,_,O,O,SqT.of ha,O,O,⟨_,O⟩,?_⟩;have ec:(zs.map (aJ sz))[i]?=!aJ sz x:=by rw[qK,ex];rfl
   rw[qS,ec,qD];rfl
  ext ys ae G' ⟨rfl,_,rfl⟩ M hM;rw[qH (by rw[qA,qA,qA];show qF _)];have s7:=ao hM (.lst ((zs.map (aJ sz)).map V.int));have ne:zs.map (aJ sz)≠[]:=λz=>bl.2 (List.map_eq_nil_iff.mp z)
  show⟨M,_,_,O,SqL.of aj,kF ne,oi,_,_,O,O,?_⟩;show⟨k5.trans s7.keep,⟨_,_,_,_,_,O⟩,as++ts,s7 _ _ e7,oG.mono λ_ _ z=>s7 _ _ z⟩
 .ext σ G ⟨k1,⟨z6,z7,z8,z9,cp,rfl⟩,lG⟩;rw[qH (by rw[qA,qA];show qF _),<-Qc]at lG;show⟨_,O,q L G hL (sm k1) lG⟩
end K32
namespace Ins
open L2 Bk Gen Gd Bd Shr Sp0
section
variable{ds:List Nd}{ls:TB}{hs:Nat->Int}{n:Nat}{d:Nd}
def Qf(h:ds[n]?=!d)(hk:d.k=.text\/d.k=.head\/d.k=.note):bB ds ls hs n=[]:=by
 unfold bB;rw[h];show(match !d.k with | some .text | some .head | some .note=>_ | some .shelf=>_ | some .grid=>_ | _=>_)=_;rcases hk with e | e | e<;>rw[e]
def Qg(h:ds[n]?=!d)(hk:d.k=.shelf):bB ds ls hs n=(ay ds n).map λm=>(m,0):=by
 unfold bB;rw[h];show(match !d.k with | some .text | some .head | some .note=>_ | some .shelf=>_ | some .grid=>_ | _=>_)=_;rw[hk]
def Qh(h:ds[n]?=!d)(hk:d.k=.grid):bB ds ls hs n=fG ls hs (aB ls n 7).toNat (ay ds n):=by
 unfold bB;rw[h];show(match !d.k with | some .text | some .head | some .note=>_ | some .shelf=>_ | some .grid=>_ | _=>_)=_;rw[hk]
def Qi(h:ds[n]?=!d)(h1:¬(d.k=.text\/d.k=.head\/d.k=.note))(h2:d.k≠.shelf)(h3:d.k≠.grid):bB ds ls hs n=(eZ ds ls hs (ay ds n)).1:=by
 unfold bB;rw[h];show(match !d.k with | some .text | some .head | some .note=>_ | some .shelf=>_ | some .grid=>_ | _=>_)=_;cases e:d.k with
 | text=>show absurd (.inl e) h1
 | head=>show absurd (.inr (.inl e)) h1
 | note=>show absurd (.inr (.inr e)) h1
 | shelf=>show absurd e h2
 | grid=>show absurd e h3
 | _=>rfl
end
end Ins
namespace K32
open L2 Bk Gd Bd Shr Sp0 Ins
open Gen
abbrev Qj:=top 105
abbrev Qk:=top 104
theorem qcL(F:Fun K "held_tops" "held_tops" Qj f fd)(tK:∃t,mg "KIND" = !.int 1 t)(kH:mg "KINDS_OF_PIECES" = !.ref gH)(KP:∀H:Hp,SqT K H gH (pieceKinds.map V.str))(jd:⋯ 1 "holds" ["book", "node"] l7)(cg:⋯ 1 "look_at" ["looks", "node", "word"] fz)(qcM:⋯ 4 "tops_in_grid" ["looks", "sizes", "columns", "held"] Hg)(qcN:⋯ 3 "tops_in_pile" ["book", "looks", "sizes", "held"] Hh):(~~~0) 5 f fd ["book", "looks", "sizes", "node"] qo:=by
 rcases F.go ["book", "looks", "sizes", "node", "kind", "held"] with⟨B,p,S,n,ds,ls,sz,rfl,I,cx,hn,q⟩;let⟨_,dM⟩:=tK;show⟨_,(ar (sv 4 (px aF (px aC (pv 0) (pv 3)) (gi dM)))
  (ar (ba (tc Du (pv 4) (gr kH)) (ax (aG (a0 bH))) bj)
  (ar (sv 5 (cF jd hr (a2 (pv 0) (pv 3))))
  (ar (ba (tc bq (pv 4) aO) (ax (aG (cm ["one"] [] [] (a9 (pv 5)) (nv 0) bf (br (a2 (pv 0) aw))))) bj)
  (ar (ba (tc bq (pv 4) aO) (ax (aG (cF qcM hr (aI (pv 1) (a3 (pv 2) (cF cg hr (a3 (pv 1) (pv 3) aO)) (pv 5)))))) bj)
  (ax (aG (cF qcN hr (aI (pv 0) (a3 (pv 1) (pv 2) (pv 5))))))))))),?_⟩
 let⟨ab,hB,nd⟩:=I.bk;obtain⟨d,ed⟩:∃d,ds[n]?=!d:=⟨_,qB hn⟩;let⟨c,ec,nc⟩:=nd.get ed;let⟨m',s',hc,_⟩:=nc.ex;have le:=cx.le;show⟨_,O,_,O,B,_,_,_,O,O,SqL.of hB,aU ec,c,_,_,_,O,O,SqT.of hc,O,?_⟩;dsimp only[a7];show⟨_,O,gH,_,O,.inr (KP _),O,ua _,_,O,?_⟩;rw[if_neg qZ,vy]
 by_cases fF:d.k=.text\/d.k=.head\/d.k=.note
 .rw[qJ fF];rw[Qf ed fF]at q;show aY ⟨aM,λt ht=>q t _ ht (ao ht _) ⟨[],aj,.nil⟩⟩
 rw[qP fF];show aW ?_;show⟨_,O,_,O,B,n,ds,_,O,⟨ab,hB,nd⟩,(),hn,λK0 H1 hK s1 bM=>?_⟩;have kl:=lZ ds n;have I1:=I.same s1;dsimp only[a7];show⟨_,O,O,_,O,?_⟩;rw[show decide (V.str d.k.s=V.str (s!"shelf"))=decide (d.k=.shelf)from bY d.k .shelf]
 by_cases hs:d.k=.shelf
 .rw[qJ hs];rw[Qg ed hs]at q;show aY ⟨_,O,K0,O,⟨_,SqL.of bM⟩,bw (xs:=((ay ds n).map λ(j:Nat)=>(j:Int)).map V.int) (λi ys ae G'=>Same H1 G'/\(∃z,ae=[z])/\∃ts,ys=ts.map V.ref/\Paired (Br.PnAt G') ts (((ay ds n).map λm=>(m,0)).take i)) (by rw[qA,qA];show aR ()) ⟨Same.refl _,⟨none,O⟩,[],O,.nil⟩ ?_ ?_ ?_⟩
  .ext i ys ae G' hi ⟨s5,_,ts,rfl,pt⟩;show⟨SqL.of (s5 _ _ bM),?_⟩;rw[qA,qN pt,qQ];show qV _ _
  .ext i y ys ae G' hy ⟨s5,⟨z,rfl⟩,ts,rfl,pt⟩;let⟨x,ex,rfl⟩:=dN hy;show⟨_,O,aM,λt ht=>?_⟩;have s6:=ao ht (.tup [.int (x:Int),.int 0]);show⟨s5.trans s6,⟨_,O⟩,ts++[t],by rw[qD];rfl,?_⟩;have e2:((ay ds n).map λm=>(m,(0:Int)))[i]?=!(x,0):=by rw[qK,ex];rfl
   rw[qS,e2];show(pt.mono λ_ _ z=>s6 _ _ z).snoc aj
  .ext ys ae G3 ⟨s5,_,ts,rfl,pt⟩ C hC;rw[qH (by rw[qA,qA,qA];show qF _)]at pt;have gM:=s1.trans s5;show q C _ (gM.free hC) (gM.trans (ao hC _)) ⟨ts,aj,pt.mono λ_ _ z=>ao hC _ _ _ z⟩
 rw[qP hs];show aW ?_;show⟨_,O,O,_,O,?_⟩;rw[show decide (V.str d.k.s=V.str (s!"grid"))=decide (d.k=.grid)from bY d.k .grid]
 by_cases hg:d.k=.grid
 .rw[qJ hg];rw[Qh ed hg]at q;let⟨l,_,cE,lv⟩:=cx.look hn;have cb:=cE.cols;rw[<-lv]at cb;obtain⟨cn,ym⟩:∃cn:Nat,aB ls n 7=(cn:Int):=⟨(aB ls n 7).toNat,()⟩;rw[ym,yF]at q;show aY ⟨_,O,_,O,_,O,_,O,p,n,7,_,ls,O,I1.lk,by rw[cx.ll];show hn,cx.l13,{},Gh,?_⟩;rw[ym];show⟨_,O,p,S,K0,cn,_,ls,sz,O,I1.lk,I1.sz,bM,(),λm hm=>⟨by rw[cx.ll];show dC hm,by rw[cx.zl];show dC hm⟩,cx.lk,cx.cells n,(),(),λt H2 ht s2 lt=>q t H2 (s1.free ht) (s1.trans s2) lt⟩
 rw[qP hg];rw[Qi ed fF hs hg]at q;show aW ⟨_,O,_,O,_,O,_,O,B,p,S,K0,_,ds,ls,sz,O,I1,cx,bM,(),λm hm=>dC hm,λt H2 ht s2 lt=>q t H2 (s1.free ht) (s1.trans s2) lt⟩
def qcO(F:Fun K "high_of_held" "high_of_held" Qk f fd)(T:bP mg)(tS:∃t,mg "SIZE_HIGH" = !.int 0 t)(HM:⋯ 5 "held_tops" ["book", "looks", "sizes", "node"] qo):(~~~0) 6 f fd ["book", "looks", "sizes", "node"] Hi:=by
 rcases F.go ["book", "looks", "sizes", "node"] with⟨B,p,S,n,ds,ls,sz,rfl,I,cx,hn,q⟩;let⟨_,kZ⟩:=tS;show⟨_,(ax (aG (xi true (by rfl) (by rfl) T.max eQ (a1 (cm ["one", "top"] ["sizes"] [2] (a9 (cF HM hr (aI (pv 0) (a3 (pv 1) (pv 2) (pv 3))))) (kj K (n:=2) (by rfl) (by rfl) (bv (nv 0) (bv (nv 1) dO))) bf (aH bc (pv 1) (px (r:=b8 K) aF (px (r:=cz K) aC (pv 2) (pv 0)) (gi kZ))))) aw))),?_⟩;show⟨_,O,_,O,_,O,_,O,B,p,S,n,ds,ls,sz,O,I,cx,hn,λL H1 hL s1 lL=>?_⟩;have oH:=Cg (ds:=ds) (ls:=ls) (hs:=aJ sz) (n:=n);have yn:=oH.length_le;rw[qA]at yn;have kl:=lZ ds n;have le:=cx.le;have yo:∀x∈bB ds ls (aJ sz) n,x.1<sz.length:=λx hx=>by rw[cx.zl];show dC (oH.subset (yQ hx))
 generalize bB ds ls (aJ sz) n=xs at q lL yn yo;let⟨as,bg,pr⟩:=lL;let⟨bs,hS,cQ⟩:=(I.same s1).sz;have la:=qN pr;show⟨L,O,⟨_,SqL.of bg⟩,bw (xs:=as.map V.ref) (λi ys ae G'=>G'=H1/\(∃z0 z1,ae=[z0,z1,!.ref S])/\ys=((xs.map λx=>x.2+aJ sz x.1).take i).map V.int) (by rw[qA];show aR ()) ⟨O,⟨none,none,O⟩,O⟩ ?_ ?_ ?_⟩
 .ext i ys ae G' hi ⟨rfl,_,rfl⟩;show⟨SqL.of bg,?_⟩;rw[qA,qQ];show qV _ _
 .ext i y ys ae G' hy ⟨rfl,⟨z0,z1,rfl⟩,rfl⟩;let⟨a,ea,rfl⟩:=cC hy;let⟨x,ex,ha⟩:=bN pr ea;let⟨b,_,_,_,eb,hb⟩:=kW cQ (yo x (qR ex));show⟨a,_,O,SqT.of ha,O,_,_,O,_,_,O,O,?_⟩;show⟨_,O,_,O,_,O,S,_,_,_,O,O,SqL.of hS,aU eb,b,_,_,_,O,O,SqT.of hb,O,_,_,O,O,O,⟨_,_,O⟩,?_⟩;have e2:(xs.map λx=>x.2+aJ sz x.1)[i]?=!x.2+aJ sz x.1:=by rw[qK,ex];rfl
  rw[qS,e2,qD];rfl
 .ext ys ae G3 ⟨rfl,_,rfl⟩ D hD;rw[qH (by rw[qA,qA,la];show qF _)];have s2:=ao hD (.lst ((xs.map λx=>x.2+aJ sz x.1).map V.int));show⟨D,_,.int (cf (xs.map λx=>x.2+aJ sz x.1)),O,SqL.of aj,λz=>by rw[z];rfl,λz=>⟨_,kF z,O,oi⟩,q _ (s1.trans s2)⟩
end K32
namespace K32
open L2 Bk Gen Gd Bd
inductive HN:List V->Hp->VK->XK->Prop
|m (l s:Int):vs=[.int l,.int s]->1<=s->s<=1000000->Q (.int (iG l s)) H->HN vs H Q E
def qcP(F:Fun K "rounded_up" "rounded_up" Gg f fd):(~~~0) 1 f fd ["length", "parts"] HN:=by
 rcases F.go ["length", "parts"] with⟨l,sp,rfl,s1,s6,q⟩;show⟨_,(ax (aG (dH dI (aH tz (dH dI (pv 0)) (pv 1))))),?_⟩;show⟨_,O,_,O,_,O,_,_,O,O,⟨(),()⟩,_,O,q⟩
end K32
namespace K32
open L2 Bk Gen Gd
open Bd
open Br
open Bw
abbrev Ql:=top 60
abbrev Qm:=top 59
theorem qcQ(F:Fun K "row_width" "row_width" Ql f fd)(T:BnR mg)(tC:∃t,mg "COUNT" = !.int 0 t)(tB:∃t,mg "BY" = !.int 1 t):(~~~0) 1 f fd ["width", "narrow", "row"] (FC K):=by
 rcases F.go ["width", "narrow", "row"] with⟨t,wd,row,nw,rfl,ht,q⟩;let⟨_,qu⟩:=tC;let⟨_,qcR⟩:=tB;show⟨_,(ax (aG (jo (tc lI (pv 2) (px aF (pv 1) (gi qu))) (cb (mW (by rfl)) T.max eQ (a2 (aH dQ (pv 0) (px aF (pv 1) (gi qcR))) aw)) (pv 0)))),?_⟩;show⟨_,O,_,O,t,_,_,_,O,O,ht,O,_,_,O,O,_,O,ca (λc=>?_) (λc=>?_)⟩
 .have c':row<nw.1:=rH c;show⟨_,O,_,O,t,_,_,_,O,O,ht,O,_,_,O,O,_,_,O,?_⟩;have e:(if(0:Int)>wd-nw.2 then(0:Int)else wd-nw.2)=cR wd nw row:=by
   unfold cR;rw[if_pos c']
   by_cases z:(0:Int)>wd-nw.2
   .rw[if_pos z];omega
   .rw[if_neg z];omega
  show Q (.int (if(0:Int)>wd-nw.2 then(0:Int)else wd-nw.2)) H;rw[e];show q
 .have c':¬row<nw.1:=λz=>c (qJ z)
  have e:wd=cR wd nw row:=by unfold cR;rw[if_neg c']
  show⟨_,O,?_⟩;show Q (.int wd) H;rw[e];show q
theorem qcS(F:Fun K "row_blemish" "row_blemish" Qm f fd)(T:BnR mg)(tL:∃t,mg "TOO_LONG" = !.int 1000000 t)(qcT:⋯ 1 "row_width" ["width", "narrow", "row"] (FC K))(Go:⋯ 1 "row_length" ["units"] Bz):(~~~0) 2 f fd ["units", "first", "last", "width", "narrow", "row"] (Ho K):=by
 rcases F.go ["units", "first", "last", "width", "narrow", "row", "left"] with⟨p,t,i,j,wd,row,nw,us,rfl,⟨as,hp,pr⟩,ht,ij,jl,l1,ok,w0,w1,b0,q⟩;let⟨_,qcU⟩:=tL;have la:=qN pr;show⟨_,(ar (sv 6 (aH dQ (cF qcT hr (a3 (pv 3) (pv 4) (pv 5))) (cF Go hr (a1 (lJ sG (pv 0) (jq (pv 1)) (jq (pv 2)))))))
  (ar (ba (tc lI (pv 6) aw) (ax (aG (jo (tc bq (aH dQ (pv 2) (pv 1)) aw) (aH dQ (gi qcU) (pv 6)) oU))) bj)
  (ax (aG (jo (tc bq (pv 2) (ln T.len (pv 0))) aw (aH qb9 (pv 6) (pv 6))))))),?_⟩
 show⟨_,O,_,O,_,O,t,wd,row,nw,O,ht,?_⟩;show⟨_,O,_,O,_,O,_,O,_,O,p,_,O,SqL.of hp,λS hS=>?_⟩;rw[ZF (as:=as) (i:=i) (j:=j) () ()];have sS:=ao hS (.lst (((as.drop i).take (j-i)).map V.ref));have gJ:af H S (.lst (((as.drop i).take (j-i)).map V.ref)) S=!.lst (((as.drop i).take (j-i)).map V.ref):=aj;generalize af H S (.lst (((as.drop i).take (j-i)).map V.ref))=H1 at sS gJ⊢;have cl:=ZC (us:=us) (i:=i) jl;show⟨S,jF us i j,O,⟨_,gJ,(ZE pr i (j-i)).mono λ_ _=>Bw.UnAt.same sS⟩,λz=>by rw[z]at cl;simp at cl;omega,(),λH2 s2=>?_⟩;have rb:=qca (nw:=nw) row w0 w1 b0;have ln:=ZD ok i j;have aZ:=sS.trans s2;have fu:=aZ _ _ hp;show⟨_,_,O,O,?_⟩;have q2:=q H2 aZ;show a7 6 (V.int (cR wd nw row-dX us i j)) _ _ _;generalize cR wd nw row=room at rb q2⊢;show⟨_,O,_,_,O,O,_,O,ca (λc=>?_) (λc=>?_)⟩
 .have c':room-dX us i j<0:=rH c;show⟨_,O,_,O,_,_,O,O,O,_,O,ca (λd=>?_) (λd=>?_)⟩
  .have d':(j:Int)-i=1:=V.int.inj (rH d);show⟨_,O,_,_,O,O,?_⟩;have e:du us i j room=!1000000-(room-dX us i j):=by
    unfold du;rw[if_pos c',if_pos ()]
   rw[e]at q2;show q2
  .have d':¬(j:Int)-i=1:=λz=>d (qJ (by show V.int ((j:Int)-(i:Int))=V.int 1;rw[z]))
   have e:du us i j room=none:=by
    unfold du;rw[if_pos c',if_neg ()]
   rw[e]at q2;show q2
 .have c':¬room-dX us i j<0:=λz=>c (qJ z)
  show⟨_,O,_,O,p,_,O,.inl (SqL.of fu),O,_,O,ca (λd=>?_) (λd=>?_)⟩
  .have d':(j:Int)=((as.map V.ref).length:Nat):=V.int.inj (rH d);rw[qA]at d';have e:du us i j room=!0:=by
    unfold du;rw[if_neg c',if_pos ()]
   rw[e]at q2;show q2
  .have d':¬(j:Int)=((as.map V.ref).length:Nat):=λz=>d (qJ (by rw[z]))
   rw[qA]at d';show⟨_,O,_,O,_,_,O,O,⟨(),(),(),()⟩,?_⟩;have e:du us i j room=!(room-dX us i j)*(room-dX us i j):=by
    unfold du;rw[if_neg c',if_neg ()]
   rw[e]at q2;show q2
abbrev Qn:=top 62
abbrev Qo:=top 63
abbrev Qp:=top 64
abbrev Qq:=top 65
def qcV(F:Fun K "sums_of_no_row" "sums_of_no_row" Qn f fd)(T:BnR mg):(~~~0) 1 f fd ["units"] Ht:=by
 rcases F.go ["units"] with⟨p,us,rfl,⟨as,hp,pr⟩,l1,q⟩;have la:=qN pr;show⟨_,(ax (aG (aH pB (a0 (a1 aw)) (cm ["unit"] [] [] (a9 (pv 0)) (nv 0) bf oU)))),?_⟩;show⟨aM,λA hA=>?_⟩;have s1:=ao hA (.lst [.int 0]);have Qr:af H A (.lst [.int 0]) A=!.lst [.int 0]:=aj;generalize af H A (.lst [.int 0])=H1 at s1 Qr⊢;have Qs:=s1 _ _ hp;show⟨_,O,p,O,⟨_,SqL.of Qs⟩,bw (xs:=as.map V.ref) (λk ys ae H'=>H'=H1/\ys=List.replicate k V.non/\∃z,ae=[z]) (by rw[qA];show aR ()) ⟨O,O,none,O⟩ ?_ ?_ ?_⟩
 .ext k ys ae H' hk ⟨rfl,rfl,_⟩;show⟨SqL.of Qs,?_⟩;rw[rY];show qF _
 .ext k y ys ae H' hy ⟨rfl,rfl,z,rfl⟩;show⟨O,?_,_,O⟩;rw[List.replicate_succ']
 .ext ys ae H' ⟨rfl,rfl,_⟩ D hD;rw[qA,la];have s2:=ao hD (.lst (List.replicate us.length V.non));have jg:af H' D (.lst (List.replicate us.length V.non)) D=!.lst (List.replicate us.length V.non):=aj;generalize af H' D (.lst (List.replicate us.length V.non))=H2 at s2 jg⊢;show⟨A,D,_,_,O,O,s2 _ _ Qr,jg,?_,λL hL=>?_⟩
  .show 1+_<=sizeLine;rw[rY];show xA (aR ())
  .show q L _ ((s1.trans s2).free hL) ((s1.trans s2).trans (ao hL _)) ?_;unfold OsAt wf;rw[aj,xO,List.map_replicate];rfl
theorem qcW(F:Fun K "beginnings_of" "beginnings_of" Qq f fd)(T:BnR mg)(qcX:⋯ 2 "row_blemish" ["units", "first", "last", "width", "narrow", "row"] (Ho K)):(~~~0) 3 f fd ["units", "last", "width", "narrow", "row"] (Hq K):=by
 rcases F.go ["units", "last", "width", "narrow", "row", "found", "first", "blemish"] with⟨p,t,j,wd,row,nw,us,rfl,hp,ht,jl,ok,q⟩;have le:=ok.le;show⟨_,(ar (sv 5 (a0 bH))
  (ar (fv (E3 (by rfl) T.range (a3 (aH dQ (pv 1) aw) (dH dI aw) (dH dI aw))) (nv 6)
  (ar (sv 7 (cF qcX hr (aI (pv 0) (aI (pv 6) (aI (pv 1) (a3 (pv 2) (pv 3) (pv 4)))))))
  (ar (ba (jU (Ac (pv 7))) (ax SS) bj)
  (ax (bX (jr xN vA vC JZ (pv 5) (Mc (br (a2 (pv 6) (pv 7))) bH)))))))
  (ax (aG (pv 5))))),?_⟩
 show⟨aM,λL hL=>?_⟩;have s1:=ao hL (.lst []);have bg:af H L (.lst []) L=!.lst (([]:TQ).map V.ref):=aj;generalize af H L (.lst [])=H1 at s1 bg⊢;show⟨_,O,_,_,O,O,_,O,_,O,_,_,O,⟨(),(),{},{}⟩,E5 (λi σ H'=>Same H H'/\(∃z6 z7,σ=[!.ref p,!.int j,!.int wd,!.ref t,!.int row,!.ref L,z6,z7])/\∃done,LstAt PnAt H' L done/\done++ig us j (cR wd nw row) (j-i)=fA us j (cR wd nw row)) ⟨s1,⟨none,none,O⟩,[],⟨[],bg,.nil⟩,O⟩ ?_ ?_⟩
 .rintro i σ H' hi ⟨s2,⟨z6,z7,rfl⟩,done,⟨as,cu,pr⟩,ed⟩;have ci:i<j:=()
  obtain⟨k,ek⟩:∃k,j-i=k+1:=⟨j-i-1,()⟩;have ekI:(j:Int)-1-(i:Int)=((k:Nat):Int):=()
  show a7 6 (V.int ((j:Int)-1-(i:Int))) _ _ _;rw[ekI];show⟨_,O,_,O,_,O,_,O,_,O,_,O,p,t,k,j,wd,row,nw,us,O,Bw.RowAt.same s2 hp,sqt_same s2 ht,(),jl,le,ok.ok,ok.w0,ok.w1,ok.b0,λH3 s3=>?_⟩;rw[ek]at ed;have ln:done.length<=j:=by
   have:=xC List.length ed;rw[qG]at this;have h2:=BB us j (cR wd nw row) j;unfold fA at this;omega
  have la:=qN pr;unfold ig at ed;cases eb:du us k j (cR wd nw row)with
  | none =>
    rw[eb]at ed
    show⟨_,O,_,O,aY ?_⟩
    show⟨_,O,q L H3 (s2.trans s3) ?_⟩
    have qk:done=fA us j (cR wd nw row):=by rw[<-ed];show(rQ _).symm
    rw[<-qk]
    show qa s3 ⟨as,cu,pr⟩
  | some b =>
    rw[eb]at ed
    show⟨_,O,_,O,aW ?_⟩
    have bI:=s3 _ _ cu
    show⟨_,O,.inl ⟨O,_,SqL.of bI⟩,_,O,_,O,aM,λt' xr=>?_⟩
    have s4:=ao xr (.tup [.int (k:Int),.int b])
    have Qt:af H3 t' (.tup [.int (k:Int),.int b]) t'=!.tup [.int (k:Int),.int b]:=aj
    have cr:=s4 _ _ bI
    generalize hH4:af H3 t' (.tup [.int (k:Int),.int b])=H4 at s4 Qt cr
    show As _ _ _ _
    rw[show af H3 t' (HO.tup [V.int (k:Int),ov (!b)])=H4 from hH4]
    show⟨L,_,_,O,O,cr,aR (by rw[qA];omega),?_⟩
    have tt:=Tups.lst (o:=.lst (as.map V.ref++[.ref t'])) cr
    show⟨hG ((s2.trans s3).trans s4) hL,⟨_,_,O⟩,done++[(k,b)],⟨as++[t'],by rw[aj,qD];rfl,(pr.mono λ_ _ z=>tt _ _ ((s3.trans s4) _ _ z)).snoc (tt _ _ Qt)⟩,?_⟩
    rw[show j-(i+1)=k by omega,rZ]
    show ed
 .ext σ H' ⟨s2,⟨z6,z7,rfl⟩,done,hd,ed⟩;rw[show j-((j:Int)-1 - -1).toNat=0 by omega]at ed;have qk:done=fA us j (cR wd nw row):=by rw[<-ed];show(rQ _).symm
  rw[qk]at hd;show⟨_,O,q L H' s2 hd⟩
def qcY(F:Fun K "ways_by_end" "ways_by_end" Qp f fd)(T:BnR mg)(qcZ:⋯ 3 "beginnings_of" ["units", "last", "width", "narrow", "row"] (Hq K)):(~~~0) 4 f fd ["units", "width", "narrow", "row"] (Hr K):=by
 rcases F.go ["units", "width", "narrow", "row"] with⟨p,t,wd,row,nw,us,rfl,⟨as,hp,pr⟩,ht,ok,q⟩;have le:=ok.le;have la:=qN pr;have lm:(as.map V.ref).length=us.length:=by rw[qA];omega
 show⟨_,(ax (aG (cm ["last"] ["units", "width", "narrow", "row"] [0,1,2,3] (r1 T.range (aH bc (ln T.len (pv 0)) aw)) (nv 0) bf (cF qcZ hr (aI (pv 1) (aI (pv 0) (a3 (pv 2) (pv 3) (pv 4)))))))),?_⟩;show⟨_,O,p,_,O,.inl (SqL.of hp),_,_,O,O,_,O,by rw[lm];omega,by rw[lm];omega,kg (λk ys ae H'=>Same H H'/\(∃z,ae=[z,!.ref p,!.int wd,!.ref t,!.int row])/\∃bs,ys=bs.map V.ref/\Paired (λa x=>LstAt PnAt H' a x) bs ((je us (cR wd nw row)).take k)) (aR (by rw[lm];omega)) ⟨Same.refl _,⟨none,O⟩,[],O,.nil⟩ ?_ ?_ ?_⟩
 .ext k ys ae H' hk ⟨_,_,bs,rfl,pb⟩;rw[qA,qN pb,qQ];show qV _ _
 .ext k ys ae H' hk ⟨s1,⟨z,rfl⟩,bs,rfl,pb⟩;rw[lm]at hk;have ek:(0:Int)+(k:Int)=((k:Nat):Int):=()
  show a7 0 (V.int (0+(k:Int))) _ _ _;rw[ek];show⟨_,O,_,O,_,O,_,O,_,O,p,t,k,wd,row,nw,us,O,Bw.RowAt.same s1 ⟨as,hp,pr⟩,sqt_same s1 ht,(),ok,λL H2 s2 hL=>?_⟩;show⟨s1.trans s2,⟨_,O⟩,bs++[L],by rw[qD];rfl,?_⟩;rw[qS,FK ()];show(pb.mono λ_ _=>qa s2).snoc hL
 .ext ys ae H' ⟨s1,⟨z,rfl⟩,bs,rfl,pb⟩ D hD;rw[qH (by rw[lm];unfold je;rw[qA,List.length_range];omega)]at pb;have sD:=ao hD (.lst (bs.map V.ref));show q D _ (s1.trans sD) ⟨bs,aj,pb.mono λ_ _=>qa sD⟩
theorem qc0(F:Fun K "ways_of_rows" "ways_of_rows" Qo f fd)(T:BnR mg)(tC:∃t,mg "COUNT" = !.int 0 t)(Qu:⋯ 4 "ways_by_end" ["units", "width", "narrow", "row"] (Hr K)):(~~~0) 5 f fd ["units", "width", "narrow"] (Hs K):=by
 rcases F.go ["units", "width", "narrow", "narrower", "others"] with⟨p,t,wd,nw,us,rfl,⟨as,hp,pr⟩,ht,ok,q⟩;let⟨_,qu⟩:=tC;have le:=ok.le;have la:=qN pr;have lm:(as.map V.ref).length=us.length:=by rw[qA];omega
 show⟨_,(ar (sv 3 (cF Qu hr (aI (pv 0) (a3 (pv 1) (pv 2) aw))))
  (ar (sv 4 (cF Qu hr (aI (pv 0) (a3 (pv 1) (pv 2) (px aF (pv 2) (gi qu))))))
  (ax (aG (cm ["row"] ["narrower", "others", "narrow"] [3,4,2] (r1 T.range (ln T.len (pv 0))) (nv 0) bf (jo (tc lI (pv 0) (px (r:=b8 K) aF (pv 3) (gi qu))) (pv 1) (pv 2))))))),?_⟩
 show⟨_,O,_,O,_,O,p,t,wd,0,nw,us,O,⟨as,hp,pr⟩,ht,ok,λN H1 s1 hN=>?_⟩;have Qv:=sqt_same s1 ht;show⟨_,O,_,O,_,O,_,O,t,_,_,_,O,O,Qv,O,p,t,wd,nw.1,nw,us,O,Bw.RowAt.same s1 ⟨as,hp,pr⟩,Qv,ok,λqeW H2 s2 hO=>?_⟩;have aZ:=s1.trans s2;have fu:=aZ _ _ hp;have um:=sqt_same aZ ht;have hN2:=BD s2 hN;show⟨_,O,p,_,O,.inl (SqL.of fu),_,O,by rw[lm];omega,by rw[lm];omega,kg (λk ys ae H'=>H'=H2/\(∃z,ae=[z,!.ref N,!.ref qeW,!.ref t])/\∃bs,ys=bs.map V.ref/\Paired (λa x=>qb H2 a x) bs ((jf us (cq wd nw)).take k)) (aR (by rw[lm];omega)) ⟨O,⟨none,O⟩,[],O,.nil⟩ ?_ ?_ ?_⟩
 .ext k ys ae H' hk ⟨_,_,bs,rfl,pb⟩;rw[qA,qN pb,qQ];show qV _ _
 .rintro k ys ae H' hk ⟨rfl,⟨z,rfl⟩,bs,rfl,pb⟩;rw[lm]at hk;show⟨_,O,_,O,t,_,_,_,O,O,um,O,_,_,O,O,_,O,ca (λc=>?_) (λc=>?_)⟩
  .have c':(0:Int)+(k:Int)<nw.1:=rH c;show⟨_,O,O,⟨_,O⟩,bs++[N],by rw[qD];rfl,?_⟩;rw[qS,BG ()];have e:cq wd nw k=cR wd nw 0:=by
    unfold cq cR;rw[if_pos (),if_pos ()]
   show pb.snoc ?_;rw[e];show hN2
  .have c':¬(0:Int)+(k:Int)<nw.1:=λz=>c (qJ z)
   show⟨_,O,O,⟨_,O⟩,bs++[qeW],by rw[qD];rfl,?_⟩;rw[qS,BG ()];have e:cq wd nw k=cR wd nw nw.1:=by
    unfold cq cR;rw[if_neg (),if_neg ()]
   show pb.snoc ?_;rw[e];show hO
 .ext ys ae H' ⟨rfl,_,bs,rfl,pb⟩ D hD;rw[qH (by rw[lm];unfold jf;rw[qA,List.length_range];omega)]at pb;have sD:=ao hD (.lst (bs.map V.ref));show q D _ (aZ.trans sD) ⟨bs,aj,pb.mono λ_ _=>BD sD⟩
end K32
namespace K32
open L2 Bk Gen Gd Bd Br
abbrev Qw:=top 66
abbrev Qx:=top 69
abbrev Qy:=top 68
theorem qc1(F:Fun K "least_sum" "least_sum" Qw f fd)(T:BnR mg):(~~~0) 1 f fd ["ahead", "beginnings"] FF:=by
 rcases F.go ["ahead", "beginnings"] with⟨a,b,os,bs,rfl,ha,⟨as,hb,pr⟩,lb,lt,q⟩;have la:=qN pr;show⟨_,(ax (aG (xi false (by rfl) (by rfl) T.min lW (a1 (cm ["first", "blemish"] ["ahead"] [0] (a9 (pv 1)) (kj K (n:=2) (by rfl) (by rfl) (bv (nv 0) (bv (nv 1) dO))) (iA (jU (Ad (px (r:=cz K) aC (pv 2) (pv 0))))) (aH bc (px (r:=cz K) aC (pv 2) (pv 0)) (pv 1)))) oU))),?_⟩;show⟨_,O,b,O,⟨_,SqL.of hb⟩,bw (xs:=as.map V.ref) (λk ys ae H'=>H'=H/\ys=(cands os (bs.take k)).map V.int/\∃z1 z2,ae=[z1,z2,!.ref a]) (by rw[qA];show aR ()) ⟨O,O,none,none,O⟩ ?_ ?_ ?_⟩
 .ext k ys ae H' hk ⟨rfl,rfl,_⟩;show⟨SqL.of hb,?_⟩;rw[qA];show rF (List.length_filterMap_le _ _) ?_;rw[qQ];show qV _ _
 .rintro k y ys ae H' hy ⟨rfl,rfl,z1,z2,rfl⟩;let⟨c,ec,rfl⟩:=cC hy;let⟨x,ex,hc⟩:=bN pr ec;have jQ:=FI (lt x (qR ex));have et:bs.take (k+1)=bs.take k++[x]:=by rw[qS,ex];rfl
  show⟨c,_,O,SqT.of hc,O,_,_,O,_,_,O,O,?_⟩;show⟨_,O,_,O,a,_,_,_,O,O,SqL.of ha,jQ,_,O,?_⟩;cases eo:oA os x.1 with
  | none =>
    show aW ⟨O,?_,_,_,O⟩
    rw[et]
    unfold cands
    rw[List.filterMap_append,qD]
    have:List.filterMap (λx:Nat×Int=>(oA os x.1).map (·+ x.2)) [x]=[]:=by simp[eo]
    rw[this]
    show(rQ _).symm
  | some v =>
    rw[eo]at jQ
    show aY ⟨_,O,_,O,a,_,_,_,O,O,SqL.of ha,jQ,_,O,_,_,O,O,O,?_,_,_,O⟩
    rw[et]
    unfold cands
    rw[List.filterMap_append,qD]
    have:List.filterMap (λx:Nat×Int=>(oA os x.1).map (·+ x.2)) [x]=[v+x.2]:=by simp[eo]
    rw[this]
    rfl
 .ext ys ae H' ⟨rfl,rfl,_⟩ D hD;rw[qH (by rw[qA];omega)];show⟨D,cands os bs,ov (iJ os bs),O,SqL.of aj,λz=>?_,λz=>⟨mq (cands os bs),we z,?_,p8⟩,q _ (ao hD _)⟩
  .unfold iJ;rw[if_pos z];rfl
  .unfold iJ;rw[if_neg z];rfl
theorem qc2(F:Fun K "first_met" "first_met" Qx f fd)(T:BnR mg):(~~~0) 1 f fd ["ahead", "beginnings", "met"] FG:=by
 rcases F.go ["ahead", "beginnings", "met"] with⟨a,b,os,bs,m,rfl,ha,⟨as,hb,pr⟩,lb,lt,hm,q⟩;have la:=qN pr;show⟨_,(ax (aG (cb (Nu (by rfl)) T.min lW (a1 (cm ["first", "blemish"] ["met", "ahead"] [2,0] (a9 (pv 1)) (kj K (n:=2) (by rfl) (by rfl) (bv (nv 0) (bv (nv 1) dO))) (iA (PW.pt (iS (jU (Ad (px (r:=cz K) aC (pv 3) (pv 0)))) (jV (tc bq (aH bc (px (r:=cz K) aC (pv 3) (pv 0)) (pv 1)) (pv 2)))))) (pv 0)))))),?_⟩;show⟨_,O,b,O,⟨_,SqL.of hb⟩,bw (xs:=as.map V.ref) (λk ys ae H'=>H'=H/\ys=((jG os m (bs.take k)).map λi=>((i:Nat):Int)).map V.int/\∃z1 z2,ae=[z1,z2,!.int m,!.ref a]) (by rw[qA];show aR ()) ⟨O,O,none,none,O⟩ ?_ ?_ ?_⟩
 .ext k ys ae H' hk ⟨rfl,rfl,_⟩;show⟨SqL.of hb,?_⟩;rw[qA,qA];show rF (List.length_filterMap_le _ _) ?_;rw[qQ];show qV _ _
 .rintro k y ys ae H' hy ⟨rfl,rfl,z1,z2,rfl⟩;let⟨c,ec,rfl⟩:=cC hy;let⟨x,ex,hc⟩:=bN pr ec;have jQ:=FI (lt x (qR ex));have et:bs.take (k+1)=bs.take k++[x]:=by rw[qS,ex];rfl
  have no:¬(oA os x.1).map (·+ x.2)=!m->((jG os m (bs.take k)).map λi=>((i:Nat):Int)).map V.int=((jG os m (bs.take (k+1))).map λi=>((i:Nat):Int)).map V.int:=λh=>by
   rw[et];unfold jG;rw[List.filterMap_append];have:List.filterMap (λx:Nat×Int=>if(oA os x.1).map (·+ x.2)=!m then !x.1 else none) [x]=[]:=by simp only[List.filterMap_cons,List.filterMap_nil];rw[if_neg h]
   rw[this,rQ]
  show⟨c,_,O,SqT.of hc,O,_,_,O,_,_,O,O,?_⟩;show⟨_,O,_,O,a,_,_,_,O,O,SqL.of ha,jQ,_,O,?_⟩;cases eo:oA os x.1 with
  | none=>show aW (aW ⟨O,no (by rw[eo];show λz=>nomatch z),_,_,O⟩)
  | some v =>
    rw[eo]at jQ
    show aY ⟨_,O,_,O,a,_,_,_,O,O,SqL.of ha,jQ,_,O,_,_,O,O,_,O,O,_,O,ca (λd=>?_) (λd=>?_)⟩
    · have d':v+x.2=m:=V.int.inj (rH d)
      show⟨_,O,O,?_,_,_,O⟩
      rw[et]
      unfold jG
      rw[List.filterMap_append]
      have:List.filterMap (λx:Nat×Int=>if(oA os x.1).map (·+ x.2)=!m then !x.1 else none) [x]=[x.1]:=by simp only[List.filterMap_cons,List.filterMap_nil];rw[if_pos (by rw[eo];show xC some d')]
      rw[this,qD,qD]
      rfl
    · show⟨O,no (by rw[eo];show λz=>d (qJ (xC V.int (rD z)))),_,_,O⟩
 .ext ys ae H' ⟨rfl,rfl,_⟩ D hD;rw[qH (by rw[qA];omega)];let⟨i0,b0,s0,h1,h2,h3⟩:=NC.mp hm;have Qz:i0∈jG os m bs:=FJ.mpr ⟨b0,s0,h1,h2,h3⟩;have ne:((jG os m bs).map λi=>((i:Nat):Int))≠[]:=λz=>by
   rw[List.map_eq_nil_iff.mp z]at Qz;cases Qz
  let⟨j,hj,ej⟩:=qW.mp (we ne);show⟨D,_,(j:Int),O,SqL.of aj,?_,?_,q j _ (ao hD _) ⟨FJ.mp hj,λi' b' s' g1 g2 g3=>?_⟩⟩
  .show qW.mpr ⟨j,hj,O⟩
  .intro x hx;rw[ej];show p8 x hx
  .have:=p8 _ (qW.mpr ⟨i',FJ.mpr ⟨b',s',g1,g2,g3⟩,O⟩:((i':Nat):Int)∈(jG os m bs).map λi=>((i:Nat):Int));rw[<-ej]at this;omega
theorem qc3(F:Fun K "fewest_rows" "fewest_rows" Qy f fd)(T:BnR mg):(~~~0) 1 f fd ["sums"] FH:=by
 rcases F.go ["sums", "whole"] with⟨a,room,us,rfl,⟨as,ha,pr⟩,le,ok,q⟩;have la:=qN pr;have BI:(gI us room).length=us.length+1:=by simp[gI]
 show⟨_,(ar (sm 1 ["ends"] [] [] (a9 (pv 0)) (nv 0) bf (px (r:=cz K) aC (pv 0) (dH dI aw)))
  (ax (aG (jr xN PySem.F.slot_list_index PySem.F.type_list_index Nx (pv 1) (a1 (cb (Nu (by rfl)) T.min lW (a1 (cm ["one"] [] [] (a9 (pv 1)) (nv 0) (iA (jU (Ad (pv 0)))) (pv 0))))))))),?_⟩
 show⟨_,O,a,O,⟨_,SqL.of ha⟩,bw (xs:=as.map V.ref) (λk ys ae H'=>H'=H/\ys=((dD us room).take k).map ov/\∃z,ae=[z]) (by rw[qA];show aR ()) ⟨O,O,none,O⟩ ?_ ?_ ?_⟩
 .ext k ys ae H' hk ⟨rfl,rfl,_⟩;show⟨SqL.of ha,?_⟩;rw[qA,qQ];show qV _ _
 .ext k y ys ae H' hy ⟨rfl,rfl,z,rfl⟩;let⟨c,ec,rfl⟩:=cC hy;let⟨x,ex,hc⟩:=bN pr ec;have kl:k<=us.length:=by
   have:=(qI.mp ex).1;omega
  rw[qe kl]at ex;cases ex;show⟨_,O,_,O,c,_,_,_,O,O,SqL.of hc,ZV (p9 us room k),O,?_,_,O⟩;rw[qS,BE kl,qD];rfl
 ext ys ae H' ⟨rfl,rfl,_⟩ W hW;rw[qH (by rw[qA,BF];omega)];have s1:=ao hW (.lst ((dD us room).map ov));have yp:af H' W (.lst ((dD us room).map ov)) W=!.lst ((dD us room).map ov):=aj;generalize af H' W (.lst ((dD us room).map ov))=H1 at s1 yp⊢;show⟨_,O,.inl ⟨O,_,SqL.of yp⟩,_,O,W,O,⟨_,SqL.of yp⟩,bw (xs:=(dD us room).map ov) (λk ys ae H'=>H'=H1/\ys=(((dD us room).take k).filterMap id).map V.int/\∃z,ae=[z]) (by rw[qA,BF];show aR ()) ⟨O,O,none,O⟩ ?_ ?_ ?_⟩
 .ext k ys ae H' hk ⟨rfl,rfl,_⟩;show⟨SqL.of yp,?_⟩;rw[qA];show rF (List.length_filterMap_le _ _) ?_;rw[qQ];show qV _ _
 .rintro k y ys ae H' hy ⟨rfl,rfl,z,rfl⟩;rw[qK]at hy;let⟨o,eo,rfl⟩:=Option.map_eq_some_iff.mp hy;show⟨_,O,_,O,?_⟩;cases o with
  | none =>
    show aW ⟨O,?_,_,O⟩
    rw[qS,eo,List.filterMap_append,qD]
    show(rQ _).symm
  | some v =>
    show aY ⟨_,O,O,?_,_,O⟩
    rw[qS,eo,List.filterMap_append,qD]
    rfl
 .ext ys ae H' ⟨rfl,rfl,_⟩ D hD;rw[qH (by rw[qA];show qF _)];let⟨ne,oI⟩:=ZW ok (room:=room);show⟨D,_,mq ((dD us room).filterMap id),O,SqL.of aj,we ne,p8,?_⟩;let⟨o,ho,e⟩:=yL.mp (we ne);obtain rfl:o=!_:=e;let⟨k,h1,h2⟩:=NH ho;have s2:=ao hD (.lst (((dD us room).filterMap id).map V.int));show⟨W,dD us room,_,k,O,O,s2 _ _ yp,by rw[BF];omega,h1,h2,q k _ _ (s1.trans s2) (oI h1 h2)⟩
end K32
namespace K32
open L2 Bk Gen Gd
open Bd
open Br
open Bw
abbrev QA:=top 67
abbrev mN:=top 61
def qc4(F:Fun K "chosen_rows" "chosen_rows" QA f fd)(T:BnR mg)(qc5:⋯ 1 "fewest_rows" ["sums"] FH)(qc6:⋯ 1 "first_met" ["ahead", "beginnings", "met"] FG):(~~~0) 2 f fd ["ways", "sums"] FL:=by
 rcases F.go ["ways", "sums", "rows", "last", "row", "first"] with⟨a,b,room,us,rfl,⟨yq,ha,yr⟩,⟨eO,hb,iN⟩,le,ok,q⟩;have lw:=qN yr;have ls:=qN iN;have BI:(gI us room).length=us.length+1:=by simp[gI]
 have lww:(jf us room).length=us.length:=by simp[jf]
 show⟨_,(ar (sv 2 (a0 bH))
  (ar (sv 3 (aH dQ (ln T.len (pv 1)) aw))
  (ar (fv (E3 (by rfl) T.range (a3 (aH dQ (cF qc5 hr (a1 (pv 1))) aw) (dH dI aw) (dH dI aw))) (nv 4)
  (ar (sv 5 (cF qc6 hr (a3 (px aC (pv 1) (pv 4)) (px aC (px aC (pv 0) (pv 4)) (pv 3)) (px aC (px aC (pv 1) (aH bc (pv 4) aw)) (pv 3)))))
  (ar (bX (jr xN PySem.F.slot_list_insert PySem.F.type_list_insert ZI (pv 2) (aI aw (Mc (br (a2 (pv 5) (pv 3))) bH))))
  (ax (sv 3 (pv 5))))))
  (ax (aG (pv 2)))))),?_⟩
 show⟨aM,λL hL=>?_⟩;have s1:=ao hL (.lst []);have bg:af H L (.lst []) L=!.lst (([]:TQ).map V.ref):=aj;generalize af H L (.lst [])=H1 at s1 bg⊢;show⟨_,O,b,_,O,.inl (SqL.of (s1 _ _ hb)),_,_,O,O,?_⟩;have en:(((eO.map V.ref).length:Nat):Int)-1=((us.length:Nat):Int):=by rw[qA];omega
 show a7 3 (V.int ((((eO.map V.ref).length:Nat):Int)-1)) _ _ _;rw[en];show⟨_,O,b,room,us,O,sums_same s1 ⟨eO,hb,iN⟩,le,ok,λk M H2 s2 oI=>?_⟩;have kl:k<=us.length:=oI.1;show⟨_,_,O,O,_,O,_,O,_,_,O,⟨(),(),{},{}⟩,E5 (λi σ H'=>Same H H'/\∃(j:Nat) (rows:List (Nat×Nat)) (m:Int) (z4 z5:Option V),σ=[!.ref a,!.ref b,!.ref L,!.int j,z4,z5]/\LstAt NnAt H' L rows/\rows.length=i/\oA (bC us room (k-i)) j=!m/\j<=us.length/\∀pre,Ch us room (k-i) j pre->Ch us room k us.length (pre++rows)) ⟨s1.trans s2,us.length,[],M,none,none,O,nns_same s2 ⟨[],bg,.nil⟩,O,oI.2.1,qF _,λpre j7=>by rw[rQ];show j7⟩ ?_ ?_⟩
 .ext i σ H' hi ⟨s3,j,rows,m,z4,z5,rfl,⟨QB,bI,QC⟩,lr,hm,jl,eC⟩;have ci:i<k:=()
  obtain⟨r,er⟩:∃r,k-i=r+1:=⟨k-i-1,()⟩;have erI:(k:Int)-1-(i:Int)=((r:Nat):Int):=()
  show a7 4 (V.int ((k:Int)-1-(i:Int))) _ _ _;rw[erI];rw[er]at hm eC;have yt:=s3 _ _ hb;have EA:=s3 _ _ ha;obtain⟨c1,e1⟩:∃c,eO[r]?=!c:=⟨_,qB (show r<eO.length by omega)⟩;let⟨x1,yu,h1⟩:=bN iN e1;rw[qe ()]at yu;cases yu;obtain⟨c2,e2⟩:∃c,eO[r+1]?=!c:=⟨_,qB (show r+1<eO.length by omega)⟩;let⟨x2,QD,h2⟩:=bN iN e2;rw[qe ()]at QD;cases QD;obtain⟨c3,e3⟩:∃c,yq[r]?=!c:=⟨_,qB (show r<yq.length by omega)⟩;let⟨x3,yw,⟨Cu,h3,yx⟩⟩:=bN yr e3;rw[BG ()]at yw;cases yw;have lee:=qN yx;have lel:(je us (room r)).length=us.length+1:=by simp[je]
  obtain⟨c4,e4⟩:∃c,Cu[j]?=!c:=⟨_,qB (show j<Cu.length by omega)⟩;let⟨x4,qv,h4⟩:=bN yx e4;rw[FK jl]at qv;cases qv;have jQ:=FI (os:=bC us room (r+1)) (i:=j) (by rw[p9];omega);rw[hm]at jQ;have hc:=hm;rw[ND jl]at hc;show⟨_,O,_,O,b,_,_,_,O,O,SqL.of yt,aU e1,_,O,_,O,a,_,_,_,O,O,SqL.of EA,aU e3,_,O,c3,_,_,_,O,O,SqL.of (s3 _ _ h3),aU e4,_,O,_,O,_,_,O,O,b,_,_,_,O,O,SqL.of yt,ZG (m:=r+1) () e2,_,O,c2,_,_,_,O,O,SqL.of (OsAt.same s3 h2),jQ,?_⟩;show⟨c1,c4,bC us room r,fA us j (room r),m,O,OsAt.same s3 h1,qa s3 h4,rF (BB _ _ _ _) (),λx hx=>by rw[p9];have:=FD j hx;omega,ZR hc,λi1 H4 s4 met=>?_⟩;let⟨⟨b1,v1,AC,hv1,i9⟩,_⟩:=id met;let⟨ij,Cv⟩:=(NA ok jl).mp AC;have cr:=s4 _ _ bI;show⟨_,O,.inl ⟨O,_,SqL.of cr⟩,_,O,_,O,aM,λt' xr=>?_⟩;have s5:=ao xr (.tup [.int (i1:Int),.int (j:Int)]);have QE:af H4 t' (.tup [.int (i1:Int),.int (j:Int)]) t'=!.tup [.int (i1:Int),.int (j:Int)]:=aj;have e7:=s5 _ _ cr;generalize af H4 t' (.tup [.int (i1:Int),.int (j:Int)])=H5 at s5 QE e7⊢;have oF:=qN QC;show⟨L,_,_,O,O,e7,aR (by rw[qA];omega),?_⟩;have tt:=Tups.lst (o:=.lst (.ref t'::QB.map V.ref)) e7;show⟨_,O,hG ((s3.trans s4).trans s5) hL,i1,(i1,j)::rows,v1,_,_,O,⟨t'::QB,by rw[aj];rfl,.cons (tt _ _ QE) (QC.mono λ_ _ z=>tt _ _ ((s4.trans s5) _ _ z))⟩,by rw[rC,lr],?_,(),λpre j7=>?_⟩
  .rw[show k-(i+1)=r by omega];show hv1
  .rw[show k-(i+1)=r by omega]at j7;have:=eC _ (.snoc j7 hm met);rw[rZ]at this;show this
 .ext σ H' ⟨s3,j,rows,m,z4,z5,rfl,hl,lr,hm,jl,eC⟩;have e0:k-((k:Int)-1 - -1).toNat=0:=()
  rw[e0]at hm eC;let⟨rfl,rfl⟩:=ZT hm;show⟨_,O,q L rows k M H' hL s3 hl (eC [] .nil) oI⟩
theorem qc7(F:FunD K "broken" "broken" mN f fd)(T:BnR mg)(HP:mg "NONE_NARROWER" = !.ref Cw)(qc8:⋯ 5 "ways_of_rows" ["units", "width", "narrow"] (Hs K))(qc9:⋯ 1 "sums_of_no_row" ["units"] Ht)(qda:⋯ 1 "least_sum" ["ahead", "beginnings"] FF)(qdb:⋯ 2 "chosen_rows" ["ways", "sums"] FL):(~~~0) 6 f fd ["units", "width", "narrow"] (spBroken2 K Cw):=by
 rcases F.go ["units", "width", "narrow", "ways", "sums", "row", "ahead"] with⟨p,t,v,wd,nw,us,rfl,hv,⟨as,hp,pr⟩,ht,ok,q⟩;have le:=ok.le;have la:=qN pr;have lm:(as.map V.ref).length=us.length:=by rw[qA];omega
 show⟨_,(ar (sv 3 (cF qc8 hr (a3 (pv 0) (pv 1) (jo (jU (Ac (pv 2))) (gr HP) (pv 2)))))
  (ar (sv 4 (a0 (a1 (cF qc9 hr (a1 (pv 0))))))
  (ar (PS.nox (fv (r1 T.range (ln T.len (pv 0))) (nv 5)
  (ar (sv 6 (px aC (pv 4) (pv 5)))
  (ax (bX (ap (pv 4) (cm ["beginnings"] ["ahead"] [6] (a9 (px aC (pv 3) (pv 5))) (nv 0) bf (cF qda hr (a2 (pv 1) (pv 0))))))))))
  (ax (aG (br (a2 (cF qdb hr (a2 (pv 3) (pv 4))) (pv 4)))))))),?_⟩
 show WC (λv' H1=>∃W,v'=.ref W/\Same H H1/\wg H1 W (jf us (cq wd nw))) (λQ' hQ=>?_) ?_
 .rcases hv with rfl | ⟨rfl,rfl⟩
  .show⟨_,O,_,O,_,O,_,O,aW ⟨_,O,p,t,wd,nw,us,O,⟨as,hp,pr⟩,ht,ok,λW H1 s1 hW=>hQ _ _ ⟨W,O,s1,hW⟩⟩⟩
  .show⟨_,O,_,O,_,O,_,O,aY ⟨p,t,wd,nw,us,O,⟨as,hp,pr⟩,ht,ok,λW H1 s1 hW=>hQ _ _ ⟨W,O,s1,hW⟩⟩⟩
 ext v' H1 ⟨W,rfl,s1,hW⟩;show⟨_,O,p,us,O,Bw.RowAt.same s1 ⟨as,hp,pr⟩,le,λZ H2 hZ s2 HQ=>⟨aM,λS hS=>?_⟩⟩;have s3:=ao hS (.lst [.ref Z]);have jR:af H2 S (.lst [.ref Z]) S=!.lst (([Z]:TQ).map V.ref):=aj;generalize af H2 S (.lst [.ref Z])=H3 at s3 jR⊢;have dh:=(s1.trans s2).trans s3;let⟨yq,kR,yr⟩:=NF s2 hW;have lw:=qN yr;have lww:(jf us (cq wd nw)).length=us.length:=by simp[jf]
 show⟨_,O,p,_,O,.inl (SqL.of (dh _ _ hp)),_,O,by rw[lm];omega,by rw[lm];omega,gg (λr σ H'=>Same H2 H'/\(∃z5 z6,σ=[!.ref p,!.int wd,!v,!.ref W,!.ref S,z5,z6])/\∃eO,H' S=!.lst (eO.map V.ref)/\Paired (λc os=>OsAt H' c os/\H c=none) eO ((gI us (cq wd nw)).take (r+1))) ⟨s3,⟨none,none,O⟩,[Z],jR,?_⟩ ?_ ?_⟩
 .rw[qS,List.take_zero,qe (rS _)];show .cons ⟨OsAt.same s3 HQ,s1.free hZ⟩ .nil
 .rintro r σ H' xt ⟨s4,⟨z5,z6,rfl⟩,eO,iq,iN⟩;rw[lm]at xt;have BI:(gI us (cq wd nw)).length=us.length+1:=by simp[gI]
  have lsa:=qN iN;rw[qQ]at lsa;have er:(0:Int)+(r:Int)=((r:Nat):Int):=()
  show a7 5 (V.int (0+(r:Int))) _ _ _;rw[er];obtain⟨c1,e1⟩:∃c,eO[r]?=!c:=⟨_,qB (show r<eO.length by omega)⟩;let⟨x1,yu,h1,_⟩:=bN iN e1;rw[List.getElem?_take_of_lt (),qe ()]at yu;cases yu;show⟨_,O,_,O,S,_,_,_,O,O,SqL.of iq,aU e1,?_⟩;obtain⟨c3,e3⟩:∃c,yq[r]?=!c:=⟨_,qB (show r<yq.length by omega)⟩;let⟨x3,yw,h3'⟩:=bN yr e3;rw[BG ()]at yw;cases yw;let⟨Cu,h3,yx⟩:=BD s4 h3';have lee:=qN yx;have lel:(je us (cq wd nw r)).length=us.length+1:=by simp[je]
  show⟨_,O,.inl ⟨O,_,SqL.of iq⟩,_,O,_,O,W,_,_,_,O,O,SqL.of (s4 _ _ kR),aU e3,c3,O,⟨_,SqL.of h3⟩,bw (xs:=Cu.map V.ref) (λk ys ae gK=>Same H' gK/\ys=((bC us (cq wd nw) (r+1)).take k).map ov/\∃z,ae=[z,!.ref c1]) (by rw[qA];show aR ()) ⟨Same.refl _,O,none,O⟩ ?_ ?_ ?_⟩
  .ext k ys ae gK hk ⟨s5,rfl,_⟩;show⟨SqL.of (s5 _ _ h3),?_⟩;rw[qA,qQ];show qV _ _
  .ext k y ys ae gK hy ⟨s5,rfl,z,rfl⟩;let⟨c4,e4,rfl⟩:=cC hy;let⟨x4,qv,h4⟩:=bN yx e4;have kl:k<=us.length:=by
    have:=(qI.mp qv).1;omega
   rw[FK kl]at qv;cases qv;show⟨_,O,_,O,c1,c4,bC us (cq wd nw) r,fA us k (cq wd nw r),O,OsAt.same s5 h1,qa s5 h4,rF (BB _ _ _ _) (),λx hx=>by rw[p9];have:=FD k hx;omega,λH6 s6=>⟨s5.trans s6,?_,_,O⟩⟩;rw[qS,show(bC us (cq wd nw) (r+1))[k]?=!iJ (bC us (cq wd nw) r) (fA us k (cq wd nw r)) by
    show((List.range (us.length+1)).map _)[k]?=_;rw[qK,rV ()];rfl,qD]
   rfl
  .ext ys ae gK ⟨s5,rfl,_⟩ D hD;rw[qH (by rw[qA,p9];omega)];have hDn:H D=none:=((s1.trans s2).trans (s4.trans s5)).free hD;have s6:=s5.trans (ao hD (.lst ((bC us (cq wd nw) (r+1)).map ov)));have iL:OsAt (af gK D (.lst ((bC us (cq wd nw) (r+1)).map ov))) D (bC us (cq wd nw) (r+1)):=aj;generalize af gK D (.lst ((bC us (cq wd nw) (r+1)).map ov))=H6 at s6 iL⊢;have kQ:=s6 _ _ iq;show⟨S,_,_,O,O,kQ,aR (by rw[qA];omega),?_⟩;have keep:∀{c:Addr} {i:Nat},OsAt H6 c (bC us (cq wd nw) i)->OsAt (af H6 S (.lst (eO.map V.ref++[.ref D]))) c (bC us (cq wd nw) i):=λ{c i} h=>by
    have n:=ZX h (ZY _ _ _) kQ;unfold OsAt at h⊢;rw[aE n];show h
   show⟨hG (s4.trans s6) hS,⟨_,_,O⟩,eO++[D],by rw[aj,qD];rfl,?_⟩;rw[qS,qe ()];show Paired.snoc ?_ ⟨keep iL,hDn⟩;have all:∀x∈(gI us (cq wd nw)).take (r+1),∃i,x=bC us (cq wd nw) i:=λx hx=>by
    let⟨i,_,e⟩:=qW.mp (yC hx);show⟨i,e.symm⟩
   show paired_mem iN λc x hx h=>by
    let⟨i,rfl⟩:=all x hx;show⟨keep (OsAt.same s6 h.1),h.2⟩
 .ext σ H' ⟨s4,⟨z5,z6,rfl⟩,eO,iq,iN⟩;rw[lm,qH (by simp[gI])]at iN;have ii:=(s1.trans s2).trans s4;have qdc:=iN.mono λ_ _ z=>z.1
  show⟨_,O,_,O,W,S,cq wd nw,us,O,NF (s2.trans s4) hW,⟨eO,iq,qdc⟩,le,ok.ok,λA rows k M H5 hA s5 hA5 ch oI=>⟨_,O,aM,λR hR=>?_⟩⟩;have s6:=ao hR (.tup [.ref A,.ref S]);show q R A S rows k M _ ((ii.trans s5).trans s6) ((ii.trans s5).free hR) aj (ii.free hA) (λz=>?_) (nns_same s6 hA5) ⟨(s1.trans s2).free hS,eO,(s5.trans s6) _ _ iq,iN.mono λ_ _ z=>⟨OsAt.same (s5.trans s6) z.1,z.2⟩⟩ ch oI;rw[z,iq]at hA;cases hA
end K32
namespace K32
open L2 Bk Gd Shr Sp0 Ins
open Bd
open Gen
abbrev QF:=top 103
abbrev QG:=top 102
def QH(pr:Paired (Bw.RowAt H) as us){n:Nat}(h:n<us.length):∃a,as[n]?=!a/\Bw.RowAt H a (cD us n):=by
 let⟨a,ea,ha⟩:=fY pr (qB h);show⟨a,ea,?_⟩;unfold cD;rw[qB h];show ha
def QI{ls:TB}{sp:TC}(cx:xz ds ls sz sp us){n:Nat}(h:n<ds.length):(cD us n).length<=100/\∀u∈cD us n,Br.UOk u/\1<=u.h/\u.h<=100:=by
 have h':n<us.length:=by rw[cx.ul];show h
 unfold cD;rw[qB h'];show cx.uok _ (rL h')
theorem qdd(F:Fun K "narrow_of" "narrow_of" QF f fd)(tS:∃t,mg "SIZE_HIGH" = !.int 0 t)(tW:∃t,mg "WIDE_spans" = !.int 1 t)(HP:mg "NONE_NARROWER" = !.ref Cw)(NN:∀H:Hp,SqT K H Cw [.int 0,.int 0])(HK:⋯ 2 "aside_ahead" ["book", "node"] qt)(Gn:⋯ 1 "rounded_up" ["length", "parts"] HN)(HR:⋯ 1 "rows_high" ["units"] Bw.spRowsHigh):(~~~0) 3 f fd ["book", "units", "spans", "sizes", "node"] (Hu K):=by
 rcases F.go ["book", "units", "spans", "sizes", "node", "aside"] with⟨B,p,U,Sp,S,n,ds,ls,us,sp,sz,rfl,I,cx,hn,gb,q⟩;let⟨_,kZ⟩:=tS;let⟨_,gL⟩:=tW;show⟨_,(ar (sv 5 (cF HK hr (a2 (pv 0) (pv 4))))
  (ar (ba (jU (Ac (pv 5))) (ax (aG (gr HP))) bj)
  (ax (aG (br (a2 (cF Gn hr (a2 (px aF (px aC (pv 3) (pv 5)) (gi kZ)) (cF HR hr (a1 (px aC (pv 1) (pv 4)))))) (px aF (px aC (pv 2) (pv 5)) (gi gL)))))))),?_⟩
 show⟨_,O,_,O,B,n,ds,O,I.bk,cx.bk,cx.le,hn,λH1 s1=>?_⟩;have I1:=I.same s1;dsimp only[a7];cases hb:dF ds n with
 | none=>show⟨_,O,_,O,aY (q Cw (0,0) H1 s1 (NN _) (Int.le_refl _))⟩
 | some a =>
   have ha:=Hk hb
   let⟨zs,hS,prz⟩:=I1.sz
   let⟨bs,mL,eY⟩:=I1.sp
   let⟨as,hU,HS⟩:=I1.un
   let⟨z,_,_,_,ez,hz⟩:=kW prz (show a<sz.length by rw[cx.zl];omega)
   have fM:a<sp.length:=by rw[cx.sl];omega
   let⟨b,eb,yy⟩:=fY eY (BR fM)
   let⟨r,er,oJ⟩:=QH HS (show n<us.length by rw[cx.ul];show hn)
   let⟨ul,uo⟩:=QI cx hn
   have hi:=Px gb uo
   show⟨_,O,_,O,aW ⟨_,O,_,O,S,_,_,_,O,O,SqL.of hS,aU ez,z,_,_,_,O,O,SqT.of hz,O,_,O,_,O,U,_,_,_,O,O,SqL.of hU,aU er,r,_,O,oJ,gb,ul,λH2 s2=>?_⟩⟩
   show⟨_,_,O,hi.1,(),_,O,_,O,Sp,_,_,_,O,O,SqL.of (s2 _ _ mL),aU eb,b,_,_,_,O,O,SqT.of (s2 _ _ yy),O,aM,λt ht=>?_⟩
   show q t (iG (aJ sz a) (cf ((cD us n).map Un.h)),(aT sp a).2) _ ((s1.trans s2).trans (ao ht _)) (SqT.of aj) (cx.sb.at fM).1
theorem qde(F:Fun K "node_size" "node_size" QG f fd)(T:bP mg)(tK:∃t,mg "KIND" = !.int 1 t)(tT:∃t,mg "STUFF" = !.int 4 t)(tW:∃t,mg "WIDE_spans" = !.int 1 t)(tR:∃t,mg "ROWS" = !.int 0 t)(tU:∃t,mg "SUMS" = !.int 1 t)(tC:∃t,mg "COUNT" = !.int 0 t)(kH:mg "KINDS_OF_PIECES" = !.ref gH)(KP:∀H:Hp,SqT K H gH (pieceKinds.map V.str))(qdf:⋯ 6 "high_of_held" ["book", "looks", "sizes", "node"] Hi)(qdg:⋯ 3 "narrow_of" ["book", "units", "spans", "sizes", "node"] (Hu K))(Ce:⋯ 2 "room_of" ["looks", "spans", "node"] BP)(qdh:⋯ 6 "broken" ["units", "width", "narrow"] (Bw.spBroken2 K nn))(HR:⋯ 1 "rows_high" ["units"] Bw.spRowsHigh):(~~~0) 7 f fd ["book", "looks", "units", "spans", "sizes", "node"] Hv:=by
 rcases F.go ["book", "looks", "units", "spans", "sizes", "node", "narrow", "paper"] with⟨B,p,U,Sp,S,n,ds,ls,us,sp,sz,rfl,I,cx,hn,q⟩;let⟨_,dM⟩:=tK;let⟨_,mh⟩:=tT;let⟨_,gL⟩:=tW;let⟨_,QJ⟩:=tR;let⟨_,qdi⟩:=tU;let⟨_,qu⟩:=tC;show⟨_,(ar (ba (tc bq (px aF (px aC (pv 0) (pv 5)) (gi dM)) aO) (ax (aG (br (aI (px aC (px aF (px aC (pv 0) (pv 5)) (gi mh)) aw) (a3 (a0 bH) (a0 bH) aw))))) bj)
  (ar (ba (tc Aq (px aF (px aC (pv 0) (pv 5)) (gi dM)) (gr kH)) (ax (aG (br (aI (cF qdf hr (aI (pv 0) (a3 (pv 1) (pv 4) (pv 5)))) (a3 (a0 bH) (a0 bH) aw))))) bj)
  (ar (sv 6 (cF qdg hr (aI (pv 0) (aI (pv 2) (a3 (pv 3) (pv 4) (pv 5))))))
  (ar (sv 7 (cF qdh hr (a3 (px aC (pv 2) (pv 5)) (px aF (cF Ce hr (a3 (pv 1) (pv 3) (pv 5))) (gi gL)) (pv 6))))
  (ax (aG (br (aI (aH fK (ln T.len (px aF (pv 7) (gi QJ))) (cF HR hr (a1 (px aC (pv 2) (pv 5))))) (a3 (px aF (pv 7) (gi QJ)) (px aF (pv 7) (gi qdi)) (px aF (pv 6) (gi qu))))))))))),?_⟩
 let⟨ab,hB,nd⟩:=I.bk;obtain⟨d,ed⟩:∃d,ds[n]?=!d:=⟨_,qB hn⟩;let⟨a,ea,na⟩:=nd.get ed;let⟨_,m',s',ha,_,_,st⟩:=na;let⟨_,jE,fS,cQ⟩:=st;have none:∀{G:Hp} {v:Int} {X Y t:Addr},Same H G->G X=none->af G X (.lst []) Y=none->af (af G X (.lst [])) Y (.lst []) t=none->Q (.ref t) (af (af (af G X (.lst [])) Y (.lst [])) t (.tup [.int v,.ref X,.ref Y,.int 0])):=λ{G v X Y t} s0 hX hY ht=>by
  have s1:=ao hX (.lst []);have s2:=ao hY (.lst []);have s3:=ao ht (.tup [.int v,.ref X,.ref Y,.int 0]);show q t ⟨v,[],[],0⟩ _ (s0.trans ((s1.trans s2).trans s3)) ⟨X,Y,aj,s0.free hX,⟨[],(s2.trans s3) _ _ aj,.nil⟩,(s0.trans s1).free hY,[],s3 _ _ aj,.nil⟩
 show⟨_,O,_,O,B,_,_,_,O,O,SqL.of hB,aU ea,a,_,_,_,O,O,SqT.of ha,O,O,_,O,?_⟩;rw[show decide (V.str d.k.s=V.str (s!"picture"))=decide (d.k=.picture)from bY d.k .picture]
 by_cases hp:d.k=.picture
 .rw[qJ hp];let⟨w1,h1,iI⟩:=cx.pic n d ed hp;have mE:jE[1]?=!.int h1:=by
   rw[iI]at cQ;cases cQ with
   | cons q1 t1 => cases t1 with
     | cons q2 _=>rw[show _=V.int h1 from q2];rfl
  show aY ⟨_,O,_,O,B,_,_,_,O,O,SqL.of hB,aU ea,a,_,_,_,O,O,SqT.of ha,O,s',_,_,_,O,O,SqL.of fS,eG (j:=1) mE,aM,λX hX=>⟨aM,λY hY=>⟨aM,λt ht=>none (Same.refl H) hX hY ht⟩⟩⟩
 rw[qP hp];show aW ?_;show⟨_,O,_,O,B,_,_,_,O,O,SqL.of hB,aU ea,a,_,_,_,O,O,SqT.of ha,O,gH,_,O,.inr (KP _),O,ua _,_,O,?_⟩;rw[if_pos O,vy]
 by_cases fF:d.k=.text\/d.k=.head\/d.k=.note
 rotate_left
 .rw[qP fF];show aY ⟨_,O,_,O,_,O,_,O,B,p,S,n,ds,ls,sz,O,I.toInT,cx.toCx4,hn,λG s0=>⟨aM,λX hX=>⟨aM,λY hY=>⟨aM,λt ht=>none s0 hX hY ht⟩⟩⟩⟩
 rw[qJ fF];show aW ?_;have gb:=cx.un n d ed fF;let⟨ul,uo⟩:=QI cx hn;have hi:=Px gb uo;show⟨_,O,_,O,_,O,_,O,_,O,B,p,U,Sp,S,n,ds,ls,us,sp,sz,O,I,cx,hn,gb,λt nw H1 s1 ht nw0=>?_⟩;have I1:=I.same s1;dsimp only[a7];let⟨as,hU,HS⟩:=I1.un;let⟨r,er,oJ⟩:=QH HS (show n<us.length by rw[cx.ul];show hn);have QK:n<sp.length:=by rw[cx.sl];show hn
 show⟨_,O,_,O,U,_,_,_,O,O,SqL.of hU,aU er,_,O,_,O,_,O,p,Sp,n,ls,sp,O,I1.lk,I1.sp,by rw[cx.ll];show hn,QK,cx.l13,λrm H2 yz s2 Cy=>?_⟩;let⟨l,_,cE,lv⟩:=cx.look hn;have rb:=OL (ls:=ls) (by rw[lv];show cE.ins) (cx.sb.at QK);show⟨rm,_,_,_,O,O,SqT.of Cy,O,_,O,r,t,_,_,nw,_,O,.inl O,Bw.RowAt.same s2 oJ,Br.sqt_same s2 ht,⟨gb,ul,λu hu=>(uo u hu).1,rb.1,rb.2,nw0⟩,λR A' B' rows k M H3 s3 hR sW hA ne QL FO _ _=>?_⟩;dsimp only[a7];have Cz:=s2.trans s3;have dh:=s1.trans Cz;have qdj:=QL;let⟨ra,CA,prr⟩:=qdj;show⟨_,O,R,_,_,_,O,O,SqT.of sW,O,A',_,O,.inl (SqL.of CA),_,O,_,O,U,_,_,_,O,O,SqL.of (Cz _ _ hU),aU er,r,_,O,Bw.RowAt.same Cz oJ,gb,ul,λH4 s4=>?_⟩;have fw:=Cz.trans s4;let⟨hB0,bbs,hBL,prB⟩:=FO;show⟨_,_,O,O,.inr ⟨(),()⟩,_,O,R,_,_,_,O,O,SqT.of (s4 _ _ sW),O,_,O,R,_,_,_,O,O,SqT.of (s4 _ _ sW),O,_,O,t,_,_,_,O,O,Br.sqt_same fw ht,O,aM,λx hx=>?_⟩;have s5:=ao hx (.tup [.int (((ra.map V.ref).length:Nat)*cf ((cD us n).map Un.h)),.ref A',.ref B',.int nw.1]);have ku:=s4.trans s5;have HU:=s1.trans s2;show q x ⟨((ra.map V.ref).length:Nat)*cf ((cD us n).map Un.h),rows,_,nw.1⟩ _ (dh.trans ku) ⟨A',B',aj,HU.free hA,Br.nns_same ku QL,HU.free hB0,bbs,ku _ _ hBL,prB.mono λc os y=>⟨ku _ _ y.1,HU.free y.2⟩⟩
end K32
namespace K32
open L2 Bk Gen
abbrev QM:=top 12
abbrev QN:=top 13
theorem qdk(F:Fun K "elders_of" "elders_of" QN f fd)(U:∃t,mg "ELDER" = !.int 0 t):(~~~0) 1 f fd ["book", "node"] EH:=by
 rcases F.go ["book", "node", "elders", "above"] with⟨p,i,l,d,ds,N,rfl,⟨as,hp,nd⟩,ed,lv,ll,q⟩;let⟨_,pZ⟩:=U;show⟨_,(ar (sv 2 (a0 bH))
  (ar (sv 3 (px aF (px aC (pv 0) (pv 1)) (gi pZ)))
  (ar (Ai uO (tc iw (pv 3) (dH dI aw)) (ar (bX (ap (pv 2) (pv 3)))
  (ax (sv 3 (px aF (px aC (pv 0) (pv 3)) (gi pZ))))))
  (ax (aG (pv 2)))))),?_⟩
 show⟨aM,λL hL=>?_⟩;have s1:=ao hL (.lst []);have rm:=Mb lv ed;let⟨a,ea,na⟩:=nd.get ed;let⟨m',s',ha,_⟩:=na.ex;show⟨_,O,_,O,p,_,_,_,O,O,SqL.of (s1 _ _ hp),aU ea,a,_,_,_,O,O,SqT.of (s1 _ _ ha),O,?_⟩;show⟨λm σ H'=>Same H H'/\∃(pre:TN) (ab:Int),σ=[!.ref p,!.int i,!.ref L,!.int ab]/\H' L=!.lst (pre.map V.int)/\EG ds ab m/\pre++iC ds m ab=iC ds l d.e,⟨l,s1,[],_,O,aj,rm,O⟩,?_⟩;ext m σ H' ⟨s2,pre,ab,rfl,hl,rm,eq⟩;show⟨_,O,_,O,O,_,O,?_⟩;rcases rm with⟨rfl,rfl⟩ | ⟨j,k',rfl,lj,rfl⟩
 .rw[qJ (O:V.int (-1)=V.int (-1))];show aW ⟨_,O,?_⟩;rw[iC,rQ]at eq;subst eq;show q L H' hL s2 hl
 .rw[qP (λz=>by have:=V.int.inj z;omega:¬V.int (j:Int)=V.int (-1))];show aY ⟨λae gK=>Same H gK/\∃(ab:Int),ae=[!.ref p,!.int i,!.ref L,!.int ab]/\gK L=!.lst ((pre++[(j:Int)]).map V.int)/\EG ds ab k'/\(pre++[(j:Int)])++iC ds k' ab=iC ds l d.e,?_,?_⟩
  .ext ae gK ⟨s3,ab,rfl,h3,rm,eq'⟩;show⟨k',rX _,s3,pre++[(j:Int)],ab,O,h3,rm,eq'⟩
  .let⟨d2,HV⟩:=lj.nd;have rm2:=Mb lj HV;let⟨a2,ea2,na2⟩:=nd.get HV;let⟨m3,s3,ha2,_⟩:=na2.ex;have pl:pre.length<=999:=by have:=xC List.length eq;rw[qG,AV,AV]at this;omega
   have s4:Same H (af H' L (.lst (pre.map V.int++[.int (j:Int)]))):=hG s2 hL;show⟨_,O,.inl ⟨O,_,SqL.of hl⟩,_,O,L,_,_,O,O,hl,aR (by rw[qA];omega),?_⟩;show⟨_,O,_,O,p,_,_,_,O,O,SqL.of (s4 _ _ hp),aU ea2,a2,_,_,_,O,O,SqT.of (s4 _ _ ha2),O,?_⟩;show⟨s4,_,O,by rw[aj];simp,rm2,by rw[XG HV]at eq;rw[<-eq];simp⟩
def qdl(F:Fun K "level_of" "level_of" QM f fd)(T:Bn mg)(qdm:⋯ 1 "elders_of" ["book", "node"] EH):(~~~0) 2 f fd ["book", "node"] EI:=by
 rcases F.go ["book", "node"] with⟨p,i,l,ds,N,rfl,B,lv,ll,q⟩;show⟨_,(ax (aG (ln T.len (cF qdm hr (a2 (pv 0) (pv 1)))))),?_⟩;let⟨d,ed⟩:=lv.nd;show⟨_,O,_,O,p,i,l,d,ds,N,O,B,ed,lv,ll,λL H' hL s1 h1=>?_⟩;show⟨L,_,O,.inl (SqL.of h1),?_⟩;rw[qA,AV];show q H' s1
end K32
namespace L2
open PyProof.Rows
end L2
namespace HT
open PyProof.Rows
end HT
namespace L2
open PySem.Calls PyProof.Rows PySem.W
def Un.less(k:∀b o,h.get? b=!o->h1.get? b=!o)(hL:h.objs.size<=L)(u:Un (L::fs) [] H H' h1 h'):Un fs [] H H' h h':=by
 have ne:∀{b:Addr} {o:Obj},h.get? b=!o->b≠L:=λe z=>by
  have:=qL e;rw[z]at this;show absurd this (Nat.not_lt_of_le hL)
 show⟨λb o e n hb he=>u.keep b o (k b o e) n (λz=>?_) he,λb o e n hb he=>u.slot b o (k b o e) n (qU _ hb) he,λb o e n he=>u.free b o (k b o e) n he,λb o e he=>u.there b o (k b o e) he,u.tups,u.frzs,u.tbls⟩;rcases qO.mp z with z | z
 .show ne e z
 .show hb z
def mO(c:Addr)(qual:Str):HO:=.ext λh=>h.CodeRec (.ref c) qual
section
variable{P:Program}{w:World}{K:W.Frag}{mg:TJ}{base:Heap}{A:Around}{outer:List Env}{s s':Shared}{H H':Hp}{h h':Heap}{l I:Addr}{xs:List V}
def HOk.but(x:HOk P w H h)(hI:H I=none)(k:∀b u,b≠I->h.get? b=!u->h'.get? b=!u):HOk P w H h':=λa o e =>
 (x a o e).stay (λb u z q=>k b u (λy=>by
  rcases z with z | z
  .rw[<-z,y,hI]at e;cases e
  .rw[y,hI]at z;cases z) q) (λ_ q=>q) λ_ _ q=>q
def HOk.reT(x:HOk P w H h)(hl:H l=none)(new:∀H2:Hp,ObjOk P w H2 h l (.lst xs)):HOk P w (af H l (.lst xs)) h:=λa o e=>by
 by_cases z:a=l
 .rw[z,aj]at e;cases e;rw[z];show new _
 .rw[aE z]at e;show(x a o e).stay (λ_ _ _ q=>q) (λb q=>by rw[aE (λz=>by rw[z,hl]at q;cases q)];show q) λb ys q=>by rw[aE (λz=>by rw[z,hl]at q;cases q)];show q
theorem qdn(u:Un fs [] H H' h h'):∀(l:List Env),(∀b∈cS l,b∈fs/\H b=none)->h.FunFrames base l->h'.FunFrames base l:=by
 intro l
 induction l with
 | nil=>intro _ _;trivial
 | cons env r ih =>
   intro hs hl
   let⟨hk,⟨L,o,hf,hn,ho,hd⟩,hr⟩:=hl
   have hL:=hs L (by unfold cS;rw[yP,hf];show rB)
   let⟨sl,e⟩:=u.slot L o ho hL.2 hL.1 ∅
   show⟨hk,⟨L,_,hf,hn,e,hd⟩,ih (λb hb=>hs b (by unfold cS;rw[yP,hf];show qU _ hb)) hr⟩
def Env0.un(e:Env0 P w K mg base A outer s H)(u:Un (cS outer) [] H H' s.heap s'.heap)(hok:HOk P w H' s'.heap)(bare:AllBare s'.gens)(sz: ~~~s<= ~~~s'):Env0 P w K mg base A outer s' H':=by
 have nf:∀{b:Addr} {o:Obj},base.get? b=!o->b∉cS outer:=λq hb=>by rw[(e.funs.mem hb).1]at q;cases q
 show⟨e.frames,e.mod,λb o q=>⟨u.keep b o (e.bs b o q).1 (e.bs b o q).2 (nf q) ∅,u.free b o (e.bs b o q).1 (e.bs b o q).2 ∅⟩,rF e.bsz sz,qdn u outer (λb hb=>⟨hb,e.frf b hb⟩) e.funs,λb hb=>?_,hok,bare⟩;let⟨_,o,ho,_⟩:=e.funs.mem hb;show u.free b o ho (e.frf b hb) ∅
end
def jS(H:Hp)(Pt:Addr)(pos:Pos)(qual:Str):=∃ps:Array Value,H Pt=!.tbl ps/\TriplesOk ps.toList/\(codeAmong pos ps.toList=none\/∃c',codeAmong pos ps.toList=!.ref c'/\H c'=!mO c' qual)
def qdo(h1 h2:Heap)(x:h1.CodeRec (.ref c) qual)(k:∀o,h1.get? c=!o->h2.get? c=!o):h2.CodeRec (.ref c) qual:=by
 let⟨c2,o,vs,t,e,g,r⟩:=x;cases e;show⟨c,o,vs,t,O,k _ g,r⟩
theorem QO:∀(ps:TU),TriplesOk ps->codeAmong pos ps=none->TriplesOk (ps++[rawInt pos.line,rawInt pos.col,c])/\codeAmong pos (ps++[rawInt pos.line,rawInt pos.col,c])=!c
 | [],_,_=>⟨trivial,by simp[codeAmong,rawInt]⟩
 | .int a t :: .int b u :: v :: r, h, n => by
   have n':(if(a == (pos.line:Int) && b == (pos.col:Int))=true then !v else codeAmong pos r)=none:=n
   by_cases z:(a == (pos.line:Int) && b == (pos.col:Int))=true
   · rw[if_pos z]at n';cases n'
   · rw[if_neg z]at n'
     let⟨h1,h2⟩:=QO r h n'
     show⟨h1,?_⟩
     show(if(a == (pos.line:Int) && b == (pos.col:Int))=true then !v else codeAmong pos (r++[rawInt pos.line,rawInt pos.col,c]))=!c
     rw[if_neg z]
     show h2
section
variable{X:Cx}{aa:TF}{s:Shared}{σ:St}{H:Hp}{c Pt:Addr}{params:Arguments}{body:Expr}{scope:Scope}{pos:Pos}{cl:List (Str×Addr)}{Q:TH}{E:TH}
theorem qdp(I:Inv X aa σ H s)(CB:X.env.code=.ref c)(hC:codeHdIn X.K c Pt=true)(hPt:Pt≠mainGlobals)(tb:jS H Pt pos (X.env.qual ++ "<lambda>"))(hB:X.base.BuiltinsAt X.mg Pt)(eI:closureFor scope X.env=pure cl)(HW:defaultsOf params X.env=([],[]))(k:∀(f c':Addr) (fe:Value) (h':Heap) (tk:Nat) (H':Hp),Inv X aa σ H' {s with heap:=h',toks:=tk}->h'.get? f=!kla_obj "<lambda>" (X.env.qual ++ "<lambda>") params body scope cl ((X.mg "__name__").getD .none) c' fe-> ~~~s<=f->H f=none->H' f=none ->
   H' c'=!mO c' (X.env.qual ++ "<lambda>")->jS H' Pt pos (X.env.qual ++ "<lambda>")->(∀b,b≠Pt->∀o,H b=!o->H' b=!o)->Q (.ref f) {s with heap:=h',toks:=tk}) :
  wpAny (model X.prog X.w) X.A (eval (.Lambda params body scope pos) X.env) Q E s:=by
 let⟨ps,hT,ht,cs⟩:=tb;have eT:s.heap.get? Pt=!tabObj ps:=I.hok Pt _ hT;have bA:s.heap.BuiltinsAt X.mg Pt:=by
  let⟨bm,o,b1,b2,b3,b4,b5,r⟩:=hB;show⟨bm,o,b1,b2,b3,b4,I.bk _ _ b5,r⟩
 have hg:s.heap.Ns mainGlobals X.mg:=I.mod.glob.keeps I.bk;have C:=codeHd_of_K I.kIn hC;show kla_eval HW ?_;rcases cs with hn | ⟨c',hs,eD⟩
 .refine kla_makeFunction eI I.ok.glob hg CB C eT ht hn (Ne.symm hPt) bA λc' fe h' tk hx CC aX QP QQ=>?_
  let⟨tm,cm⟩:=QO (c:=.ref c') (pos:=pos) ps.toList ht hn;have cP:c'≠Pt:=λz=>by
   have:=qL eT;rw[<-z]at this;show absurd this (Nat.not_lt_of_le CC)
  have nc:H c'=none:=I.hok.fresh CC;have kk:∀b o,b≠Pt->s.heap.get? b=!o->(h'.push (kla_obj "<lambda>" (X.env.qual ++ "<lambda>") params body scope cl ((X.mg "__name__").getD .none) c' fe)).get? b=!o:=λb o n e=>qE _ (hx b o n e)
  have sz: ~~~s<=h'.objs.size:=xA (yB CC aX);have fr:=qT h' (o:=kla_obj "<lambda>" (X.env.qual ++ "<lambda>") params body scope cl ((X.mg "__name__").getD .none) c' fe) O;have CD:∀{b:Addr} {o:HO},H b=!o->(∀qs,o≠.tbl qs)->b≠Pt:=λe n z=>by rw[z,hT]at e;cases e;show n _ O
  have oR:∀{b:Addr} {o:HO},H b=!o->b≠c':=λe z=>by rw[z,nc]at e;cases e
  have fc:h'.objs.size≠c':=xV aX;have fP:h'.objs.size≠Pt:=xV (rE (qL eT) sz);have nF:H h'.objs.size=none:=I.hok.fresh sz;have H'f:af (af H Pt (.tbl (ps++#[rawInt pos.line,rawInt pos.col,.ref c']))) c' (mO c' (X.env.qual ++ "<lambda>")) h'.objs.size=none:=by rw[aE fc,aE fP];show nF
  have old:∀b,b≠Pt->∀o,H b=!o->af (af H Pt (.tbl (ps++#[rawInt pos.line,rawInt pos.col,.ref c']))) c' (mO c' (X.env.qual ++ "<lambda>")) b=!o:=λb n o e=>by rw[aE (oR e),aE n];show e
  show k h'.objs.size c' fe _ tk _ (I.un (t':=tk) ⟨λb o e n hb he=>kk b o (λz=>by rw[z,hT]at n;cases n) e,λb o e n hb he=>⟨o.slots,kk b o (λz=>by rw[z,hT]at n;cases n) e⟩,λb o e n he=>?_,λb o e he=>?_,λb ys e=>old b (CD e λ_ z=>nomatch z) _ e,λb o z e=>old b (CD e λ_ z=>nomatch z) _ e,λb qs e=>?_⟩ λa o e=>?_) fr sz nF H'f aj ⟨_,by rw[aE (Ne.symm cP),aj],‹tm›,.inr ⟨c',‹cm›,aj⟩⟩ old
  .rw[aE (λz=>by have:=qL e;rw[z]at this;show absurd this (Nat.not_lt_of_le CC)),aE (λz=>by rw[z,hT]at n;cases n)];show n
  .by_cases z:b=Pt
   .rw[z];show⟨_,qE _ QQ⟩
   .show⟨o,kk b o z e⟩
  .by_cases z:b=Pt
   .rw[z,hT]at e;cases e;rw[z];show⟨_,by rw[aE (Ne.symm cP),aj]⟩
   .show⟨#[],by rw[old b z _ e];simp⟩
  .by_cases za:a=c'
   .rw[za,aj]at e;cases e;let⟨c2,oc,vs,t,e2,g2,r2⟩:=id QP;cases e2;rw[za];show⟨QP.push _,⟨_,qE _ g2⟩,qdo⟩
   .rw[aE za]at e
    by_cases zp:a=Pt
    .rw[zp,aj]at e;cases e;rw[zp];show qE _ QQ
    .rw[aE zp]at e;show(I.hok a o e).stay (λb u z q=>kk b u (λy=>?_) q) (λb q=>old b (CD q λ_ z=>nomatch z) _ q) λb ys q=>old b (CD q λ_ z=>nomatch z) _ q
     rcases z with z | z
     .show zp (z.symm.trans y)
     .rw[y,hT]at z;cases z
 .show kla_makeFunctionHit eI I.ok.glob hg CB C eT ht hs bA λfe h' tk hx hsz=>?_
  have fr:=qT h' (o:=kla_obj "<lambda>" (X.env.qual ++ "<lambda>") params body scope cl ((X.mg "__name__").getD .none) c' fe) O;show k h'.objs.size c' fe _ tk H (I.kept (t':=tk) λb o e=>qE _ (hx b o e)) fr hsz (I.hok.fresh hsz) (I.hok.fresh hsz) eD ⟨ps,hT,ht,.inr ⟨c',hs,eD⟩⟩ λb _ o e=>e
end
end L2
namespace L2
open PyProof.Rows
structure zc{Γ:Type}(prog:Program)(w:World)(A:Around)(f:Value)(a kS:Addr)(vs:TU)(kz:TN)(G:Γ->Shared->Prop):Prop where
 ne:kS≠a
 put:∀(γ:Γ) (s:Shared) (b:Addr) (fn:Array Value->Array Value),b=a\/b=kS->G γ s->G γ {s with heap:=s.heap.update b (Obj.mapSeq fn)}
 turn:∀(i:Nat) (v:Value) (k:Int),vs[i]?=!v->kz[i]?=!k->∀(γ:Γ) (s:Shared) (oA oS:Obj),G γ s->s.heap.get? a=!oA->s.heap.get? kS=!oS ->
  wpAny (model prog w) A (call f [v]) (λx s'=>∃γ' t,x=.int k t/\G γ' s'/\s'.heap.get? a=!oA/\s'.heap.get? kS=!oS) (λ_ _=>False) s
section
variable{prog:Program}{w:World}{A:Around}{f:Value}{a kS:Addr}{vs:TU}{kz:TN}{Γ:Type}{G:Γ->Shared->Prop}{P:Fin->Shared->Prop}{E:TH}{e1:Nat}
def QR(T:zc prog w A f a kS vs kz G){γ:Γ}{s:Shared}{bo:Array Value}{e:Nat}{st:SortSt}(g:G γ s)(ga:s.heap.get? a=!seqObj "list" #[] e1)(gk:s.heap.get? kS=!seqObj "list" bo e)(hk:IntsAre bo.toList kz)(bE:kz.length=vs.length)(gu:vs.length<64)(hp:(arrOf st).Perm (bo.zip vs.toArray))(hs:SortedTo (arrOf st) (arrOf st).size)(hf:failedOf st=none)(h:∀γ' s' out c,G γ' s'->s'.heap.get? a=!seqObj "list" out c->KskOut false kz vs out.toList->P (.done (.ret .none)) s') :
  wpAny (model prog w) A (ksk_tail a false e1 (.ref kS) st) P E s:=by
 have z1:bo.size=vs.length:=by
  have:=hk.length;rw[xI]at this;omega
 have z2:(arrOf st).size=vs.length:=by rw[hp.size_eq,Array.size_zip,z1,qY,Nat.min_self]
 have line:(64:Nat)<=sizeLine:={}
 unfold ksk_tail;dsimp only;have g1:=T.put γ s kS (λ_=>(#[]:Array Value)) (.inr O) g;have sb:=Heap.SameBut.update s.heap kS (Obj.mapSeq λ_=>(#[]:Array Value));have HX:=(sb.2 a T.ne.symm).trans ga;show qC (listUpdate_at gk O (qC (wpAny_letGo (qC (seqEpoch_at HX O ?_)))) () (rS _));have g2:=T.put γ _ a (λ_=>(arrOf st).map (·.2)) (.inl O) g1;show qC (listUpdate_at HX O ?_ (rS _) (by rw[if_neg qZ,Array.size_map];omega));rw[hf];simp only[bne_self_eq_false,Bool.false_eq_true,if_false];obtain⟨c,hc⟩:∃c,((s.heap.update kS (Obj.mapSeq λ_=>(#[]:Array Value))).update a (Obj.mapSeq λ_=>(arrOf st).map (·.2))).get? a=!seqObj "list" ((arrOf st).map (·.2)) c:=⟨_,get?_update_seq HX λ_=>(arrOf st).map (·.2)⟩;show qM (h γ _ _ c g2 hc ‹ksk_out (b:=false) hk hp hs›)
def qdq(T:zc prog w A f a kS vs kz G){γ:Γ}{bo:Array Value}{e:Nat}(g:G γ s)(ga:s.heap.get? a=!seqObj "list" #[] e1)(gk:s.heap.get? kS=!seqObj "list" bo e)(hk:IntsAre bo.toList kz)(bE:kz.length=vs.length)(gu:vs.length<64)(h:∀γ' s' out c,G γ' s'->s'.heap.get? a=!seqObj "list" out c->KskOut false kz vs out.toList->P (.done (.ret .none)) s') :
  wpAny (model prog w) A (ksk_end a false vs.toArray e1 (.ref kS) bo) P E s:=by
 have z1:bo.size=vs.length:=by
  have:=hk.length;rw[xI]at this;omega
 have z0:(bo.zip vs.toArray).size=vs.length:=by rw[Array.size_zip,z1,qY,Nat.min_self]
 unfold ksk_end;dsimp only;rw[if_neg qZ]
 by_cases h2:vs.length<2
 .have qm:vs.toArray.size<2:=by rw[qY];show h2
  rw[if_pos qm,if_pos qm];show qC (qM ?_);rw[StateT.run_pure];show qC (qM ?_);dsimp only;show QR T (st:=SortSt.mk' general' (bo.zip vs.toArray) #[] 7 none) g ga gk hk bE gu (Array.Perm.refl _) (λi j hij hj=>?_) O h;have OE:j<(bo.zip vs.toArray).size:=hj;have:i=j:=()
  rw[this];show Int.le_refl _
 .have qm:¬vs.toArray.size<2:=by rw[qY];show h2
  rw[if_neg qm,if_neg qm,ksk_kind hk ()];show qC (qM ?_);have ss:=wpS_sortRuns (prog:=prog) (w:=w) (A:=A) (E:=E) (s:=s) (a₀:=bo.zip vs.toArray) (st:=SortSt.mk' oneType' (bo.zip vs.toArray) #[] 7 none) (Q:=λ_ cK=>(arrOf cK).Perm (bo.zip vs.toArray)/\failedOf cK=none/\SortedTo (arrOf cK) (bo.zip vs.toArray).size) (ksk_intKeys hk) ⟨Array.Perm.refl _,O,O,O⟩ () () λcK p1 p2 p3=>⟨p1,p2,p3⟩
  show qC (xB ss ?_ λ_ _ z=>z);ext⟨⟨⟩,cK⟩ s' ⟨rfl,hp,hf,hs⟩;dsimp only;show QR T g ga gk hk bE gu hp (by rw[hp.size_eq];show hs) hf h
theorem qdr(T:zc prog w A f a kS vs kz G)(g:G γ s)(ga:s.heap.get? a=!seqObj "list" #[] e1)(gk:s.heap.get? kS=!seqObj "list" #[] 0)(bE:kz.length=vs.length)(gu:vs.length<64)(h:∀γ' s' out c,G γ' s'->s'.heap.get? a=!seqObj "list" out c->KskOut false kz vs out.toList->P (.done (.ret .none)) s') :
  wpAny (model prog w) A (ksk_rest a f false vs.toArray e1 (.ref kS)) P E s:=by
 have line:(64:Nat)<=sizeLine:={}
 unfold ksk_rest;show qC (wpAny_rule ?_);rw[List.forIn_toArray];show qC (ksk_fold (λi s'=>∃γ' kA e,G γ' s'/\s'.heap.get? a=!seqObj "list" #[] e1/\s'.heap.get? kS=!seqObj "list" kA e/\IntsAre kA.toList (kz.take i)) vs 0 s ⟨γ,#[],0,g,ga,gk,‹IntsAre.nil›⟩ ?_ ?_)
 .ext j x s' hx ⟨γ',kA,e,g',HY,CF,hk⟩;rw[Nat.zero_add]at hk⊢;have hj:j<vs.length:=(qI.mp hx).1;have ek:kz[j]?=!kz[j]:=qB ();have zk:kA.size<=vs.length:=by
   have:=hk.length;rw[xI,qQ]at this;omega
  show qC (wpAny_attempt (xB (T.turn j x _ hx ek γ' s' _ _ g' HY CF) (λv s2 hv=>?_) λ_ _ z=>z.elim));let⟨γ2,t,rfl,g2,ga2,QS⟩:=hv;dsimp only;have g3:=T.put γ2 s2 kS (λq=>q.push (.int kz[j] t)) (.inr O) g2;have sb:=Heap.SameBut.update s2.heap kS (Obj.mapSeq λq=>q.push (.int kz[j] t));obtain⟨c2,qw⟩:∃c2,(s2.heap.update kS (Obj.mapSeq λq=>q.push (.int kz[j] t))).get? kS=!seqObj "list" (kA.push (.int kz[j] t)) c2:=⟨_,get?_update_seq QS λq=>q.push (.int kz[j] t)⟩;show qC (listUpdate_at QS O (qM ⟨O,γ2,kA.push (.int kz[j] t),c2,g3,(sb.2 a T.ne.symm).trans ga2,qw,?_⟩) () (by rw[Array.size_push];omega));rw[List.take_add_one,ek,Array.toList_push];show ksk_snoc hk
 .ext s' ⟨γ',kA,e,g',HY,CF,hk⟩;rw[Nat.zero_add,qH ()]at hk;show qC (listItems_at CF O ?_);show qdq T g' HY CF hk bE gu h
end
section
variable{prog:Program}{w:World}{A:Around}{f:Value}{a:Addr}{vs:TU}{kz:TN}{Γ:Type}{G:Γ->Shared->Prop}{P:Fin->Shared->Prop}{E:TH}{s:Shared}
def qx(h:Heap)(a:Addr)(vs:TU):Heap:=((h.update a (Obj.mapSeq λ_=>(#[]:Array Value))).push (seqObj "tuple" vs.toArray 0)).push (seqObj "list" #[] 0)
def qds{n:Nat}(ho:s.heap.get? a=!seqObj "list" vs.toArray n)(T:zc prog w A f a (~~~s+1) vs kz G)(g:G γ {s with heap:=qx s.heap a vs})(bE:kz.length=vs.length)(gu:vs.length<64)(h:∀γ' s' out c,G γ' s'->s'.heap.get? a=!seqObj "list" out c->KskOut false kz vs out.toList->P (.done (.ret .none)) s'):wpAny (model prog w) A (ksk_tree a f false) P E s:=by
 have line:(64:Nat)<=sizeLine:={}
 have lt:a< ~~~s:=qL ho;obtain⟨e1,g1⟩:∃e1,(s.heap.update a (Obj.mapSeq λ_=>(#[]:Array Value))).get? a=!seqObj "list" #[] e1:=⟨_,get?_update_seq ho λ_=>#[]⟩;have z:((s.heap.update a (Obj.mapSeq λ_=>(#[]:Array Value))).push (seqObj "tuple" vs.toArray 0)).objs.size= ~~~s+1:=by rw[size_push',Heap.size_update]
 unfold ksk_tree;show qC (listItems_at ho O (qC (listUpdate_at ho O ?_ (by rw[qY];omega) (rS _))));show qC (seqEpoch_at g1 O (qC (wpAny_newTuple ?_ (by show vs.length<=_;omega))));show qC (wpAny_newList ?_ (rS _));show xQ ?_;show wpAny (model prog w) A (ksk_rest a f false vs.toArray e1 (.ref ((s.heap.update a (Obj.mapSeq λ_=>(#[]:Array Value))).push (seqObj "tuple" vs.toArray 0)).objs.size)) P E {s with heap:=qx s.heap a vs};rw[z];show qdr T g (qE _ (qE _ g1)) (by rw[<-z];show qT _ O) bE gu h
def qdt{i b c:Int}{n:Nat}{Q:TU->Shared->Prop}(hh:A.handled=none)(hr:IsRange s.heap r i b c t u v)(qdu:Builtin.Range.small i b c=true)(hn:Builtin.Range.rangeSize i b c=n)(bE:n<=2 ^ 24)(h:∀ h' tk acc e,(∀ q o,s.heap.get? q=!o->h'.get? q=!o)->h'.get? (~~~s)=!seqObj "list" acc e->ItemsOf (λj x=>∃ t,x=.int (i+j*c) t) acc n->Q acc.toList { s with heap:=h',toks:=tk }) :
  wpAny (model prog w) A (collect (.ref r)) Q E s:=by
 unfold collect
 show qC (wpAny_runValue (xM entry_proto_collect' ?_))
 show wpAny _ _ (do again (.builtin "list.__iadd__" ⟨[<- newList [],.ref r],[]⟩)) _ _ s
 show qC (wpAny_newList (qM ⟨yA PySem.F.plain_list_iadd _,xM PySem.F.entry_list_iadd ?_⟩))
 have kp:∀ q o,s.heap.get? q=!o->(s.heap.push (seqObj "list" #[] 0)).get? q=!o:=λq o e=>qE _ e
 have ne:∀ q o,s.heap.get? q=!o->q≠~~~s:=λq o e=>rA (qL e)
 rw [xD PySem.F.plain_list_iadd _]
 show wpAny_extend_range (R:=λr s'=>match r with | .ok (.ret v)=>wpAny (model prog w) A (match v with | .ref a=>do { let o <- load a; match o.data with | .seq xs _=>pure xs.toList | _=>unsupported "internal:collect" } | _=>unsupported "internal:collect") Q E s' | .ok _=>False | .error e=>E e s') (s:={ s with heap:=s.heap.push (seqObj "list" #[] 0) }) hh (kp r _ hr) qdu hn bE (~~~s) (.ref (~~~s)) 0 (qT _ O) λh' tk acc e k' hS it=>?_
 show qC (wpAny_load hS (qM ?_))
 show h h' tk acc e (λq o z=>k' q o (ne q o z) (kp q o z)) hS it
end
section
variable{prog:Program}{w:World}{A:Around}{q r:Addr}{kz:TN}{E:TH}{s:Shared}{Q:TH}{n:Nat}{t u v:Tok}
theorem qdv(hh:A.handled=none)(hr:IsRange s.heap r 0 n 1 t u v)(gu:n<64)(bE:kz.length=n)(T:∀(h1:Heap) (tk:Nat) (vs:TU) (a:Addr),(∀b o,s.heap.get? b=!o->h1.get? b=!o)-> ~~~s<=a->a<h1.objs.size->h1.get? a=!seqObj "list" vs.toArray 0->vs.length=n->(∀(i:Nat) (x:Value),vs[i]?=!x->∃t,x=Value.int (i:Nat) t) ->
   ∃(Γ:Type) (G:Γ->Shared->Prop) (γ:Γ),zc prog w A.in1.in1 (.ref q) a (h1.objs.size+1) vs kz G/\G γ {s with heap:=qx h1 a vs,toks:=tk}/\∀γ' s' out c,G γ' s'->s'.heap.get? a=!seqObj "list" out c->KskOut false kz vs out.toList->Q (.ref a) s') :
  wpAny (model prog w) A (call (.builtin "sorted") [.ref r] [(s!"key",.ref q)]) Q E s:=by
 have line:(64:Nat)<=sizeLine:={}
 show call_function_entry_kw kind_sorted plain_sorted entry_sorted (ksk_s1 _ _) ?_;unfold Builtin.«sorted»;show qC (m:=checkCount "sorted" 1 1 _) (qM (qC (qdt (n:=n) hh hr (small_one () () () ()) (by rw[rangeSize_one];split<;>omega) () λh' tk acc e kp gs it=>?_)));let⟨i1,i2⟩:=it;have la:acc.toList.length=n:=by rw[xI];show i1
 show qC (wpAny_newList ?_ ());have ga:(h'.push (seqObj "list" acc.toList.toArray 0)).get? h'.objs.size=!seqObj "list" acc.toList.toArray 0:=qT _ O;let⟨Γ,G,γ,TT,g,fin⟩:=T (h'.push (seqObj "list" acc.toList.toArray 0)) tk acc.toList h'.objs.size (λb o z=>qE _ (kp b o z)) (xA (qL gs)) (qL ga) ga la λj x hx=>by
  let⟨t,e⟩:=i2 j x ‹hx›;show⟨t,by rw[e];congr 1;omega⟩
 show qC (xQ (wpAny_call_entry_kw slot_list_sort ⟨_,ga,O⟩ entry_list_sort ?_ (ksk_l1 _ _)));show wpAny (model prog w) A.in1.in1 (Builtin.«list.sort» ⟨[.ref h'.objs.size],[(s!"key",.ref q)]⟩) _ _ _;rw[ksk_t1];show qds (s:={s with heap:=h'.push (seqObj "list" acc.toList.toArray 0),toks:=tk}) ga TT g () () λγ' s' out c g' go ko=>⟨_,O,qM ⟨_,O,fin γ' s' out c g' go ko⟩⟩
end
end L2
namespace L2
open PySem.Calls PyProof.Rows PySem.W
structure CG(scope:Scope)(body:Expr)(fn x y:Str):Prop where
 kind:scope.kind=.function
 co:scope.isCoroutine=false
 gen:scope.isGenerator=false
 nocell:∀z∈scope.names,z.2≠.cell
 loc:scope.names.lookup y=!.local
 fre:scope.names.lookup x=!.free
 glo:scope.names.lookup fn=!.globalImplicit
 bd:∃p0 p1 p2 pos eE,body=.UnaryOp .USub (.Call (.Name fn p0) [.Name x p1,.Name y p2] [] pos) eE
 d0:(fn == ("__debug__" : Str))=false
 d1:(x == ("__debug__" : Str))=false
 d2:(y == ("__debug__" : Str))=false
 d3:(x == ("__classdict__" : Str))=false
section
variable{P:Program}{w:World}{K:W.Frag}{mg:TJ}{base:Heap}{A:Around}{outer:List Env}{s:Shared}{H:Hp}{k:Nat}{f fp c' cc:Addr}{dp:FuncData}{fn x y qual:Str}{ps:TV}{sp:Sp}{params:Arguments}{body:Expr}{scope:Scope}{cl:List (Str×Addr)}{pm fe v ux:Value}{xv yv:V}{Φ:Hp->Prop}{kn:Int}{E:XK}{CX:cZ}
theorem qdw(LO:CG scope body fn x y)(hr:Room (k+1) A)(e0:Env0 P w K mg base A outer s H)(ho:s.heap.get? f=!kla_obj "<lambda>" qual params body scope cl pm c' fe)(fI:s.heap.CodeRec (.ref c') qual)(oK:bindArgs (kla_fn "<lambda>" qual params body scope cl pm (.ref c') fe) ⟨[v],[]⟩=pure [(y,v)])(eI:cl.lookup x=!cc)(jn:s.heap.IsCell cc (!ux))(F:aK P w K mg base CX k fp dp ps sp)(hb:Binds K dp ps [])(kp:W.keepIn K (.ref fp)=true)(hm:mg fn=!.ref fp)(hx:∀o h s2 e s3,CX o h s2 E e s3->False)(rx:RelV xv ux)(ry:RelV yv v)(q:sp [xv,yv] H (λkv H2=>Φ H2/\kv=.int kn) E) :
  codeAny (model P w) A (.call (.ref f) ⟨[v],[]⟩) (λr s'=>match r with | .ok (.ret u)=>CE outer P w H s (λkv H2=>Φ H2/\kv=.int (-kn)) u s' | _=>False) s:=by
 have kb:∀b o,base.get? b=!o->s.heap.get? b=!o:=λb o e=>(e0.bs b o e).1
 show kla_callFunE hr.depth ho O LO.co LO.gen O fI ?_;rw[oK];show qM (wpAny_newFunctionEnv LO.nocell (λz hz=>by rw[List.mem_singleton.mp hz];show LO.loc) (λh1 qy AG=>⟨(e0.mod.nolimit.keeps kb).fresh _ AG,?_⟩) LO.kind);show codeAny _ _ (.expr body (envX qual scope (~~~s) f (.ref c') cl)) _ _;have k1:∀b o,s.heap.get? b=!o->h1.get? b=!o:=λb o e=>AG.extBut b o (rA (qL e)) (qE _ e)
 have CH:∀b o,base.get? b=!o->h1.get? b=!o:=λb o e=>k1 b o (kb b o e)
 have sz1: ~~~s<h1.objs.size:=qy.lt;let⟨p0,p1,p2,pos,eE,rfl⟩:=LO.bd;show kla_codeExpr (xB (E:=λ_ _=>False) (UnaryOp_ ?_) (λu s' h=>h) λ_ _ z=>z.elim);have e1:Env0 P w K mg base (A.deeper (envX qual scope (~~~s) f (.ref c') cl)) (envX qual scope (~~~s) f (.ref c') cl::outer) {s with heap:=h1,toks:=s.toks+[(y,v)].length} H:=by
  have bn:base.get? (~~~s)=none:=Heap.get?_none_of_le e0.bsz;show⟨Around.frames_deeper e0.frames,e0.mod,λb o e=>⟨CH b o e,(e0.bs b o e).2⟩,rF e0.bsz (xA sz1),Heap.FunFrames.cons (by show scope.kind≠_;rw[LO.kind];show λz=>nomatch z) O qy bn (e0.funs.of_keeps λb o e _=>⟨o,k1 b o e,O⟩),λb hb=>?_,e0.hok.kept k1,e0.bare⟩;rcases qO.mp (show b∈~~~s::cS outer from hb)with z | z
  .rw[z];show e0.hok.fresh (qF _)
  .show e0.frf b z
 show yU (Calls.Name_function_global LO.kind LO.glo (Calls.loadGlobal_global (e0.mod.glob.keeps CH) hm ?_) LO.d0);show W.callWith_K (h₀:=base) e0.mod.kin kp (Calls.spliced_cons (wpAny_Name (wpAny_loadName_free LO.kind LO.fre eI (jn.keeps k1) ?_ LO.d3) LO.d1)) O O;have hv:(λz=>[(y,v)].reverse.lookup z) y=!v:=∅
 show wpAny _ _ (spliced ((false,eval (.Name y p2) (envX qual scope (~~~s) f (.ref c') cl))::backTo pos (starEach [] (envX qual scope (~~~s) f (.ref c') cl)))) _ _ _;show Calls.spliced_cons (wpAny_Name (wpAny_loadName_local LO.kind LO.loc qy hv ?_) LO.d2);show Calls.spliced_nil ⟨e0.mod.kin.keeps CH,?_⟩;show wpAny_call (yY (F.run _ _ _ H ⟨[ux,v],[]⟩ [ux,v] [xv,yv] _ E (hr.deeper _) e1 (hb _ [ux,v] (e0.mod.kin.keeps CH) (F.len _ _ _ _ q)) (.cons rx (.cons ry .nil)) q) λr s' hq=>?_);cases r with
 | error e=>show(hx _ _ _ _ _ hq).elim
 | ok fl =>
   cases fl with
   | next=>show False.elim hq
   | brk=>show False.elim hq
   | cont=>show False.elim hq
   | ret u =>
     let⟨v',H',os,bare,un,hok,r',ph,rfl⟩:=hq
     let⟨t,rfl⟩:=r'
     show neg_int ⟨.int (-kn),H',os,bare,Un.less k1 (qF _) un,hok,⟨_,O⟩,ph,O⟩
end
def qz:Value->Nat
 | .int i _=>i.toNat
 | _=>0
theorem qdx{n:Nat}{bo:Nat->Int}(hv:vs.length=n)(mj:∀(i:Nat) (x:Value),vs[i]?=!x->∃t,x=Value.int (i:Nat) t)(h:KskOut false ((List.range n).map bo) vs out) :
  ∃ms:TM,ms.Perm (List.range n)/\Vals ((ms.map λ(i:Nat)=>(i:Int)).map V.int) out/\(ms.map bo).Pairwise (·<= ·):=by
 let⟨ps,hp,rfl,hs⟩:=h;have zl:(((List.range n).map bo).zip vs).length=n:=by rw[List.length_zip,qA,List.length_range,hv,Nat.min_self]
 have QT:∀i,i<n->∃t,(((List.range n).map bo).zip vs)[i]?=!(bo i,Value.int (i:Nat) t):=λi hi=>by
  have ev:vs[i]?=!vs[i]:=qB ();let⟨t,e⟩:=mj i _ ev;show⟨t,?_⟩;rw[List.getElem?_zip_eq_some,qK,rV hi,ev,e];show⟨O,O⟩
 have all:∀p∈((List.range n).map bo).zip vs,∃t,p=(bo (qz p.2),Value.int (qz p.2:Nat) t):=λp hp=>by
  let⟨i,hi,e⟩:=List.mem_iff_getElem.mp hp;have ci:i<n:=()
  let⟨t,e2⟩:=QT i ci;rw[qB hi,e]at e2;have e3:=rD e2;show⟨t,?_⟩;rw[e3];rfl
 have CI:∀p∈ps,∃t,p=(bo (qz p.2),Value.int (qz p.2:Nat) t):=λp h=>all p (hp.mem_iff.mp h)
 show⟨ps.map λp=>qz p.2,?_,?_,?_⟩
 .have e:(((List.range n).map bo).zip vs).map (λp=>qz p.2)=List.range n:=by
   apply uR;intro i;rw[qK]
   by_cases hi:i<n
   .let⟨t,e⟩:=QT i hi;rw[e,rV hi];rfl
   .rw[xG (),xG (by rw[List.length_range];omega)];rfl
  rw[<-e];show hp.map _
 .clear hp hs all
  induction ps with
  | nil=>show .nil
  | cons p r ih =>
    let⟨t,e⟩:=CI p rB
    show .cons ⟨t,?_⟩ (ih λq hq=>CI q (qU _ hq))
    rw[e]
    rfl
 .rw[xH,List.pairwise_map];show hs.imp_of_mem λ{p q} gp hq' h=>?_
  let⟨t,e⟩:=CI p gp;let⟨t',e'⟩:=CI q hq';have h:p.1<=q.1:=‹h›
  rw[e,e']at h;show h
section
variable{P:Program}{w:World}{K:W.Frag}{mg:TJ}{base:Heap}{A:Around}{outer:List Env}{s:Shared}{H:Hp}{k n:Nat}{f fp c' cc r:Addr}{dp:FuncData}{fn x y qual:Str}{ps:TV}{sp:Sp}{params:Arguments}{body:Expr}{scope:Scope}{cl:List (Str×Addr)}{pm fe ux:Value}{xv:V}{Q:VK}{E:XK}{CX:cZ}{Ex:TH}
structure HZ(P:Program)(w:World)(outer:List Env)(s:Shared)(H:Hp)(a kS:Addr)(Φ:Hp->Prop)(H':Hp)(t:Shared):Prop where
 un:Un (cS outer) [] H H' s.heap t.heap
 hok:HOk P w H' t.heap
 bare:AllBare t.gens
 os:t.os=s.os
 phi:Φ H'
 nA:H' a=none
 nK:H' kS=none
 sz: ~~~s<= ~~~t
theorem qdy(LO:CG scope body fn x y)(hr:Room (k+3) A)(e0:Env0 P w K mg base A outer s H)(ho:s.heap.get? f=!kla_obj "<lambda>" qual params body scope cl pm c' fe)(hf:H f=none)(ff:f∉cS outer)(oK:∀v,bindArgs (kla_fn "<lambda>" qual params body scope cl pm (.ref c') fe) ⟨[v],[]⟩=pure [(y,v)])(eI:cl.lookup x=!cc)(jn:s.heap.IsCell cc (!ux))(jk:H cc=none)(fcc:cc∉cS outer)(F:aK P w K mg base CX k fp dp ps sp)(hb:Binds K dp ps [])(kp:W.keepIn K (.ref fp)=true)(hm:mg fn=!.ref fp)(hx:∀o h s2 e s3,CX o h s2 E e s3->False)(rx:RelV xv ux)(hR:H r=!.rng 0 n)(gu:n<64)(Φ:Hp->Prop)(p0:Φ H)(pc:∀H',Φ H'->H' c'=!mO c' qual)(bo:Nat->Int)(Ia:∀(i:Nat) (H':Hp),i<n->Φ H'->sp [xv,.int i] H' (λkv H2=>Φ H2/\kv=.int (bo i)) E)(h:∀(a:Addr) (ms:TM) (H':Hp),Φ H'->H' a=none->ms.Perm (List.range n)->(ms.map λi=>-(bo i)).Pairwise (·<= ·)->Q (.ref a) (af H' a (.lst ((ms.map λ(i:Nat)=>(i:Int)).map V.int)))) :
  wpAny (model P w) A (call (.builtin "sorted") [.ref r] [(s!"key",.ref f)]) (λu s'=>CE outer P w H s Q u s') Ex s:=by
 obtain⟨t1,t2,t3,er⟩:∃t u v,s.heap.get? r=!{cls:=.type "range",data:=.fields #[.int 0 t,.int n u,.int 1 v]}:=e0.hok r _ hR;have nf:∀{b:Addr},~~~s<=b->b∉cS outer:=λhb z=>by
  let⟨_,o,q,_⟩:=e0.funs.mem z;show absurd (qL q) (Nat.not_lt_of_le hb)
 show qdv (kz:=(List.range n).map λi=>-(bo i)) hr.hd er gu ∅ λh1 tk vs a Ib sa la ga lv mj=>?_
 have ak:h1.objs.size+1≠a:=xV (xP la);have ks: ~~~s<=h1.objs.size+1:=rF sa (yG (xA la));have moved:∀{H':Hp} {t:Shared} {h':Heap} {tk:Nat} {J:Addr},HZ P w outer s H a (h1.objs.size+1) Φ H' t-> ~~~s<=J->H' J=none->(∀b o,b≠J->t.heap.get? b=!o->h'.get? b=!o)-> ~~~t<=h'.objs.size->HZ P w outer s H a (h1.objs.size+1) Φ H' {t with heap:=h',toks:=tk}:=λ{H' t h' tk J} g hJ nJ kk zz=>by
  have ne:∀{b:Addr} {o:Obj},s.heap.get? b=!o->b≠J:=λe z=>by
   have:=qL e;rw[z]at this;show absurd this (Nat.not_lt_of_le hJ)
  show⟨⟨λb o e n hb he=>kk b o (ne e) (g.un.keep b o e n hb he),λb o e n hb he=>?_,g.un.free,λb o e he=>?_,g.un.tups,g.un.frzs,g.un.tbls⟩,HOk.but g.hok nJ kk,g.bare,g.os,g.phi,g.nA,g.nK,rF g.sz zz⟩
  .let⟨sl,q⟩:=g.un.slot b o e n hb he;show⟨sl,kk b _ (ne e) q⟩
  .let⟨o',q⟩:=g.un.there b o e he;show⟨o',kk b _ (ne e) q⟩
 show⟨Hp,HZ P w outer s H a (h1.objs.size+1) Φ,H,⟨ak,λH' t b fn hb g=>?_,λi v kz hv hk H' t oA oS g gA gS=>?_⟩,?_,λH' t out c g go ko=>?_⟩
 .have sb:=Heap.SameBut.update t.heap b (Obj.mapSeq fn);have nb:H' b=none:=by rcases hb with rfl | rfl;show g.nA;show g.nK
  have sbz: ~~~s<=b:=by rcases hb with rfl | rfl;show sa;show ks
  show moved (tk:=t.toks) g sbz nb (λq o nq e=>by rw[sb.2 q nq];show e) (by rw[Heap.size_update];show qF _)
 .have hi:i<n:=by
   have:=(qI.mp hv).1;omega
  rw[qK,rV hi]at hk;have ek:-(bo i)=kz:=rD hk;subst ek;let⟨t',rfl⟩:=mj i v hv;let⟨oc,qc,dc⟩:=jn;show wpAny_call (yY (qdw (Φ:=Φ) (kn:=bo i) LO (hr.in1.in1) ((e0.un g.un g.hok g.bare g.sz).in1.in1) (g.un.keep f _ ho hf ff ∅) (g.hok c' _ (pc H' g.phi)).1 (oK _) eI ⟨oc,g.un.keep cc _ qc jk fcc ∅,dc⟩ F hb kp hm hx rx (yv:=.int i) ⟨t',O⟩ (Ia i H' hi g.phi)) λrr s' hq=>?_);cases rr with
  | error e=>show False.elim hq
  | ok fl =>
    cases fl with
    | next=>show False.elim hq
    | brk=>show False.elim hq
    | cont=>show False.elim hq
    | ret u =>
      let⟨v',H2,os,bare,un,hok,r',ph,rfl⟩:=hq
      let⟨t2',rfl⟩:=r'
      have kA:=un.keep _ _ gA g.nA (nf sa) ∅
      have kS:=un.keep _ _ gS g.nK (nf ks) ∅
      show⟨H2,t2',O,⟨g.un.trans un,hok,bare,os.trans g.os,ph,un.free _ _ gA g.nA ∅,un.free _ _ gS g.nK ∅,?_⟩,kA,kS⟩
      show xA (yB sa (qL kA))
 .have kk:∀b o,s.heap.get? b=!o->(qx h1 a vs).get? b=!o:=λb o e=>by
   show qE _ (qE _ ?_);rw[Heap.get?_update_ne _ _ _ _ (λz=>by have:=qL e;rw[z]at this;show absurd this (Nat.not_lt_of_le sa))];show Ib b o e
  show⟨Un.kept kk,e0.hok.kept kk,e0.bare,O,p0,e0.hok.fresh sa,e0.hok.fresh ks,?_⟩;show ~~~s<=(qx h1 a vs).objs.size;unfold qx;rw[size_push',size_push',Heap.size_update];show rF sa (rF (xA la) (yG (yD _)))
 .let⟨ms,m1,m2,m3⟩:=qdx lv mj ko;have lm:ms.length=n:=by rw[m1.length_eq,List.length_range]
  show⟨.ref a,af H' a (.lst ((ms.map λ(i:Nat)=>(i:Int)).map V.int)),g.os,g.bare,⟨g.un.keep,g.un.slot,λb o e nb he=>?_,g.un.there,λb ys e=>?_,λb o z e=>?_,λb qs e=>?_⟩,HOk.reT g.hok g.nA λ_=>⟨?_,out.toList,c,m2,‹go›⟩,O,h a ms H' g.phi g.nA m1 m3⟩
  .rw[aE (λz=>by have:=qL e;rw[z]at this;show absurd this (Nat.not_lt_of_le sa))];show g.un.free b o e nb he
  .have nb:b≠a:=λz=>by have q:=g.un.tups b ys e;rw[z,g.nA]at q;cases q
   rw[aE nb];show g.un.tups b ys e
  .have nb:b≠a:=λy=>by have q:=g.un.frzs b o z e;rw[y,g.nA]at q;cases q
   rw[aE nb];show g.un.frzs b o z e
  .have nb:b≠a:=λy=>by let⟨qs',q⟩:=g.un.tbls b qs e;rw[y,g.nA]at q;cases q
   rw[aE nb];show g.un.tbls b qs e
  .rw[qA,qA,lm];show rF (xA gu) {}
end
def qdz(ta:TA)(ix:Nat)(sp:Sp)(E:XK)(Pt:Addr)(zd:Pos)(qual:Str):TE:=λσ H Q=>ta σ H λvs H1=>∃(r:Addr) (n:Nat) (xv:V) (bo:Nat->Int),vs=[.ref r]/\H1 r=!.rng 0 n/\n<64/\jS H1 Pt zd qual/\σ[ix]?=!!xv /\
 ∀(H2:Hp) (c':Addr),(∀b,b≠Pt->∀o,H1 b=!o->H2 b=!o)->jS H2 Pt zd qual->H2 c'=!mO c' qual ->
  ∃Φ:Hp->Prop,Φ H2/\(∀H',Φ H'->H' c'=!mO c' qual)/\(∀(i:Nat) (H':Hp),i<n->Φ H'->sp [xv,.int i] H' (λkv H3=>Φ H3/\kv=.int (bo i)) E) /\
   ∀(a:Addr) (ms:TM) (H':Hp),Φ H'->H' a=none->ms.Perm (List.range n)->(ms.map λi=>-(bo i)).Pairwise (·<= ·)->Q (.ref a) (af H' a (.lst ((ms.map λ(i:Nat)=>(i:Int)).map V.int)))
section
variable{X:Cx}{CX:cZ}{k:Nat}{e:Expr}{ta:TA}{ix:Nat}{c Pt fp:Addr}{dp:FuncData}{fn x y:Str}{ps:TV}{sp:Sp}{E:XK}{params:Arguments}{body:Expr}{scope:Scope}{zd Ib p pos:Pos}
theorem qdA(hc:X.calm=true)(hg:Gl X "sorted")(hm:X.mg "sorted" = none)(hv:bootBuiltins "sorted" = !.builtin "sorted")(ha:PA X [e] ta)(LO:CG scope body fn x y)(hr:Room (k+3) X.A)(hN:X.N[ix]?=!x)(Ic:X.env.kindOf x=!.cell)(rg:X.fn x=true)(CB:X.env.code=.ref c)(hC:codeHdIn X.K c Pt=true)(hPt:Pt≠mainGlobals)(hB:X.base.BuiltinsAt X.mg Pt)(eI:∀cc,X.env.cells.lookup x=!cc->closureFor scope X.env=pure [(x,cc)])(HW:defaultsOf params X.env=([],[]))(oK:∀(qual:Str) (cl:List (Str×Addr)) (pm:Value) (c':Addr) (fe v:Value),bindArgs (kla_fn "<lambda>" qual params body scope cl pm (.ref c') fe) ⟨[v],[]⟩=pure [(y,v)])(F:aK X.prog X.w X.K X.mg X.base CX k fp dp ps sp)(hb:Binds X.K dp ps [])(kp:W.keepIn X.K (.ref fp)=true)(hmf:X.mg fn=!.ref fp)(CJ:∀o h s2 e s3,CX o h s2 E e s3->False)(he:starEach [e] X.env=[(false,eval e X.env)]:=by rfl) :
  PE X (.Call (.Name "sorted" p) [e] [⟨!"key",.Lambda params body scope zd,Ib⟩] pos) (qdz ta ix sp E Pt zd (X.env.qual ++ "<lambda>")):=by
 intro aa s σ H Q I h;show yU (iQ I hg hm hv ?_ {} {});show callWith_kw (aN (ha pos aa s σ H _ I h) λus s1 hx=>?_) (by rw[he];rfl) (by rw[he];rfl);let⟨vs,H1,I1,r1,r,n,xv,bo,e1,hR,gu,tb,hσ,rest⟩:=hx;subst e1;let⟨u,rfl,rx⟩:=vals1 r1;cases rx;have rz:oQ X.env.scope x:=.inr (.inl Ic);let⟨cc,jk⟩:=I1.ok.has x (.inl Ic);show kws_cons (qdp I1 CB hC hPt tb hB (eI cc jk) HW λf c' fe h' tk H2 I2 ho hsz nf hf eD tb2 CK=>kws_nil ?_);let⟨Φ,p0,pc,Ia,fin⟩:=rest H2 c' CK tb2 eD;let⟨m,hn,qdB⟩:=I2.loc;let⟨u,ru,lk⟩:=qdB ix x xv hN hσ rz;have jn:h'.IsCell cc (!u):=by
  rcases lk with⟨kd,_⟩ | ⟨_,c2,e2,z⟩
  .rw[Ic]at kd;cases kd
  .rw[jk]at e2;cases e2;show z
 have fs:∀{b:Addr},b∈cS X.stack->b≠f/\b≠cc:=λ{b} hb=>by
  show⟨λz=>?_,λz=>?_⟩
  .let⟨_,o,q,_⟩:=I1.stack.mem hb;have:=qL q;rw[z]at this;show absurd this (Nat.not_lt_of_le hsz)
  .rcases qO.mp (I1.stkSub b hb)with y | y
   .show I1.cne x cc jk (z.symm.trans y)
   .let⟨_,o,q,_⟩:=I1.ok.funs.mem y;have:=qL q;rw[z]at this;show absurd this (Nat.not_lt_of_le (I1.ok.cab x cc rg jk))
 have hR2:H2 r=!.rng 0 n:=CK r (λz=>by let⟨qs,e,_⟩:=tb;rw[z,e]at hR;cases hR) _ hR;show wpAny _ _ (call (.builtin "sorted") [.ref r] [(s!"key",.ref f)]) _ _ _;show xB (qdy (Ex:=X.xe) LO hr I2.env0 ho hf (λz=>(fs z).1 O) (λv=>oK _ _ _ _ _ v) ∅ jn (I2.freeC x cc jk) (λz=>(fs z).2 O) F hb kp hmf CJ ru hR2 gu Φ p0 pc bo Ia fin) (λu s' ce=>I2.after ce) λ_ _ z=>z
end
end L2
namespace Ins
open L2 Bk Gen Gd Shr Sp0
open Bd
def jh(H H':Hp):=∀b o,(∀qs,o≠HO.tbl qs)->H b=!o->H' b=!o
section
variable{H H':Hp}
def ze{β:Type}{F:Hp->Addr->β->Prop}{xs:List β}(hF:∀a x,F H a x->F H' a x)(k:jh H H')(h:LstAt F H L xs):LstAt F H' L xs:=by
 let⟨as,e,p⟩:=h;show⟨as,k _ _ (λ_ z=>nomatch z) e,p.mono hF⟩
theorem Ie(k:jh H H')(h:cB (λ_=>True) H B ds):cB (λ_=>True) H' B ds:=by
 let⟨as,e,p⟩:=h;show⟨as,k _ _ (λ_ z=>nomatch z) e,p.mono λa d q=>?_⟩;let⟨_,m,s,e1,_,e2,_,vs,e3,pr⟩:=q;show⟨trivial,m,s,k _ _ (λ_ z=>nomatch z) e1,trivial,k _ _ (λ_ z=>nomatch z) e2,trivial,vs,k _ _ (λ_ z=>nomatch z) e3,pr.mono λv x y=>?_⟩;cases x with
 | int n=>show y
 | tri s x t =>
   let⟨b,rfl,_,e4⟩:=y
   show⟨b,O,trivial,k _ _ (λ_ z=>nomatch z) e4⟩
def QU{ls:TB}(k:jh H H')(h:LstAt LkAt H p ls):LstAt LkAt H' p ls:=ze (λ_ _ e=>k _ _ (λ_ z=>nomatch z) e) k h
def QV{ls:TC}(k:jh H H')(h:LstAt PrAt H p ls):LstAt PrAt H' p ls:=ze (λ_ _ e=>k _ _ (λ_ z=>nomatch z) e) k h
def qdC(k:jh H H')(h:LstAt Bw.RowAt H p us):LstAt Bw.RowAt H' p us:=ze (λ_ _ e=>ze (λ_ _ ⟨nl,e1,l,e2⟩=>⟨nl,k _ _ (λ_ z=>nomatch z) e1,l,k _ _ (λ_ z=>nomatch z) e2⟩) k e) k h
def SzN.g{N:Addr->Prop}(k:jh H H')(h:SzN N H a z):SzN N H' a z:=by
 let⟨A,B,h1,n1,h2,n2,bs,h3,h4⟩:=h;show⟨A,B,k _ _ (λ_ z=>nomatch z) h1,n1,ze (λ_ _ e=>k _ _ (λ_ z=>nomatch z) e) k h2,n2,bs,k _ _ (λ_ z=>nomatch z) h3,h4.mono λc os y=>⟨k _ _ (λ_ z=>nomatch z) y.1,y.2⟩⟩
def Ig(k:∀b o,(∀xs,o≠HO.lst xs)->H b=!o->H' b=!o)(h:jS H Pt pos qual):jS H' Pt pos qual:=by
 let⟨ps,e,t,c⟩:=h;show⟨ps,k _ _ (λ_ z=>nomatch z) e,t,c.imp id λ⟨c',y,z⟩=>⟨c',y,k _ _ (λ_ z=>nomatch z) z⟩⟩
end
end Ins
namespace K32
open L2 Bk Gd Shr Sp0 Ins
open Bd
open Gen
abbrev fg:=top 101
def qdD:Stmt->Option (Arguments×Expr×Scope×Pos)
 | .FunctionDef _ _ b _ _ _ _ _ _ _ => match b with
   | _ :: .For _ (.Call _ _ (⟨_,.Lambda a e s p,_⟩::_) _) _ _ _::_=>!(a,e,s,p)
   | _=>none
 | _=>none
def mP:Arguments×Expr×Scope×Pos:=(qdD fg).getD (⟨[],[],none,[],[],none,[]⟩,.Constant .none 0 ⟨0,0,0,0⟩,default,⟨0,0,0,0⟩)
def qdE:CG mP.2.2.1 mP.2.1 "level_of" "book" "one":=⟨by ac_rfl,by ac_rfl,by ac_rfl,by ac_rfl,by ac_rfl,by ac_rfl,by ac_rfl,⟨_,_,_,_,_,O⟩,{},{},{},{}⟩
def qdF:mP.2.2.1.names=[(s!"one",.local),(s!"book",.free),(s!"level_of",.globalImplicit)]:=by ac_rfl
def qdG(e:env.cells.lookup (s!"book")=!cc):closureFor mP.2.2.1 env=pure [(s!"book",cc)]:=by
 unfold closureFor;rw[qdF];simp[cellOf,e]
def zf:Str:=(s!"all_sizes" ++ s!".<locals>.")++s!"<lambda>"
inductive CL(Pt:Addr):List V->Hp->VK->XK->Prop
|m (B p U Sp:Addr) (ds:List Nd) (ls:TB) (us:List (List Un)) (sp:TC):vs=[.ref B,.ref p,.ref U,.ref Sp]->cB (λ_=>True) H B ds->LstAt LkAt H p ls->LstAt Bw.RowAt H U us->LstAt PrAt H Sp sp->(∀sz:List Sz,sz.length=ds.length->xz ds ls sz sp us)->ds.length<64->jS H Pt mP.2.2.2 zf->(∀(S:Addr) (sz:List Sz) (H':Hp),H S=none->jh H H'->LstAt SzAt H' S sz->sz.length=ds.length->Q (.ref S) H')->CL Pt vs H Q E
def QW:mX ["book", "looks", "units", "spans", "sizes", "node"] ["book", "looks", "units", "spans"] (bu fg):=⟨O,O,O,by ac_rfl,O,by ac_rfl,by ac_rfl⟩
theorem qdH{f c Pt fl:Addr}{dl:FuncData}{oc dV kV be pm ct:Value}{od an:Option Addr}{fh:Array (Option Value)}(lk:K.lookup f=!⟨oc,od,.func (W.fnOf "all_sizes" "all_sizes" (c7 fg) (b9 fg) (bu fg) dV kV be pm an (.ref c) ct),fh⟩)(qdI:W.codeIn K (.ref c) "all_sizes" = true)(T:bP mg)(tSo:mg "sorted" = none)(hC:W.codeHdIn K c Pt=true)(hPt:Pt≠mainGlobals)(hB:base.BuiltinsAt mg Pt)(Fl:(~~~0) 2 fl dl ["book", "node"] EI)(Cv:Binds K dl ["book", "node"] [])(Ih:W.keepIn K (.ref fl)=true)(Ii:mg "level_of" = !.ref fl)(qdJ:⋯ 7 "node_size" ["book", "looks", "units", "spans", "sizes", "node"] Hv):(~~~0) 8 f (W.fnOf "all_sizes" "all_sizes" (c7 fg) (b9 fg) (bu fg) dV kV be pm an (.ref c) ct) ["book", "looks", "units", "spans"] (CL Pt):=by
 show Do lk qdI QW (λvs H Q E h=>?_) (λA outer s H vs Q E hr h=>?_)
 .let⟨B,p,U,Sp,ds,ls,us,sp,rfl,_⟩:=h;rfl
 .let⟨B,p,U,Sp,ds,ls,us,sp,rfl,hBk,hlk,hun,fM,cx,QX,tb,q⟩:=h;have QY:Room 7 (fL am P w K mg base ["book", "looks", "units", "spans", "sizes", "node"] "all_sizes" (bu fg) f (.ref c) A outer s H E).nox.A:=hr;have qdK:Room (2+3) (fL am P w K mg base ["book", "looks", "units", "spans", "sizes", "node"] "all_sizes" (bu fg) f (.ref c) A outer s H E).nox.A:=QY.mono {};have:Nd (fL am P w K mg base ["book", "looks", "units", "spans", "sizes", "node"] "all_sizes" (bu fg) f (.ref c) A outer s H E).nox.N:=⟨QW.nd⟩;have hxl:∀(o:List Env) (h:Hp) (s2:Shared) (e:Value) (s3:Shared),am o h s2 E0 e s3->False:=λ_ _ _ _ _ z=>z
  have TT:PSs (fL am P w K mg base ["book", "looks", "units", "spans", "sizes", "node"] "all_sizes" (bu fg) f (.ref c) A outer s H E).nox (b9 fg) _:=(ar (sm 4 ["node"] [] [] (a9 (pv 0)) (nv 0) bf (br (aI aw (a3 (a0 bH) (a0 bH) aw))))
   (ar (fv (a9 (qdA (ix:=0) (by rfl) (by rfl) tSo Lj (a1 (eP Ya (by rfl) T.range ZZ (a1 (ln T.len (pv 0))))) qdE qdK (by rfl) (by rfl) (by rfl) O hC hPt hB (λcc e=>qdG e) (by rfl) (λ_ _ _ _ _ _=>rfl) Fl Cv Ih Ii hxl)) (nv 5)
   (ax (oY (Lg qdJ QY (by rfl) DD (aI (pv 0) (aI (pv 1) (aI (pv 2) (a3 (pv 3) (pv 4) (pv 5)))))) (rq (pv 4) (pv 5) pA))))
   (ax (aG (pv 4)))))
  show⟨_,TT.nox,?_⟩;let⟨ab,zg,nd⟩:=hBk;have dY:ab.length=ds.length:=nd.length;show⟨_,O,B,O,⟨_,SqL.of zg⟩,bw (xs:=ab.map V.ref) (λi ys ae H'=>Same H H'/\(∃z,ae=[z])/\∃as,ys=as.map V.ref/\Paired (SzN (λ_=>True) H') as (List.replicate i ⟨0,[],[],0⟩)) (by rw[qA];show aR ()) ⟨Same.refl H,⟨none,O⟩,[],O,.nil⟩ ?_ ?_ ?_⟩
  .ext i ys ae H' hi ⟨s1,_,as,rfl,pr⟩;show⟨SqL.of (s1 _ _ zg),?_⟩;rw[qA,qN pr,rY];show qF _
  .ext i y ys ae H' hy ⟨s1,⟨z,rfl⟩,as,rfl,pr⟩;show⟨aM,λX hX=>⟨aM,λY hY=>⟨aM,λt ht=>?_⟩⟩⟩;have s2:=ao hX (.lst []);have s3:=ao hY (.lst []);have s4:=ao ht (.tup [.int 0,.ref X,.ref Y,.int 0]);have kU:=(s2.trans s3).trans s4;show⟨s1.trans kU,⟨_,O⟩,as++[t],by rw[qD];rfl,?_⟩;rw[List.replicate_succ'];show(pr.mono λ_ _ z=>z.same kU).snoc ⟨X,Y,aj,trivial,⟨[],(s3.trans s4) _ _ aj,.nil⟩,trivial,[],s4 _ _ aj,.nil⟩
  ext ys ae H1 ⟨s1,_,as,rfl,pr⟩ S hS;rw[qA,dY]at pr;have s2:=ao hS (.lst (as.map V.ref));have gJ:af H1 S (.lst (as.map V.ref)) S=!.lst (as.map V.ref):=aj;have QZ:Paired (SzN (·≠ S) (af H1 S (.lst (as.map V.ref)))) as (List.replicate ds.length ⟨0,[],[],0⟩):=pr.mono λ_ _ z=>(z.mono (N':=(·≠ S)) λb ⟨o,e⟩ _ y=>by rw[y,hS]at e;cases e).same s2
  have aZ:=s1.trans s2;have S0:H S=none:=s1.free hS;generalize af H1 S (.lst (as.map V.ref))=H2 at gJ QZ aZ⊢;clear s2 hS s1 pr;let⟨Lv,lvs⟩:=Book.levs (cx (List.replicate ds.length ⟨0,[],[],0⟩) (rY)).bk;show⟨_,O,B,_,O,.inl (SqL.of (aZ _ _ zg)),(ab.map V.ref).length,O,by rw[qA];omega,λr Cf=>?_⟩;have s3:=aZ.trans (ao Cf (.rng 0 (ab.map V.ref).length));have jR:=ao Cf (.rng 0 (ab.map V.ref).length) _ _ gJ;have fE:Paired (SzN (·≠ S) (af H2 r (.rng 0 (ab.map V.ref).length))) as (List.replicate ds.length ⟨0,[],[],0⟩):=QZ.mono λ_ _ z=>z.same (ao Cf _)
  have oJ:af H2 r (.rng 0 (ab.map V.ref).length) r=!.rng 0 (ab.map V.ref).length:=aj;generalize af H2 r (.rng 0 (ab.map V.ref).length)=H3 at s3 jR fE oJ⊢;have Q0:jS H3 Pt mP.2.2.2 zf:=Ig (λb o _ e=>s3 b o e) tb;have nP:∀{b:Addr} {o:HO},(∀qs,o≠.tbl qs)->H3 b=!o->b≠Pt:=λn e z=>by
   let⟨ps,e',_⟩:=Q0;rw[z,e']at e;cases e;show n _ O
  show⟨r,(ab.map V.ref).length,.ref B,λi=>(Lv i:Int),O,oJ,by rw[qA];omega,Q0,O,λH4 c' CK tb4 eD=>?_⟩;show⟨λH'=>(∀b o,b≠Pt->H3 b=!o->H' b=!o)/\H' c'=!mO c' zf/\jS H' Pt mP.2.2.2 zf,⟨λb o n e=>CK b n o e,eD,tb4⟩,λH' h=>h.2.1,λi H' hi h=>?_,λa ms H' h ha pm _=>?_⟩
  .have ci:i<ds.length:=by rw[qA]at hi;omega
   have sd:jh H H':=λb o n e=>h.1 b o (nP n (s3 _ _ e)) (s3 _ _ e)
   let⟨l1,l2⟩:=lvs i ci;show⟨B,i,Lv i,ds,_,O,Ie sd ⟨ab,zg,nd⟩,l1,(),λH5 s5=>⟨⟨λb o n e=>s5 _ _ (h.1 b o n e),s5 _ _ h.2.1,Ig (λb o _ e=>s5 b o e) h.2.2⟩,O⟩⟩
  have gd:∀m∈ms,m<ds.length:=λm hm=>by
   have:=xF.mp (pm.mem_iff.mp hm);rw[qA]at this;omega
  have ml:ms.length=ds.length:=by rw[pm.length_eq,List.length_range,qA,dY]
  have CM:jh H3 (af H' a (.lst ((ms.map λ(i:Nat)=>(i:Int)).map V.int))):=λb o n e=>by
   have e':=h.1 b o (nP n e) e;rw[aE (cH e' ha)];show e'
  have Ij:KL (af H' a (.lst ((ms.map λ(i:Nat)=>(i:Int)).map V.int))) a ms:=aj;have aS:a≠S:=λz=>by
   have:=h.1 S _ (nP (o:=.lst (as.map V.ref)) (λ_ z=>nomatch z) jR) jR;rw[<-z,ha]at this;cases this
  generalize af H' a (.lst ((ms.map λ(i:Nat)=>(i:Int)).map V.int))=G0 at CM Ij⊢;have sm:∀{G:Hp},Keep1 S G0 G->jh H G:=λk1 b o n e=>k1 _ _ (λz=>by rw[z,S0]at e;cases e) (CM _ _ n (s3 _ _ e))
  show⟨a,O,⟨_,SqL.of Ij⟩,iV (xs:=(ms.map λ(j:Nat)=>(j:Int)).map V.int) (λi σ G=>Keep1 S G0 G/\(∃z5,σ=[!.ref B,!.ref p,!.ref U,!.ref Sp,!.ref S,z5])/\∃as sz,G S=!.lst (as.map V.ref)/\Paired (SzN (·≠ S) G) as sz/\sz.length=ds.length) ⟨KeepN.refl,⟨none,O⟩,as,_,CM _ _ (λ_ z=>nomatch z) jR,fE.mono λ_ _ z=>z.g CM,rY⟩ ?_ ?_ ?_⟩
  .ext i σ G hi ⟨k1,_⟩;show SqL.of (k1 _ _ aS Ij)
  .ext i y σ G hy ⟨k1,⟨z5,rfl⟩,as,sz,zh,zi,lz⟩;let⟨m,em,rfl⟩:=dN hy;have hm:=gd m (qR em);have sd:=sm k1;have las:=qN zi;dsimp only[a7];show⟨_,O,_,O,_,O,_,O,_,O,_,O,B,p,U,Sp,S,m,ds,ls,us,sp,sz,O,⟨⟨⟨Ie sd ⟨ab,zg,nd⟩,QU sd hlk,as,zh,zi.mono λ_ _ z=>z.at⟩,QV sd fM⟩,qdC sd hun⟩,cx sz lz,hm,λt z G1 s4 hz=>?_⟩;have iq:=s4 _ _ zh;show⟨_,O,_,O,S,_,_,m,O,O,iq,by rw[qA,las,lz];show FY hm,?_⟩;show⟨λb o n e=>by rw[aE n];show s4 _ _ (k1 b o n e),⟨_,O⟩,as.set m t,sz.set m z,by rw[aj,List.map_set],?_,by rw[uN,lz]⟩;show Paired.set (zi.mono λ_ _ y=>(y.same s4).put iq) ((hz.mono (N':=(·≠ S)) λb _ hb e=>by rw[e,zh]at hb;cases hb).put iq) m
  .ext σ G ⟨k1,⟨z5,rfl⟩,as,sz,zh,zi,lz⟩;show⟨_,O,q S sz G S0 (sm k1) ⟨as,zh,zi.mono λ_ _ z=>z.at⟩ lz⟩
end K32
namespace K32
open L2 Bk Gen Gd Bd Ins
abbrev Q2:=top 110
inductive Ik:List V->Hp->VK->XK->Prop
|m (B S:Addr) (n:Nat) (ds:List Nd) (sp:TC):vs=[.ref B,.ref S,.int n]->cB (λ_=>True) H B ds->LstAt PrAt H S sp->n<ds.length->sp.length=ds.length->(∀(m:Nat) (d:Nd),ds[m]?=!d->d.k=.picture->∃a b:Int,d.st=[.int a,.int b])->Q (.int (ge ds sp n)) H->Ik vs H Q E
theorem qdL(F:Fun K "own_wide" "own_wide" Q2 f fd)(U:qj mg)(tS:∃t,mg "STUFF" = !.int 4 t):(~~~0) 1 f fd ["book", "spans", "node"] Ik:=by
 rcases F.go ["book", "spans", "node"] with⟨B,S,n,ds,sp,rfl,⟨as,hB,nd⟩,⟨bs,hS,pr⟩,hn,im,pic,q⟩;let⟨_,dM⟩:=U.kind;let⟨_,mh⟩:=tS;let⟨_,gL⟩:=U.wide;show⟨_,(ax (aG (jo (tc bq (px aF (px aC (pv 0) (pv 2)) (gi dM)) aO) (px aC (px aF (px aC (pv 0) (pv 2)) (gi mh)) aw) (px aF (px aC (pv 1) (pv 2)) (gi gL))))),?_⟩;have ed:ds[n]?=!ds[n]:=qB hn;let⟨a,ea,na⟩:=nd.get ed;let⟨_,m',s',ha,_,_,st⟩:=na;generalize ds[n]=d at ed ha st;have ow:ge ds sp n=if d.k=.picture then gF d else(aT sp n).2:=by unfold ge;rw[ed]
 rw[ow]at q;let⟨_,jE,fS,cQ⟩:=st;have hb:n<bs.length:=by rw[qN pr,im];show hn
 have eb:bs[n]?=!bs[n]:=qB hb;let⟨pp,ep,BX⟩:=bN pr eb;have epp:aT sp n=pp:=by unfold aT;rw[ep];rfl
 show⟨_,O,_,O,B,_,_,_,O,O,SqL.of hB,aU ea,a,_,_,_,O,O,SqT.of ha,O,O,_,O,?_⟩;rw[show decide (V.str d.k.s=V.str (s!"picture"))=decide (d.k=.picture)from bY d.k .picture]
 by_cases hp:d.k=.picture
 .rw[qJ hp];let⟨w1,h1,iI⟩:=pic n d ed hp;have mE:jE[0]?=!.int w1:=by
   rw[iI]at cQ;cases cQ with
   | cons q1 _=>rw[show _=V.int w1 from q1];rfl
  show aY ⟨_,O,_,O,B,_,_,_,O,O,SqL.of hB,aU ea,a,_,_,_,O,O,SqT.of ha,O,s',_,_,_,O,O,SqL.of fS,eG (j:=0) mE,?_⟩;rw[if_pos hp]at q;unfold gF at q;rw[iI]at q;show q
 .rw[qP hp];rw[if_neg hp,epp]at q;show aW ⟨_,O,_,O,S,_,_,_,O,O,SqL.of hS,aU eb,_,_,_,_,O,O,SqT.of BX,O,q⟩
end K32
namespace K32
open L2 Bk Gd Bd Shr Sp0 Ins
open Gen
abbrev Q3:=top 109
theorem qdM(F:Fun K "insides" "insides" Q3 f fd)(T:bP mg)(tS:∃t,mg "SIZE_HIGH" = !.int 0 t)(tL:∃t,mg "LEFT" = !.int 0 t)(qdN:⋯ 1 "own_wide" ["book", "spans", "node"] Ik)(HM:⋯ 5 "held_tops" ["book", "looks", "sizes", "node"] qo):(~~~0) 6 f fd ["book", "looks", "spans", "sizes", "node", "top"] Hm:=by
 rcases F.go ["book", "looks", "spans", "sizes", "node", "top", "told", "tops", "one", "other", "below"] with⟨B,p,Sp,S,n,t,ds,ls,sp,sz,rfl,I,cx,hn,q⟩;let⟨_,kZ⟩:=tS;let⟨_,jO⟩:=tL;have iE:=DE hr;show⟨_,(ar (sv 6 (a0 bH))
  (ar (sv 7 (qb5 (qb3 (pv 4) (pv 5) qb2) O O ∅ {}))
  (ar (fv (Ak (by rfl) T.range (a2 (pv 4) (ln T.len (pv 0)))) (nv 8)
  (ax (ba (jU (Mm iE (pv 8) (pv 7))) (ar (bX (ap (pv 6) (br (aI (pv 8) (aI (px aF (px aC (pv 2) (pv 8)) (gi jO)) (a3 (Ml iE (pv 7) (pv 8) (λ_ _=>rfl)) (cF qdN hr (a3 (pv 0) (pv 2) (pv 8))) (px aF (px aC (pv 3) (pv 8)) (gi kZ))))))))
  (ax (fv (a9 (cF HM hr (aI (pv 0) (a3 (pv 1) (pv 3) (pv 8))))) (jp (by rfl) (bv (nv 9) (bv (nv 10) dO)))
  (ax (Mn iE (pv 7) (pv 9) (aH bc (Ml iE (pv 7) (pv 8) (λ_ _=>rfl)) (pv 10)) (by rfl)))))) bj)))
  (ax (aG (pv 6)))))),?_⟩
 have le:=cx.le;have ts:∀m,((bB ds ls (aJ sz) m).map Prod.fst).Sublist (ay ds m):=λm=>Cg
 have il:=(Pu (box:=cy ds sp sz) cx.bk ts hn t).1;have bi:=Pm (box:=cy ds sp sz) cx.bk ts hn t;show⟨aM,λL hL=>?_⟩;have s1:=ao hL (.lst []);have bg:af H L (.lst []) L=!.lst (([]:TQ).map V.ref):=aj;generalize af H L (.lst [])=H1 at s1 bg⊢;show λD hD=>⟨_,O,_,O,aj,[(.inl (n:Int),.int t)],O,by show 1<=15;decide,?_⟩
 have DL:D≠L:=λz=>by rw[z,bg]at hD;cases hD
 have Q4:af (af H1 D (.dK [])) D (.dK (mK [] [(.inl (n:Int),.int t)])) D=!.dK [(.inl (n:Int),.int t)]:=aj;have s2:Same H1 (af (af H1 D (.dK [])) D (.dK (mK [] [(.inl (n:Int),.int t)]))):=λb o e=>by
  rw[aE (cH e hD),aE (cH e hD)];show e
 have aZ:=s1.trans s2;have cu:=s2 _ _ bg;have D0:H D=none:=s1.free hD;generalize af (af H1 D (.dK [])) D (.dK (mK [] [(.inl (n:Int),.int t)]))=H2 at Q4 s2 aZ cu⊢;have sm:∀{G:Hp},KeepN (λb=>b≠L/\b≠D) H2 G->Same H G:=λk1 b o e=>k1 _ _ ⟨(λz=>by rw[z,hL]at e;cases e),(λz=>by rw[z,D0]at e;cases e)⟩ (aZ _ _ e)
 have qdO:DRel [(.inl (n:Int),.int t)] (λj=>if j=n then !t else none):=λj=>by
  by_cases e:j=n
  .rw[gC (show(Sum.inl (n:Int):aQ)=Sum.inl (j:Int) by rw[e])];simp[e]
  .rw[gE (show¬(Sum.inl (n:Int):aQ)=Sum.inl (j:Int)from λz=>e (by have:=Sum.inl.inj z;omega)),XM];simp[e]
 let⟨ab,hB,nd⟩:=(I.same aZ).bk;have dY:ab.length=ds.length:=nd.length;show⟨_,O,_,O,B,_,O,.inl (SqL.of hB),_,_,O,⟨(),(),(),by rw[qA];omega⟩,gg (λi σ G=>KeepN (λb=>b≠L/\b≠D) H2 G/\(∃z8 z9 cp,σ=[!.ref B,!.ref p,!.ref Sp,!.ref S,!.int n,!.int t,!.ref L,!.ref D,z8,z9,cp])/\LstAt gf G L ((List.range' n i).foldl (stepI (cy ds sp sz) (bB ds ls (aJ sz))) ([],λj=>if j=n then !t else none)).1/\∃ah,G D=!.dK ah/\ah.length<=1+100*i/\DRel ah ((List.range' n i).foldl (stepI (cy ds sp sz) (bB ds ls (aJ sz))) ([],λj=>if j=n then !t else none)).2) ⟨KeepN.refl,⟨none,none,none,O⟩,⟨[],cu,.nil⟩,_,Q4,∅,qdO⟩ ?_ ?_⟩
 .rintro i σ G hi ⟨k1,⟨z8,z9,cp,rfl⟩,⟨as,k9,dZ⟩,ah,CN,lk,cw⟩;have hm:n+i<ds.length:=by rw[qA]at hi;omega
  rw[show(n:Int)+(i:Int)=((n+i:Nat):Int) by omega];have er:List.range' n (i+1)=List.range' n i++[n+i]:=by rw[List.range'_concat];simp
  have al:=Hn (box:=cy ds sp sz) (tops:=bB ds ls (aJ sz)) (l:=List.range' n i) (st:=([],λj=>if j=n then !t else none));rw[List.length_range']at al;have al:((List.range' n i).foldl (stepI (cy ds sp sz) (bB ds ls (aJ sz))) ([],λj=>if j=n then !t else none)).1.length<=100:=rF al (by show 0+i<=100;omega);rw[er,List.foldl_append];generalize (List.range' n i).foldl (stepI (cy ds sp sz) (bB ds ls (aJ sz))) ([],λj=>if j=n then !t else none)=st at dZ cw al⊢;let⟨bF,T'⟩:=st;have i100:i<100:=()
  generalize n+i=m at hm⊢;have e1:[m].foldl (stepI (cy ds sp sz) (bB ds ls (aJ sz))) (bF,T')=stepI (cy ds sp sz) (bB ds ls (aJ sz)) (bF,T') m:=rfl;rw[e1];have IG:=I.same (sm k1);dsimp only[a7];have rm:=cw m;show⟨_,O,_,O,D,_,O,DGet.k (k:=.inl (m:Int)) CN,_,O,?_⟩;rw[show bJ ah (Sum.inl (m:Int))=(T' m).map V.int from rm];cases hT:T' m with
  | none =>
    rw[GV hT]
    show aW ⟨k1,⟨_,_,_,O⟩,⟨as,k9,dZ⟩,ah,CN,(),cw⟩
  | some u =>
    rw[Pi hT]
    show aY ?_
    let⟨bs,mL,eY⟩:=IG.sp
    let⟨cs,hS,Il⟩:=IG.sz
    let⟨b,eb,hb⟩:=fY eY (BR (show m<sp.length by rw[cx.sl];show hm))
    let⟨c,_,_,_,ec,hc⟩:=kW Il (show m<sz.length by rw[cx.zl];show hm)
    have gD:DGet G D (kV (.inl (m:Int))) (!.int u):=by
      have:=DGet.k (k:=.inl (m:Int)) CN
      rw[show bJ ah (Sum.inl (m:Int))=(T' m).map V.int from rm,hT]at this
      show this
    have oF:=qN dZ
    show⟨_,O,.inl ⟨O,_,SqL.of k9⟩,_,O,_,O,_,O,Sp,_,_,_,O,O,SqL.of mL,aU eb,b,_,_,_,O,O,SqT.of hb,O,_,O,_,O,D,_,O,gD,_,O,_,O,_,O,B,Sp,m,ds,sp,O,IG.bk,⟨bs,mL,eY⟩,hm,cx.sl,cx.pic,_,O,_,O,S,_,_,_,O,O,SqL.of hS,aU ec,c,_,_,_,O,O,SqT.of hc,O,aM,λx hx=>?_⟩
    have sx:=ao hx (.tup [.int (m:Int),.int (aT sp m).1,.int u,.int (ge ds sp m),.int (aJ sz m)])
    have CJ:gf (af G x (.tup [.int (m:Int),.int (aT sp m).1,.int u,.int (ge ds sp m),.int (aJ sz m)])) x (cy ds sp sz m u):=aj
    have bI:=sx _ _ k9
    have Q5:=sx _ _ CN
    have k3:=k1.trans (sx.keep (N:=λb=>b≠L/\b≠D))
    have fE:Paired (gf (af G x (.tup [.int (m:Int),.int (aT sp m).1,.int u,.int (ge ds sp m),.int (aJ sz m)]))) as bF:=dZ.mono λ_ _ z=>sx _ _ z
    generalize af G x (.tup [.int (m:Int),.int (aT sp m).1,.int u,.int (ge ds sp m),.int (aJ sz m)])=G3 at CJ bI Q5 k3 fE⊢
    show⟨L,_,_,O,O,bI,aR (by rw[qA];omega),?_⟩
    have tl:=Tups.lst (o:=.lst (as.map V.ref++[.ref x])) bI
    have cr:af G3 L (.lst (as.map V.ref++[.ref x])) L=!.lst ((as++[x]).map V.ref):=by rw[aj,qD];rfl
    have jL:af G3 L (.lst (as.map V.ref++[.ref x])) D=!.dK ah:=by rw[aE DL];show Q5
    have k4:KeepN (λb=>b≠L/\b≠D) H2 (af G3 L (.lst (as.map V.ref++[.ref x]))):=λb o nb e=>by rw[aE nb.1];show k3 b o nb e
    have CO:Paired (gf (af G3 L (.lst (as.map V.ref++[.ref x])))) (as++[x]) (bF++[cy ds sp sz m u]):=(fE.mono λ_ _ z=>tl _ _ z).snoc (tl _ _ CJ)
    generalize af G3 L (.lst (as.map V.ref++[.ref x]))=G4 at cr jL k4 CO⊢
    show⟨_,O,_,O,_,O,_,O,B,p,S,m,ds,ls,sz,O,(I.same (sm k4)).toInT,cx.toCx4,hm,λY G5 hY s5 lY=>?_⟩
    have oH:=ts m
    have yn:=oH.length_le
    rw[qA]at yn
    have kl:=lZ ds m
    have nm:m∉(bB ds ls (aJ sz) m).map Prod.fst:=λz=>by
      let⟨dd,e3,e4⟩:=Bh (oH.subset z)
      have:=Bt cx.bk m dd e3
      omega
    generalize bB ds ls (aJ sz) m=xs at lY yn nm⊢
    let⟨ys,zn,zo⟩:=lY
    have ly:=qN zo
    have YD:Y≠D:=λz=>by rw[z,jL]at hY;cases hY
    have YL:Y≠L:=λz=>by rw[z,cr]at hY;cases hY
    have e7:=s5 _ _ cr
    have Im:=s5 _ _ jL
    have k5:=k4.trans (s5.keep (N:=λb=>b≠L/\b≠D))
    have oG:Paired (gf G5) (as++[x]) (bF++[cy ds sp sz m u]):=CO.mono λ_ _ z=>s5 _ _ z
    show⟨Y,O,⟨_,SqL.of zn⟩,iV (xs:=ys.map V.ref) (λk σ G'=>Keep1 D G5 G'/\(∃z9 cp,σ=[!.ref B,!.ref p,!.ref Sp,!.ref S,!.int n,!.int t,!.ref L,!.ref D,!.int m,z9,cp])/\∃oM,G' D=!.dK oM/\oM.length<=1+100*i+k/\DRel oM (put T' u (xs.take k))) ⟨KeepN.refl,⟨_,_,O⟩,ah,Im,(),cw⟩ ?_ ?_ ?_⟩
    · ext k σ G' hk ⟨k6,_⟩
      show SqL.of (k6 _ _ YD zn)
    · rintro k y σ G' hy ⟨k6,⟨z9,cp,rfl⟩,oM,iL,Q6,zq⟩
      let⟨a,ea,rfl⟩:=cC hy
      let⟨v,ev,ha⟩:=bN zo ea
      have hk:k<xs.length:=(qI.mp ev).1
      have aD:a≠D:=λz=>by
        have kC:G5 a=!.tup _:=ha
        rw[z,Im]at kC
        cases kC
      have et:xs.take (k+1)=xs.take k++[v]:=by rw[qS,ev];rfl
      have nk:m∉(xs.take k).map Prod.fst:=λz=>nm (by
        let⟨w',hw,e3⟩:=qW.mp z
        show qW.mpr ⟨w',yC hw,e3⟩)
      have gD':DGet G' D (kV (.inl (m:Int))) (!.int u):=by
        have:=DGet.k (k:=.inl (m:Int)) iL
        rw[show bJ oM (Sum.inl (m:Int))=(put T' u (xs.take k) m).map V.int from zq m,ql nk,hT]at this
        show this
      show⟨a,_,O,SqT.of (k6 _ _ aD ha),O,_,_,O,_,_,O,O,?_⟩
      show⟨_,O,_,O,D,_,O,gD',_,O,_,_,O,O,_,O,_,O,D,_,O,DPut.k (k:=.inl (v.1:Int)) iL ?_,?_⟩
      · rw[sizeLine_eq]
        omega
      · refine⟨λb o nb e=>by rw[aE nb];show k6 b o nb e,⟨_,_,O⟩,_,aj,?_,?_⟩
        · show rF (va _ _ _) ()
        · rw[et,qb6]
          show zq.put v.1 (u+v.2)
    · ext σ G' ⟨k6,⟨z9,cp,rfl⟩,oM,iL,Q6,zq⟩
      rw[qH (by rw[qA,ly];show qF _)]at zq
      rw[qA]at Q6
      show⟨λb o nb e=>k6 _ _ nb.2 (k5 b o nb e),⟨_,_,_,O⟩,⟨as++[x],k6 _ _ DL.symm e7,Br.paired_mem oG λa b _ z=>k6 _ _ (λy=>?_) z⟩,oM,iL,(),zq⟩
      have z':G5 a=!.tup _:=z
      rw[y,Im]at z'
      cases z'
 .ext σ G ⟨k1,⟨z8,z9,cp,rfl⟩,lG,_⟩;rw[show((((ab.map V.ref).length:Nat):Int)-(n:Int)).toNat=ds.length-n by rw[qA,dY];omega,bi]at lG;show⟨_,O,q L G hL (sm k1) lG ()⟩
end K32
namespace K32
open L2 Bk Gen Gd Bd
abbrev Q7:=top 125
def iO(ds:List Nd)(n i:Nat):TM:=(List.range i).filter λj=>decide (ds[j]?.map Nd.e=!(n:Int)) && decide (ds[j]?.map Nd.k≠!Kd.note)
inductive Io:List V->Hp->VK->XK->Prop
|m (B:Addr) (n:Nat) (ds:List Nd):vs=[.ref B,.int n]->cB (λ_=>True) H B ds->ds.length<=100->(∀(L:Addr) (H':Hp),H L=none->Same H H'->H' L=!.lst ((iO ds n ds.length).map λ(j:Nat)=>V.int (j:Int))->Q (.ref L) H')->Io vs H Q E
theorem qdP(F:Fun K "_law_held" "_law_held" Q7 f fd)(T:bP mg):(~~~0) 1 f fd ["_law_book_here", "_law_node"] Io:=by
 rcases F.go ["_law_book_here", "_law_node"] with⟨B,n,ds,rfl,⟨as,hB,nd⟩,le,q⟩;have dY:as.length=ds.length:=nd.length;show⟨_,(ax (aG (cm ["_law_k"] ["_law_node", "_law_book_here"] [1,0] (r1 T.range (ln T.len (pv 0))) (nv 0) (iA (PW.pt (iS (tc bq (px (r:=b8 K) aF (px (r:=cz K) aC (pv 2) (pv 0)) aw) (pv 1)) (jV (tc iw (px (r:=b8 K) aF (px (r:=cz K) aC (pv 2) (pv 0)) aw) aO))))) (pv 0)))),?_⟩;have el:(((as.map V.ref).length:Int)).toNat=ds.length:=by rw[qA,dY];rfl
 show⟨_,O,B,_,O,.inl (SqL.of hB),_,O,by rw[qA];omega,by rw[qA];omega,kg (λi ys ae H'=>H'=H/\ys=(iO ds n i).map (λ(j:Nat)=>V.int (j:Int))/\∃z,ae=[z,!.int n,!.ref B]) (by rw[el];show aR ()) ⟨O,O,none,O⟩ ?_ ?_ ?_⟩
 .ext i ys ae H' hi ⟨rfl,rfl,_⟩;rw[qA];show rF (rR _ _) (by rw[List.length_range];show qF _)
 .ext i ys ae H' hi ⟨rfl,rfl,z,rfl⟩;rw[el]at hi;rw[show(0:Int)+(i:Int)=(i:Int)from uC _];have ed:ds[i]?=!ds[i]:=qB hi;let⟨a,ea,na⟩:=nd.get ed;let⟨m',s',ha,_⟩:=na.ex;have more:iO ds n (i+1)=iO ds n i++(if ds[i].e=(n:Int)/\ds[i].k≠.note then[i]else[]):=by
   unfold iO;rw[uD,rT]
   congr 1
   by_cases h1:ds[i].e=(n:Int)<;>by_cases h2:ds[i].k=.note<;>simp[ed,h1,h2]
  show⟨_,O,_,O,B,_,_,_,O,O,SqL.of hB,aU ea,a,_,_,_,O,O,SqT.of ha,O,_,O,O,_,O,?_⟩
  by_cases he:ds[i].e=(n:Int)
  .rw[qJ (xC V.int he)];show aY ⟨_,O,_,O,B,_,_,_,O,O,SqL.of hB,aU ea,a,_,_,_,O,O,SqT.of ha,O,O,_,O,?_⟩;rw[show decide (V.str ds[i].k.s=V.str (s!"note"))=decide (ds[i].k=.note)from bY ds[i].k .note]
   by_cases hk:ds[i].k=.note
   .rw[qJ hk];show aW ⟨O,?_,_,O⟩;rw[more,if_neg (λz=>z.2 hk),rQ]
   .rw[qP hk];show aY ⟨_,O,O,?_,_,O⟩;rw[more,if_pos ⟨he,hk⟩,qD];rfl
  .rw[qP λz=>he (V.int.inj z)];show aW (aW ⟨O,?_,_,O⟩);rw[more,if_neg (λz=>he z.1),rQ]
 .ext ys ae H' ⟨rfl,rfl,_⟩ D hD;rw[el];show q D _ hD (ao hD _) aj
end K32
namespace K32
open L2 Bk Gd Bd Shr Sp0 Ins
open Gen
abbrev Q8:=top 128
def Q9{n m:Nat}(h:m∈ay ds n)(e:ds[m]?=!d):d.k∈kk ds n:=by
 let⟨d',e',he⟩:=Bh h;rw[e]at e';cases e';show qW.mpr ⟨d,xL.mpr ⟨qR e,qJ he⟩,O⟩
theorem qdQ{n:Nat}(b:Book ds)(e:ds[n]?=!d):iO ds n ds.length=if d.k=.text\/d.k=.head\/d.k=.note then[]else ay ds n:=by
 have hh:=(Bk.Book.each b e).kids.1;have e1:iO ds n ds.length=(ay ds n).filter λj=>decide (ds[j]?.map Nd.k≠!Kd.note):=by
  unfold iO ay;rw[List.filter_filter];show List.filter_congr λj _=>Bool.and_comm _ _
 rw[e1]
 split
 .rename_i hk;show List.filter_eq_nil_iff.mpr λj hj=>?_
  obtain⟨dj,ej⟩:∃dj,ds[j]?=!dj:=⟨_,qB (dC hj)⟩;have:=hh _ (Q9 hj ej);rw[ej];have:dj.k=.note:=by
   rcases hk with z | z | z<;>rw[z]at this<;>revert this<;>cases dj.k<;>decide
  simp[this]
 .rename_i hk;show List.filter_eq_self.mpr λj hj=>?_
  obtain⟨dj,ej⟩:∃dj,ds[j]?=!dj:=⟨_,qB (dC hj)⟩;have:=hh _ (Q9 hj ej);rw[ej];show qJ λz=>hk ?_
  have z:dj.k=.note:=rD z;rw[z]at this;revert this;cases d.k<;>decide
theorem qdR(F:Fun K "_law_tops" "_law_tops" Q8 f fd)(T:bP mg)(qdS:⋯ 1 "_law_held" ["_law_book_here", "_law_node"] Io)(qdT:⋯ 1 "_law_beside" ["_law_book_here", "_law_node"] qt)(xu:⋯ 3 "grid_places" ["columns", "cells"] vg)(HI:⋯ 2 "grid_highs" ["places", "highs"] Cj):(~~~0) 4 f fd ["_law_book_here", "_law_looks_here", "_law_sizes", "_law_node"] qo:=by
 rcases F.go ["_law_book_here", "_law_looks_here", "_law_sizes", "_law_node", "_law_some", "_law_places", "_law_highs", "_law_found", "_law_end", "_law_one", "_law_aside", "_law_top"] with⟨B,p,S,n,ds,ls,sz,rfl,I,cx,hn,q⟩;have hu:=hr.units;show⟨_,(ar (sv 4 (cF qdS hr (a2 (pv 0) (pv 3))))
  (ar (ba (tc bq (px aF (px aC (pv 0) (pv 3)) aw) aO) (ax (aG (cm ["_law_one"] [] [] (a9 (pv 4)) (nv 0) bf (br (a2 (pv 0) aw))))) bj)
  (ar (ba (tc bq (px aF (px aC (pv 0) (pv 3)) aw) aO) (ar (sv 5 (cF xu hr (a2 (px aC (px aC (pv 1) (pv 3)) aw) (cm ["_law_one"] ["_law_looks_here"] [1] (a9 (pv 4)) (nv 0) bf (br (a2 (px (r:=cz K) aC (px (r:=cz K) aC (pv 1) (pv 0)) aw) (px (r:=cz K) aC (px (r:=cz K) aC (pv 1) (pv 0)) aw)))))))
  (ar (sv 6 (cF HI hr (a2 (pv 5) (cm ["_law_one"] ["_law_sizes"] [2] (a9 (pv 4)) (nv 0) bf (px (r:=b8 K) aF (px (r:=cz K) aC (pv 1) (pv 0)) aw)))))
  (ax (aG (cm ["_law_one", "_law_place"] ["_law_highs"] [6] (vj (by rfl) T.zip (a2 (pv 4) (pv 5))) (kj K (n:=2) (by rfl) (by rfl) (bv (nv 0) (bv (nv 1) dO))) bf (br (a2 (pv 0) (cb (r:=pX K) (BU K (by rfl) (by rfl)) T.sum fW (a1 (lJ (r:=mY K) (Be K (by rfl)) (pv 2) pi (jq (px (r:=b8 K) aF (pv 1) aw)))))))))))) bj)
  (ar (sv 7 (a0 bH))
  (ar (sv 8 aw)
  (ar (fv (a9 (pv 4)) (nv 9)
  (ax (ba (tc iw (px aF (px aC (pv 0) (pv 9)) aw) aO) (ar (sv 10 (cF qdT hr (a2 (pv 0) (pv 9))))
  (ar (sv 11 (aH bc (pv 8) (aH fK (px aC (px aC (pv 1) (pv 9)) aw) (eP sr (by rfl) T.int pN (a1 (ec (P2 hu) (pv 7) (a0 bH)))))))
  (ar (sv 8 (aH bc (pv 11) (px aF (px aC (pv 2) (pv 9)) aw)))
  (ar (ba (jU (Ad (pv 10))) (ar (bX (ap (pv 7) (br (a2 (pv 10) (pv 11)))))
  (ax (sv 8 (cb (mW (by rfl)) T.max eQ (a2 (pv 8) (aH bc (pv 11) (px aF (px aC (pv 2) (pv 10)) aw))))))) bj)
  (ax (bX (ap (pv 7) (br (a2 (pv 9) (pv 11)))))))))) bj)))
  (ax (aG (pv 7))))))))),?_⟩
 obtain⟨d,ed⟩:∃d,ds[n]?=!d:=⟨_,qB hn⟩;have le:=cx.le;show⟨_,O,_,O,B,n,ds,O,I.bk,cx.le,λk H1 hk s1 dL=>?_⟩;have eh:=qdQ cx.bk ed;have kin:∀m∈iO ds n ds.length,m<ds.length:=λm hm=>xF.mp (xL.mp hm).1
 have yi:(iO ds n ds.length).length<=100:=rF (rR _ _) (by rw[List.length_range];show le);have bM:KL H1 k (iO ds n ds.length):=by
  show H1 k=_;rw[dL,xH];rfl
 clear dL;generalize iO ds n ds.length=ks at eh kin yi bM;have I1:=I.same s1;let⟨ab,hB,nd⟩:=I1.bk;let⟨c,ec,nc⟩:=nd.get ed;let⟨m',s',hc,_⟩:=nc.ex;dsimp only[a7];show⟨_,O,_,O,B,_,_,_,O,O,SqL.of hB,aU ec,c,_,_,_,O,O,SqT.of hc,O,O,_,O,?_⟩;rw[show decide (V.str d.k.s=V.str (s!"shelf"))=decide (d.k=.shelf)from bY d.k .shelf]
 by_cases hs:d.k=.shelf
 .rw[qJ hs];rw[if_neg (by rw[hs];simp)]at eh;subst eh;rw[Qg ed hs]at q;show aY ⟨_,O,k,O,⟨_,SqL.of bM⟩,bw (xs:=((ay ds n).map λ(j:Nat)=>(j:Int)).map V.int) (λi ys ae G'=>Same H1 G'/\(∃z,ae=[z])/\∃ts,ys=ts.map V.ref/\Paired (Br.PnAt G') ts (((ay ds n).map λm=>(m,0)).take i)) (by rw[qA,qA];show aR ()) ⟨Same.refl _,⟨none,O⟩,[],O,.nil⟩ ?_ ?_ ?_⟩
  .ext i ys ae G' hi ⟨s5,_,ts,rfl,pt⟩;show⟨SqL.of (s5 _ _ bM),?_⟩;rw[qA,qN pt,qQ];show qV _ _
  .ext i y ys ae G' hy ⟨s5,⟨z,rfl⟩,ts,rfl,pt⟩;let⟨x,ex,rfl⟩:=dN hy;show⟨_,O,aM,λt ht=>?_⟩;have s6:=ao ht (.tup [.int (x:Int),.int 0]);show⟨s5.trans s6,⟨_,O⟩,ts++[t],by rw[qD];rfl,?_⟩;have e2:((ay ds n).map λm=>(m,(0:Int)))[i]?=!(x,0):=by rw[qK,ex];rfl
   rw[qS,e2];show(pt.mono λ_ _ z=>s6 _ _ z).snoc aj
  .ext ys ae G3 ⟨s5,_,ts,rfl,pt⟩ C hC;rw[qH (by rw[qA,qA,qA];show qF _)]at pt;have gM:=s1.trans s5;show q C _ (gM.free hC) (gM.trans (ao hC _)) ⟨ts,aj,pt.mono λ_ _ z=>ao hC _ _ _ z⟩
 rw[qP hs];show aW ?_;show⟨_,O,_,O,B,_,_,_,O,O,SqL.of hB,aU ec,c,_,_,_,O,O,SqT.of hc,O,O,_,O,?_⟩;rw[show decide (V.str d.k.s=V.str (s!"grid"))=decide (d.k=.grid)from bY d.k .grid];let⟨GL,hp,prl⟩:=I1.lk;have row:∀m,m<ds.length->∃a,GL[m]?=!a/\∀j,j<13->H1 a=!.lst ((ls.getD m []).map V.int)/\((ls.getD m []).map V.int)[j]?=!.int (aB ls m j):=λm hm=>by
  have hl:m<ls.length:=by rw[cx.ll];show hm
  let⟨a,ea,ha⟩:=fY prl (qB hl);have e1:ls.getD m []=ls[m]:=by rw[qX,qB hl];rfl
  show⟨a,ea,λj hj=>by rw[e1];show⟨ha,lkg hl cx.l13 hj⟩⟩
 by_cases hg:d.k=.grid
 .rw[qJ hg];rw[if_neg (by rw[hg];simp)]at eh;rw[Qh ed hg,<-eh]at q;let⟨l,_,cE,lv⟩:=cx.look hn;have cb:=cE.cols;rw[<-lv]at cb;have kP:=cx.cells n;rw[<-eh]at kP;obtain⟨cn,ym⟩:∃cn:Nat,aB ls n 7=(cn:Int):=⟨(aB ls n 7).toNat,()⟩;rw[ym,yF]at q;let⟨ra,era,CA⟩:=row n hn;have cl:(bG ls ks).length=ks.length:=wu;show aY ⟨_,O,_,O,p,_,_,_,O,O,SqL.of hp,aU era,ra,_,_,_,O,O,SqL.of (CA 7 {}).1,eG (j:=7) (CA 7 {}).2,?_⟩;rw[ym];show⟨_,O,k,O,⟨_,SqL.of bM⟩,bw (xs:=(ks.map λ(j:Nat)=>(j:Int)).map V.int) (λi ys ae H'=>Same H1 H'/\(∃z,ae=[z,!.ref p])/\∃as,ys=as.map V.ref/\Paired (TupAt H') as ((bG ls ks).take i)) (by rw[qA,qA];show aR ()) ⟨Same.refl _,⟨none,O⟩,[],O,.nil⟩ ?_ ?_ ?_⟩
  .ext i ys ae H' hi ⟨s2,_,as,rfl,pr⟩;show⟨SqL.of (s2 _ _ bM),?_⟩;rw[qA,qN pr,qQ];show qV _ _
  .ext i y ys ae H' hy ⟨s2,⟨z,rfl⟩,as,rfl,pr⟩;let⟨m,em,rfl⟩:=dN hy;have hm:=kin m (qR em);let⟨l',_,lo,oq⟩:=cx.look hm;have b1:=lo.span;have b2:=lo.deep;rw[<-oq]at b1 b2;let⟨rm,CP,yz⟩:=row m hm;have h8:=yz 8 {};have h9:=yz 9 {};show⟨_,O,_,O,p,_,_,_,O,O,SqL.of (s2 _ _ hp),aU CP,rm,_,_,_,O,O,SqL.of (s2 _ _ h8.1),eG (j:=8) h8.2,_,O,_,O,p,_,_,_,O,O,SqL.of (s2 _ _ hp),aU CP,rm,_,_,_,O,O,SqL.of (s2 _ _ h9.1),eG (j:=9) h9.2,aM,λt ht=>?_⟩;have s3:=ao ht (.tup [.int (aB ls m 8),.int (aB ls m 9)]);show⟨s2.trans s3,⟨_,O⟩,as++[t],by rw[qD];rfl,?_⟩;have e2:(bG ls ks)[i]?=!((aB ls m 8).toNat,(aB ls m 9).toNat):=by unfold bG;rw[qK,em];rfl
   rw[qS,e2];show(lU (.of s3) pr).snoc ?_;show af H' t _ t=!.tup [.int (((aB ls m 8).toNat:Nat):Int),.int (((aB ls m 9).toNat:Nat):Int)];rw[aj,Int.toNat_of_nonneg (),Int.toNat_of_nonneg ()]
  ext ys ae H2 ⟨s2,_,as,rfl,pr⟩ C hC;rw[qH (by rw[cl,qA,qA];show qF _)]at pr;have s3:=s2.trans (ao hC (.lst (as.map V.ref)));have lC:LstAt TupAt (af H2 C (.lst (as.map V.ref))) C (bG ls ks):=⟨as,aj,lU (.of (ao hC _)) pr⟩;generalize af H2 C (.lst (as.map V.ref))=H3 at s3 lC⊢;show⟨C,cn,bG ls ks,O,lC,kP,(),(),(),λM H4 ps hM s4 lM pd mi=>?_⟩;have ep:=pd.eq;have lp:=pd.len;have jv:=s3.trans s4;dsimp only[a7];let⟨bs,hS,cQ⟩:=Ck jv I1.sz;have yj:KL H4 k ks:=jv _ _ bM;show⟨_,O,_,O,k,O,⟨_,SqL.of yj⟩,bw (xs:=(ks.map λ(j:Nat)=>(j:Int)).map V.int) (λi ys ae H'=>H'=H4/\(∃z,ae=[z,!.ref S])/\ys=((ks.map (aJ sz)).take i).map V.int) (by rw[qA,qA];show aR ()) ⟨O,⟨none,O⟩,O⟩ ?_ ?_ ?_⟩
  .ext i ys ae H' hi ⟨rfl,_,rfl⟩;show⟨SqL.of yj,?_⟩;rw[qA,qQ];show qV _ _
  .ext i y ys ae H' hy ⟨rfl,⟨z,rfl⟩,rfl⟩;let⟨m,em,rfl⟩:=dN hy;let⟨a,_,_,_,ea,ha⟩:=kW cQ (show m<sz.length by rw[cx.zl];show kin m (qR em));show⟨_,O,_,O,S,_,_,_,O,O,SqL.of hS,aU ea,a,_,_,_,O,O,SqT.of ha,O,O,⟨_,O⟩,?_⟩;have e2:(ks.map (aJ sz))[i]?=!aJ sz m:=by rw[qK,em];rfl
   rw[qS,e2,qD];rfl
  ext ys ae H' ⟨rfl,_,rfl⟩ D hD;rw[qH (by rw[qA,qA,qA];show qF _)];have s5:=ao hD (.lst ((ks.map (aJ sz)).map V.int));have dE:af H' D (.lst ((ks.map (aJ sz)).map V.int)) D=!.lst ((ks.map (aJ sz)).map V.int):=aj;generalize af H' D (.lst ((ks.map (aJ sz)).map V.int))=H5 at s5 dE⊢;have hz:=mi.hs (hs:=ks.map (aJ sz)) () (by rw[qA];omega);show⟨M,D,ps,_,O,eJ (λ_ _ z=>s5 _ _ z) s5 lM,dE,hz,λN H6 hN s6 fR=>?_⟩;have Ip:=s5.trans s6;have Ra:=jv.trans Ip;dsimp only[a7];let⟨cs,Rb,eY⟩:=eJ (F:=PlAt) (λ_ _ z=>Ip _ _ z) Ip lM;have lb:cs.length=ks.length:=by have:=qN eY;omega
  have Rc:KL H6 k ks:=Ra _ _ bM;rw[ep]at eY fR lp;have gl:(fG ls (aJ sz) cn ks).length=ks.length:=by unfold fG;rw[qA,List.length_zip];omega
  show⟨_,O,_,O,k,M,O,⟨_,SqL.of Rc⟩,⟨_,SqL.of Rb⟩,Bf (xs:=(ks.map λ(j:Nat)=>(j:Int)).map V.int) (ys:=cs.map V.ref) (by rw[qA,qA,qA];omega) (λi ys ae H'=>Same H6 H'/\(∃z0 z1,ae=[z0,z1,!.ref N])/\∃ts,ys=ts.map V.ref/\Paired (Br.PnAt H') ts ((fG ls (aJ sz) cn ks).take i)) (by rw[qA,qA];show aR ()) ⟨Same.refl _,⟨none,none,O⟩,[],O,.nil⟩ ?_ ?_ ?_⟩
  .ext i ys ae H' hi ⟨s7,_,ts,rfl,pt⟩;show⟨SqL.of (s7 _ _ Rc),SqL.of (s7 _ _ Rb),?_⟩;rw[qA,qN pt,qQ];show qV _ _
  .ext i x y ys ae H' T' hx hy hT ⟨s7,⟨z0,z1,rfl⟩,ts,rfl,pt⟩;let⟨m,em,rfl⟩:=dN hx;let⟨b,eb,rfl⟩:=cC hy;let⟨pl,HJ,hb⟩:=bN eY eb;have sT:=ao hT (.tup [.int (m:Int),.ref b]);have s8:=s7.trans sT;have yk:Paired (Br.PnAt (af H' T' (.tup [.int (m:Int),.ref b]))) ts ((fG ls (aJ sz) cn ks).take i):=pt.mono λ_ _ z=>sT _ _ z
   show⟨T',_,O,SqT.of aj,O,_,_,O,_,_,O,O,?_⟩;generalize af H' T' (.tup [.int (m:Int),.ref b])=H8 at s8 yk⊢;show⟨_,O,_,O,_,O,b,_,_,_,O,O,SqT.of (s8 _ _ hb),O,(pl.r:Int),O,N,_,O,SqL.of (s8 _ _ fR),λZ hZ=>?_⟩;rw[BS];have s9:=ao hZ (.lst (((cJ ((dg cn (bG ls ks)).zip (ks.map (aJ sz))) (many (dg cn (bG ls ks)))).take pl.r).map V.int));show⟨Z,_,O,SqL.of aj,aM,λt ht=>?_⟩;have jI:=s9.trans (ao ht (.tup [.int (m:Int),.int ((cJ ((dg cn (bG ls ks)).zip (ks.map (aJ sz))) (many (dg cn (bG ls ks)))).take pl.r).sum]));show⟨s8.trans jI,⟨_,_,O⟩,ts++[t],by rw[qD];rfl,?_⟩;have e2:(fG ls (aJ sz) cn ks)[i]?=!(m,((cJ ((dg cn (bG ls ks)).zip (ks.map (aJ sz))) (many (dg cn (bG ls ks)))).take pl.r).sum):=by
    unfold fG;have:(ks.zip (dg cn (bG ls ks)))[i]?=!(m,pl):=List.getElem?_zip_eq_some.mpr ⟨em,HJ⟩;rw[qK,this];rfl
   rw[qS,e2];show(yk.mono λ_ _ z=>jI _ _ z).snoc aj
  .ext ys ae H' ⟨s7,_,ts,rfl,pt⟩ D hD;rw[qH (by rw[gl,qA,qA];show qF _)]at pt;have Re:=(s1.trans Ra).trans s7;show q D _ (Re.free hD) (Re.trans (ao hD _)) ⟨ts,aj,pt.mono λ_ _ z=>ao hD _ _ _ z⟩
 rw[qP hg];show aW ?_;have etp:bB ds ls (aJ sz) n=(eZ ds ls (aJ sz) ks).1:=by
  by_cases fF:d.k=.text\/d.k=.head\/d.k=.note
  .rw[if_pos fF]at eh;rw[Qf ed fF,eh];rfl
  .rw[if_neg fF]at eh;rw[Qi ed fF hs hg,eh]
 rw[etp]at q;show⟨aM,λL hL=>?_⟩;have sL:=ao hL (.lst []);have bg:af H1 L (.lst []) L=!.lst (([]:TQ).map V.ref):=aj;have L0:H L=none:=s1.free hL;have aZ:=s1.trans sL;have eK:KL (af H1 L (.lst [])) k ks:=sL _ _ bM;have kL:k≠L:=λz=>by rw[z]at bM;rw[show H1 L=_ from bM]at hL;cases hL
 generalize af H1 L (.lst [])=H2 at sL bg aZ eK⊢;have sm:∀{G:Hp},Keep1 L H2 G->Same H1 G:=λk1 b o e=>k1 _ _ (λz=>by rw[z,hL]at e;cases e) (sL _ _ e)
 show⟨_,O,k,O,⟨_,SqL.of eK⟩,iV (xs:=(ks.map λ(j:Nat)=>(j:Int)).map V.int) (λi σ G=>Keep1 L H2 G/\(∃z9 cp oN,σ=[!.ref B,!.ref p,!.ref S,!.int n,!.ref k,none,none,!.ref L,!.int (eZ ds ls (aJ sz) (ks.take i)).2,z9,cp,oN])/\LstAt Br.PnAt G L (eZ ds ls (aJ sz) (ks.take i)).1) ⟨KeepN.refl,⟨none,none,none,O⟩,[],bg,.nil⟩ ?_ ?_ ?_⟩
 .ext i σ G hi ⟨k1,_⟩;show SqL.of (k1 _ _ kL eK)
 .rintro i y σ G hy ⟨k1,⟨z9,cp,oN,rfl⟩,as,k9,dZ⟩;let⟨m,em,rfl⟩:=dN hy;have hm:=kin m (qR em);have hi:i<ks.length:=(qI.mp em).1;have et:ks.take (i+1)=ks.take i++[m]:=by rw[qS,em];rfl
  have CQ:=sm k1;have IG:=I1.same CQ;obtain⟨dm,oD⟩:∃dm,ds[m]?=!dm:=⟨_,qB hm⟩;let⟨cm,GP,GQ⟩:=nd.get oD;let⟨_,_,GR,_⟩:=GQ.ex;have eA:cG ds m=decide (dm.k=.aside):=by
   unfold cG;rw[oD]
   by_cases y:dm.k=.aside<;>simp[y]
  rw[et,GS];have al:(eZ ds ls (aJ sz) (ks.take i)).1.length<=200:=by
   have h2:=rR (λm=>(Bool.not (cG ds m))) (ks.take i);rw[qQ]at h2;show rF Hj ?_;show 0+2*_<=200;omega
  generalize eZ ds ls (aJ sz) (ks.take i)=acc at dZ al⊢;dsimp only[a7];show⟨_,O,_,O,B,_,_,_,O,O,SqL.of (CQ _ _ hB),aU GP,cm,_,_,_,O,O,SqT.of (CQ _ _ GR),O,O,_,O,?_⟩;rw[show decide (V.str dm.k.s=V.str (s!"aside"))=decide (dm.k=.aside)from bY dm.k .aside]
  by_cases hA:dm.k=.aside
  .rw[qJ hA,if_pos (show cG ds m=true by rw[eA];show qJ hA)];show aW ⟨k1,⟨_,_,_,O⟩,as,k9,dZ⟩
  rw[qP hA,if_neg (show¬cG ds m=true by rw[eA];simp[hA]),Pq];show aY ?_;show⟨_,O,_,O,B,m,ds,O,IG.bk,cx.bk,cx.le,hm,λG1 s3=>?_⟩;have oF:=qN dZ;have yd:=CQ.trans s3;have mF:=s3 _ _ k9;dsimp only[a7];let⟨rm,CP,yz⟩:=row m hm;have h2:=yz 2 {};show⟨_,O,_,O,_,O,p,_,_,_,O,O,SqL.of (yd _ _ hp),aU CP,rm,_,_,_,O,O,SqL.of (yd _ _ h2.1),eG (j:=2) h2.2,_,O,aM,λZ hZ=>?_⟩;have sZ:=ao hZ (.lst []);have cu:=sZ _ _ mF;show⟨L,Z,_,O,O,cu,aj,.inr ⟨_,O,_,_,O,O,.inr ?_,_,_,O,O,?_⟩⟩
  .have:∀b:Bool,-(2 ^ 64:Int)<(if b=true then 1 else 0)/\(if b=true then(1:Int)else 0)<2 ^ 64:={}
   show this _
  have Rf:acc.2+aB ls m 2*(if(if true then (Bool.not ((as.map V.ref).isEmpty)) else(as.map V.ref).isEmpty)then(1:Int)else 0)=mJ ls acc m:=by
   unfold mJ
   by_cases h0:acc.1=[]
   .have e0:as=[]:=rK (by rw[oF,h0];rfl);rw[e0,if_pos h0];simp
   .have e0:as≠[]:=λz=>h0 (rK (by rw[<-oF,z];rfl))
    rw[if_neg h0];simp[e0]
  show a7 11 (V.int (acc.2+aB ls m 2*_)) _ _ _;rw[Rf];generalize mJ ls acc m=tp;have k3:Keep1 L H2 (af G1 Z (.lst [])):=(k1.trans s3.keep).trans sZ.keep;have jB:Paired (Br.PnAt (af G1 Z (.lst []))) as acc.1:=dZ.mono λ_ _ z=>sZ _ _ (s3 _ _ z)
  clear sZ hZ mF Rf;generalize af G1 Z (.lst [])=G2 at k3 jB cu⊢;have jM:=sm k3;let⟨bs,Cd,cQ⟩:=Ck jM I1.sz;let⟨a,_,_,_,ea,ha⟩:=kW cQ (show m<sz.length by rw[cx.zl];show hm);show⟨_,O,_,O,_,O,S,_,_,_,O,O,SqL.of Cd,aU ea,a,_,_,_,O,O,SqT.of ha,O,_,_,O,O,?_⟩;dsimp only[a7];show seq_post (λae G'=>Keep1 L H2 G'/\ae=[!.ref B,!.ref p,!.ref S,!.int n,!.ref k,none,none,!.ref L,!.int (tp+cf ((bz ds m).map (aJ sz))),!.int m,!mM (dF ds m),!.int tp]/\∃cs,G' L=!.lst (cs.map V.ref)/\Paired (Br.PnAt G') cs (acc.1++((bz ds m).dropLast.map λe=>(e,tp)))/\cs.length<=201) (λD' kk=>?_) ?_
  .unfold bz at kk;cases hb:dF ds m with
   | none =>
     rw[hb]at kk
     show⟨_,O,_,O,aW (kk _ _ ⟨k3,?_,as,cu,‹jB›,()⟩)⟩
     rfl
   | some a' =>
     rw[hb]at kk
     have kC:=Hk hb
     let⟨b,_,_,_,eb,yy⟩:=kW cQ (show a'<sz.length by rw[cx.zl];omega)
     show⟨_,O,_,O,aY ⟨_,O,.inl ⟨O,_,SqL.of cu⟩,_,O,_,O,aM,λt ht=>?_⟩⟩
     have st:=ao ht (.tup [mM (!a'),.int tp])
     have mH:af G2 t (.tup [mM (!a'),.int tp]) t=!.tup [mM (!a'),.int tp]:=aj
     have bI:=st _ _ cu
     have jR:=st _ _ Cd
     have yt:=st _ _ yy
     have k4:=k3.trans st.keep
     have fE:Paired (Br.PnAt (af G2 t (.tup [mM (!a'),.int tp]))) as acc.1:=jB.mono λ_ _ z=>st _ _ z
     generalize af G2 t (.tup [mM (!a'),.int tp])=G3 at mH bI jR yt k4 fE⊢
     show⟨L,_,_,O,O,bI,aR (by rw[qA];omega),?_⟩
     have tl:=Tups.lst (o:=.lst (as.map V.ref++[.ref t])) bI
     have nSL:S≠L:=λz=>by let⟨_,h0,_⟩:=I1.sz;rw[z,hL]at h0;cases h0
     have iq:af G3 L (.lst (as.map V.ref++[.ref t])) S=!.lst (bs.map V.ref):=by rw[aE nSL];show jR
     show⟨_,O,_,O,_,O,_,O,S,_,_,_,O,O,SqL.of iq,aU eb,b,_,_,_,O,O,SqT.of (tl _ _ yt),O,_,_,O,O,_,_,O,kk _ _ ⟨?_,?_,as++[t],by rw[aj,qD];rfl,(fE.mono λ_ _ z=>tl _ _ z).snoc (tl _ _ mH),by rw[qG,yJ];omega⟩⟩
     · intro x o nx e
       rw[aE nx]
       show k4 x o nx e
     · rw[xj]
       show _=[_,_,_,_,_,_,_,_,!V.int (tp+max (aJ sz a') (aJ sz m)),_,_,_]
       rw[show max (tp+aJ sz m) (tp+aJ sz a')=tp+max (aJ sz a') (aJ sz m) by omega]
       rfl
  ext ae G' ⟨k4,rfl,cs,cr,CO,l4⟩;show⟨_,O,.inl ⟨O,_,SqL.of cr⟩,_,O,_,O,aM,λt ht=>?_⟩;have st:=ao ht (.tup [.int (m:Int),.int tp]);have mH:af G' t (.tup [.int (m:Int),.int tp]) t=!.tup [.int (m:Int),.int tp]:=aj;have e7:=st _ _ cr;have k5:=k4.trans st.keep;have oG:Paired (Br.PnAt (af G' t (.tup [.int (m:Int),.int tp]))) cs (acc.1++((bz ds m).dropLast.map λe=>(e,tp))):=CO.mono λ_ _ z=>st _ _ z
  generalize af G' t (.tup [.int (m:Int),.int tp])=G5 at mH e7 k5 oG⊢;show⟨L,_,_,O,O,e7,aR (by rw[qA];omega),?_⟩;have tl:=Tups.lst (o:=.lst (cs.map V.ref++[.ref t])) e7;show⟨λx o nx e=>by rw[aE nx];show k5 x o nx e,⟨_,_,_,O⟩,cs++[t],by rw[aj,qD];rfl,?_⟩;have eb:acc.1++(bz ds m).map (λe=>(e,tp))=(acc.1++((bz ds m).dropLast.map λe=>(e,tp)))++[(m,tp)]:=by
   unfold bz;cases dF ds m<;>simp
  rw[eb];show(oG.mono λ_ _ z=>tl _ _ z).snoc (tl _ _ mH)
 .ext σ G ⟨k1,⟨z9,cp,oN,rfl⟩,lG⟩;rw[qH (by rw[qA,qA];show qF _)]at lG;show⟨_,O,q L G L0 (λb o e=>sm k1 _ _ (s1 _ _ e)) lG⟩
abbrev Rg:=top 129
def qdU{α β:Type}{g:α->List β}{l:List α}{i:Nat}{x:α}(h:l[i]?=!x):(l.take (i+1)).flatMap g=(l.take i).flatMap g++g x:=by
 rw[qS,h];show(l.take i++[x]).flatMap g=_;rw[List.flatMap_append,List.flatMap_singleton]
def qdV{α β:Type}{g:α->List β}{l:List α}(i:Nat):((l.take i).flatMap g).length<=(l.flatMap g).length:=by
 conv=>rhs;rw[<-vL i l,List.flatMap_append,qG]
 show Nat.le_add_right _ _
def qdW:∀vs H Q E,¬spLIns 0 vs H Q E:=by
 ext vs H Q E ⟨B,p,Sp,S,n,t,ds,ls,sp,sz,rfl,_,_,_,h,_⟩;show h
theorem qdX{g:Nat}(F:Fun K "_law_insides" "_law_insides" Rg f fd)(qdY:⋯ 4 "_law_tops" ["_law_book_here", "_law_looks_here", "_law_sizes", "_law_node"] qo)(Iq:⋯ (g+5) "_law_insides" ["_law_book_here", "_law_looks_here", "_law_spans", "_law_sizes", "_law_node", "_law_top"] (spLIns g)):(~~~0) (g+6) f fd ["_law_book_here", "_law_looks_here", "_law_spans", "_law_sizes", "_law_node", "_law_top"] (spLIns (g+1)):=by
 rcases F.go ["_law_book_here", "_law_looks_here", "_law_spans", "_law_sizes", "_law_node", "_law_top", "_law_wide_here", "_law_found", "_law_one", "_law_down"] with⟨B,p,Sp,S,n,t,ds,ls,sp,sz,rfl,I,cx,hn,dp,ll,q⟩;show⟨_,(ar (sv 6 (px aF (px aC (pv 2) (pv 4)) aw))
  (ar (ba (tc bq (px aF (px aC (pv 0) (pv 4)) aw) aO) (ax (sv 6 (px aC (px aF (px aC (pv 0) (pv 4)) aw) aw))) bj)
  (ar (sv 7 (a0 (a1 (br (aI (pv 4) (aI (px aF (px aC (pv 2) (pv 4)) aw) (a3 (pv 5) (pv 6) (px aF (px aC (pv 3) (pv 4)) aw))))))))
  (ar (fv (a9 (cF qdY hr (aI (pv 0) (a3 (pv 1) (pv 3) (pv 4))))) (jp (by rfl) (bv (nv 8) (bv (nv 9) dO)))
  (ax (sv 7 (aH pB (pv 7) (cF Iq hr (aI (pv 0) (aI (pv 1) (aI (pv 2) (a3 (pv 3) (pv 8) (aH bc (pv 5) (pv 9)))))))))))
  (ax (aG (pv 7))))))),?_⟩
 let⟨ab,hB,nd⟩:=I.bk;let⟨bs,mL,eY⟩:=I.sp;let⟨cs,hS,Il⟩:=I.sz;obtain⟨d,ed⟩:∃d,ds[n]?=!d:=⟨_,qB hn⟩;let⟨a,ea,na⟩:=nd.get ed;let⟨_,m',s',ha,_,_,st⟩:=na;let⟨_,jE,fS,cQ⟩:=st;let⟨b,eb,hb⟩:=fY eY (BR (show n<sp.length by rw[cx.sl];show hn));let⟨c,_,_,_,ec,hc⟩:=kW Il (show n<sz.length by rw[cx.zl];show hn);have ow:ge ds sp n=if d.k=.picture then gF d else(aT sp n).2:=by unfold ge;rw[ed]
 show⟨_,O,_,O,Sp,_,_,_,O,O,SqL.of mL,aU eb,b,_,_,_,O,O,SqT.of hb,O,?_⟩;dsimp only[a7];show seq_post (λae H'=>H'=H/\ae=[!.ref B,!.ref p,!.ref Sp,!.ref S,!.int n,!.int t,!.int (ge ds sp n),none,none,none]) (λD' kk=>?_) ?_
 .refine⟨_,O,_,O,B,_,_,_,O,O,SqL.of hB,aU ea,a,_,_,_,O,O,SqT.of ha,O,O,_,O,?_⟩;rw[show decide (V.str d.k.s=V.str (s!"picture"))=decide (d.k=.picture)from bY d.k .picture];rw[ow]at kk
  by_cases hp:d.k=.picture
  .rw[qJ hp];let⟨w1,h1,iI⟩:=cx.pic n d ed hp;have mE:jE[0]?=!.int w1:=by
    rw[iI]at cQ;cases cQ with
    | cons q1 _=>rw[show _=V.int w1 from q1];rfl
   show aY ⟨_,O,_,O,B,_,_,_,O,O,SqL.of hB,aU ea,a,_,_,_,O,O,SqT.of ha,O,s',_,_,_,O,O,SqL.of fS,eG (j:=0) mE,kk _ _ ⟨O,?_⟩⟩;rw[if_pos hp];unfold gF;rw[iI];rfl
  .rw[qP hp];show aW (kk _ _ ⟨O,by rw[if_neg hp];rfl⟩)
 ext ae H' ⟨rfl,rfl⟩;show⟨_,O,_,O,_,O,Sp,_,_,_,O,O,SqL.of mL,aU eb,b,_,_,_,O,O,SqT.of hb,O,_,O,_,O,_,O,_,O,S,_,_,_,O,O,SqL.of hS,aU ec,c,_,_,_,O,O,SqT.of hc,O,aM,λx hx=>⟨aM,λL hL=>?_⟩⟩;have sx:=ao hx (.tup [.int (n:Int),.int (aT sp n).1,.int t,.int (ge ds sp n),.int (aJ sz n)]);have s1:=sx.trans (ao hL (.lst [.ref x]));have lL:LstAt gf (af (af H' x (.tup [.int (n:Int),.int (aT sp n).1,.int t,.int (ge ds sp n),.int (aJ sz n)])) L (.lst [.ref x])) L [cy ds sp sz n t]:=⟨[x],aj,.cons (ao hL _ _ _ aj) .nil⟩;generalize af (af H' x (.tup [.int (n:Int),.int (aT sp n).1,.int t,.int (ge ds sp n),.int (aJ sz n)])) L (.lst [.ref x])=H1 at s1 lL⊢;have I1:=I.same s1;show⟨_,O,_,O,_,O,_,O,B,p,S,n,ds,ls,sz,O,I1.toInT,cx.toCx4,hn,λY H2 hY s2 lY=>?_⟩;have oH:=Cg (ds:=ds) (ls:=ls) (hs:=aJ sz) (n:=n);have eL:dG (cy ds sp sz) (bB ds ls (aJ sz)) (g+1) n t=cy ds sp sz n t::(bB ds ls (aJ sz) n).flatMap λx=>dG (cy ds sp sz) (bB ds ls (aJ sz)) g x.1 (t+x.2):=rfl
 rw[eL]at q ll;have yo:∀x∈bB ds ls (aJ sz) n,x.1<ds.length/\Dp ds g x.1:=λx hx=>by
  have:=oH.subset (yQ hx);show⟨dC this,dp _ this⟩
 generalize bB ds ls (aJ sz) n=xs at q ll lY yo;let⟨ys,zn,zo⟩:=lY;have ly:=qN zo;have aZ:=s1.trans s2;have zr:LstAt gf H2 L [cy ds sp sz n t]:=eJ (λ_ _ z=>s2 _ _ z) s2 lL;rw[rC]at ll;show⟨Y,O,⟨_,SqL.of zn⟩,iV (xs:=ys.map V.ref) (λk σ G=>Same H2 G/\∃(L':Addr) (z8 z9:Option V),σ=[!.ref B,!.ref p,!.ref Sp,!.ref S,!.int n,!.int t,!.int (ge ds sp n),!.ref L',z8,z9]/\LstAt gf G L' (cy ds sp sz n t::(xs.take k).flatMap λx=>dG (cy ds sp sz) (bB ds ls (aJ sz)) g x.1 (t+x.2))) ⟨Same.refl _,L,none,none,O,zr⟩ ?_ ?_ ?_⟩
 .ext k σ G hk ⟨s3,_⟩;show SqL.of (s3 _ _ zn)
 .ext k y σ G hy ⟨s3,L',z8,z9,rfl,as,ma,dZ⟩;let⟨v,ev,rfl⟩:=cC hy;let⟨x,ex,hv⟩:=bN zo ev;let⟨x1,x2⟩:=yo x (qR ex);have l1:=qdU (g:=λx=>dG (cy ds sp sz) (bB ds ls (aJ sz)) g x.1 (t+x.2)) ex;have l2:=qdV (g:=λx=>dG (cy ds sp sz) (bB ds ls (aJ sz)) g x.1 (t+x.2)) (l:=xs) (k+1);rw[l1,qG]at l2;rw[l1];have la:=qN dZ;rw[rC]at la;show⟨v,_,O,SqT.of (s3 _ _ hv),O,_,_,O,_,_,O,O,?_⟩;show⟨_,O,_,O,_,O,_,O,_,O,_,O,_,O,_,O,_,_,O,O,B,p,Sp,S,x.1,t+x.2,ds,ls,sp,sz,O,I.same (aZ.trans s3),cx,x1,x2,(),λM G2 s4 lM=>?_⟩;let⟨B7,hM,Cy⟩:=lM;have lb:=qN Cy;have cu:=s4 _ _ ma;show⟨L',M,_,_,O,O,cu,hM,by rw[qA,qA];show xA (yB (show as.length+B7.length<=2000 by omega) {}),λZ hZ=>?_⟩;have sZ:=ao hZ (.lst (as.map V.ref++B7.map V.ref));show⟨(s3.trans s4).trans sZ,Z,_,_,O,as++B7,by rw[aj,qD],?_⟩;rw[<-uT];show pO (dZ.mono λ_ _ z=>sZ _ _ (s4 _ _ z)) (Cy.mono λ_ _ z=>sZ _ _ z)
 .ext σ G ⟨s3,L',z8,z9,rfl,Rh⟩;rw[qH (by rw[qA,ly];show qF _)]at Rh;show⟨_,O,q L' G (aZ.trans s3) Rh⟩
abbrev Ri:=top 130
def Ir(b:TN):W.Dat:=.tuple (b.map W.Dat.int)
def Rj{b:TN}(h:gf H a b):dq H (.ref a) (Ir b):=.tup h (EF b)
def Rk(b:TN):W.kqdOk 9 (Ir b)=true:=by
 simp only[Ir,W.kqdOk,List.all_eq_true,List.mem_map];ext _ ⟨x,_,rfl⟩;simp[W.kqdOk]
inductive Iu:List V->Hp->VK->XK->Prop
|m (a b:Addr) (xs:TB):vs=[.ref a,.ref b]->LstAt gf H a xs->LstAt gf H b xs->xs.length<=100->(∀x∈xs,x.length=5)->(∀H',Same H H'->Q (.bl true) H')->Iu vs H Q E
def qdZ(F:Fun K "_law_alike" "_law_alike" Ri f fd)(T:lV mg)(qd0:⋯ 1 "_law_whole" ["_law_found"] EE):(~~~0) 2 f fd ["_law_found", "_law_due"] Iu:=by
 rcases F.go ["_law_found", "_law_due", "_law_box", "_law_known"] with⟨a,b,ps,rfl,⟨as,ha,pa⟩,⟨bs,hb,pb⟩,l20,CS,q⟩;have hu:=hr.units;have la:=qN pa;have lb:=qN pb;show⟨_,(ar (ba (PW.pt (mT (rh (lB (AL T.isinstance (by rfl) T.list (by rfl) lO (pv 0)))) (oV (tc iw (ln T.len (pv 0)) (ln T.len (pv 1)))))) (ax (aG oT)) bj)
  (ar (fv (vj (by rfl) T.zip (a2 (pv 0) (pv 1))) (jp (by rfl) (bv (nv 2) (bv (nv 3) dO)))
  (ax (ba (PW.pt (mT (rh (lB (AL T.isinstance (by rfl) T.tuple (by rfl) Wh (pv 2)))) (mT (tc (Wc hu) (pv 2) (pv 3)) (oV (tc iw (ln T.len (cm ["_law_one"] [] [] (Uh (pv 2)) (nv 0) (iA (lB (cF qd0 hr (a1 (pv 0))))) (pv 0))) aw))))) (ax (aG oT)) bj)))
  (ax (aG oT)))),?_⟩
 show⟨_,O,_,_,_,_,O,.lst ha,⟨_,λu r=>r,WX⟩,_,O,aW ?_⟩;show⟨_,O,a,_,O,.inl (SqL.of ha),_,O,b,_,O,.inl (SqL.of hb),O,_,O,?_⟩;have el:(as.map V.ref).length=(bs.map V.ref).length:=by rw[qA,qA,la,lb]
 rw[el,qJ (O:V.int ((bs.map V.ref).length:Nat)=V.int ((bs.map V.ref).length:Nat))];show aW ?_;show⟨_,O,_,O,a,b,O,⟨_,SqL.of ha⟩,⟨_,SqL.of hb⟩,Yg (xs:=as.map V.ref) (ys:=bs.map V.ref) el (λi σ H'=>Same H H'/\∃z2 z3,σ=[!.ref a,!.ref b,z2,z3]) ⟨Same.refl H,none,none,O⟩ ?_ ?_ ?_⟩
 .ext i σ H' hi ⟨s1,_⟩;show⟨SqL.of (s1 _ _ ha),SqL.of (s1 _ _ hb)⟩
 .ext i x y σ H' T' hx hy hT ⟨s1,z2,z3,rfl⟩;let⟨c,ec,rfl⟩:=cC hx;let⟨e,ee,rfl⟩:=cC hy;let⟨p,ep,hc⟩:=bN pa ec;let⟨p',lA,he⟩:=bN pb ee;rw[ep]at lA;cases lA;have p5:=CS p (qR ep);have s2:=s1.trans (ao hT (.tup [.ref c,.ref e]));have eW:af H' T' (.tup [.ref c,.ref e]) T'=!.tup [.ref c,.ref e]:=aj;generalize af H' T' (.tup [.ref c,.ref e])=H2 at s2 eW⊢;have qw:gf H2 c p:=s2 _ _ hc;have DT:gf H2 e p:=s2 _ _ he;show⟨T',_,O,SqT.of eW,O,_,_,O,_,_,O,O,?_⟩;show⟨_,O,_,_,_,_,O,.tup qw,⟨_,λu r=>r,WY⟩,_,O,aW ?_⟩;show⟨_,O,_,O,_,_,Rj qw,Rj DT,Rk p,Rk p,λ_=>⟨_,O,aW ?_⟩,λz=>absurd O z⟩;show⟨_,O,c,O,⟨_,SqT.of qw⟩,X5 (xs:=p.map V.int) (λi ys ae H3=>H3=H2/\ys.length=i/\∃z,ae=[z]) (by rw[qA,p5];decide) ⟨O,O,none,O⟩ ?_ ?_ ?_⟩
  .ext i ys ae H3 hi ⟨rfl,e,_⟩;show⟨SqT.of qw,Nat.le_of_eq e⟩
  .ext i y ys ae H3 hy ⟨rfl,e,z,rfl⟩;let⟨v,_,rfl⟩:=mB hy;show⟨_,O,v,O,_,O,aY ⟨_,O,O,?_,_,O⟩⟩;rw[qG,e];rfl
  .ext ys ae H3 ⟨rfl,e,_⟩ D hD;rw[qA,p5]at e;show⟨D,_,O,.inl (SqL.of aj),O,_,O,?_⟩;rw[e,qJ (show V.int ((5:Nat):Int)=V.int 5 from rfl)];show aW ⟨s2.trans (ao hD _),_,_,O⟩
 .ext σ H' ⟨s1,z2,z3,rfl⟩;show q H' s1
end K32
namespace Ins
open L2 Bk Gen Gd Shr Sp0 Bd
def CT(z:Sz):W.Dat:=.tuple [.int z.h,.list (z.rows.map Br.nnD),.list (z.sums.map Br.osD),.int z.c]
theorem Rl:∀{as:TQ} {xs:List Sz},Paired (SzAt H) as xs->fj H (as.map V.ref) (xs.map CT)
 | _,_,.nil=>.nil
 | _, _, .cons h t => by
   let⟨A,B,h1,h2,h3⟩:=h
   show .cons (.tup h1 (.cons (.int _) (.cons (Br.rows_inD h2) (.cons (Br.sums_in h3) (.cons (.int _) .nil))))) (Rl t)
def Rm(h:∀d∈ds,pG d)(ls:TB)(sp:TC)(sz:List Sz):W.kqdOk 9 (.list [ud ds,.list (ls.map Bu),.list (sp.map vx),.list (sz.map CT)])=true:=by
 have h1:=Y5 h;simp only[W.kqdOk,List.all_cons,List.all_nil,Bool.and_true,Bool.and_eq_true,List.all_eq_true,List.mem_map];show⟨h1,?_,?_,?_⟩
 .ext _ ⟨l,_,rfl⟩;simp[Bu,W.kqdOk]
 .ext _ ⟨x,_,rfl⟩;simp[vx,W.kqdOk]
 .ext _ ⟨z,_,rfl⟩;simp only[CT,W.kqdOk,List.all_cons,List.all_nil,Bool.and_true,Bool.and_eq_true,List.all_eq_true,List.mem_map,true_and,and_true];show⟨?_,?_⟩
  .ext _ ⟨x,_,rfl⟩;simp[Br.nnD,W.kqdOk]
  .ext _ ⟨os,_,rfl⟩;simp only[Br.osD,W.kqdOk,List.all_eq_true,List.mem_map];ext _ ⟨o,_,rfl⟩;cases o<;>simp[Br.ovD,W.kqdOk]
def Rn{H:Hp}{w B p Sp S:Addr}{ds:List Nd}{ls:TB}{sp:TC}{sz:List Sz}(e:H w=!.lst [.ref B,.ref p,.ref Sp,.ref S])(I:InI H B p Sp S ds ls sp sz):dq H (.ref w) (.list [ud ds,.list (ls.map Bu),.list (sp.map vx),.list (sz.map CT)]):=by
 let⟨aq,eq,pq⟩:=I.lk;let⟨al,el,pl⟩:=I.sp;let⟨az,ez,pz⟩:=I.sz;show .lst e (.cons (WO I.bk) (.cons (.lst eq (M' pq)) (.cons (.lst el (M8 pl)) (.cons (.lst ez (Rl pz)) .nil))))
theorem Ro{sp:TC}{tops:Nat->List (Nat×Int)}:∀{f n:Nat} {t:Int},∀x∈dG (cy ds sp sz) tops f n t,x.length=5
 | 0,_,_,x,h=>nomatch h
 | f + 1, n, t, x, h => by
   rcases qO.mp h with rfl | h
   · rfl
   · let⟨y,_,hy⟩:=List.mem_flatMap.mp h
     show Ro x hy
end Ins
namespace K32
open L2 Bk Gd Shr Sp0 Ins Fc
open Bd
open Gen
open Br (pg_tupL)
abbrev Rp:=top 131
inductive zt(Pt:Addr)(K:W.Frag):List V->Hp->VK->XK->Prop
|m (a:Addr) (ns:TN):vs=[.ref a]->SqL K H a (ns.map V.int)->ns.length<=63->jS H Pt mP.2.2.2 zf->(∀H',Q (.bl true) H')->zt Pt K vs H Q E
def qd1(k:jh H H')(h:SqL K H a xs):SqL K H' a xs:=by
 rcases h with(h | ⟨o,h⟩) | h
 .show .inl (.inl (k _ _ (λ_ z=>nomatch z) h))
 .show .inl (.inr ⟨o,k _ _ (λ_ z=>nomatch z) h⟩)
 .show .inr h
def qd2(F:Fun K "law" "law" Rp f fd)(T:bP mg)(yb:⋯ 1 "_law_stream" ["_law_script", "_law_k"] (AH K))(bx:⋯ 1 "_law_take" ["_law_stream_here", "_law_most"] gY)(qd3:⋯ 12 "_law_made" ["_law_script"] (HB K))(qd4:⋯ 8 "all_sizes" ["book", "looks", "units", "spans"] (CL Pt))(Iq:⋯ 12 "_law_insides" ["_law_book_here", "_law_looks_here", "_law_spans", "_law_sizes", "_law_node", "_law_top"] (spLIns 7))(qd5:⋯ 6 "insides" ["book", "looks", "spans", "sizes", "node", "top"] Hm)(qd6:⋯ 2 "_law_alike" ["_law_found", "_law_due"] Iu):(~~~0) 13 f fd ["_law_script"] (zt Pt K):=by
 rcases F.go ["_law_script", "_law_book_here", "_law_looks_here", "_law_units", "_law_spans", "_law_sizes", "_law_stream_here", "_law_handed", "_law_node", "_law_top", "_law_due", "_law_found"] with⟨a,ns,rfl,hA,h63,tb,q⟩;have hu:=hr.units;show⟨_,(ar (oY (cF qd3 hr (a1 (pv 0))) (pg_tupL (by rfl) (bv (nv 1) (bv (nv 2) (bv (nv 3) (bv (nv 4) dO))))))
  (ar (sv 5 (cF qd4 hr (aI (pv 1) (a3 (pv 2) (pv 3) (pv 4)))))
  (ar (sv 6 (cF yb hr (a2 (pv 0) aw)))
  (ar (sv 7 (a0 (aI (eP mZ (by rfl) T.list lO (a1 (pv 1))) (a3 (cm ["_law_look"] [] [] (a9 (pv 2)) (nv 0) bf (eP (WU K (by rfl)) (by rfl) T.list lO (a1 (pv 0)))) (eP mZ (by rfl) T.list lO (a1 (pv 4))) (eP mZ (by rfl) T.list lO (a1 (pv 5)))))))
  (ar (fv (r1 T.range (ln T.len (pv 1))) (nv 8)
  (ar (sv 9 (cF bx hr (a2 (pv 6) aw)))
  (ar (sv 10 (cF Iq hr (aI (pv 1) (aI (pv 2) (aI (pv 4) (a3 (pv 5) (pv 8) (pv 9)))))))
  (ar (sv 11 (cF qd5 hr (aI (px aC (pv 7) aw) (aI (px aC (pv 7) aw) (aI (px aC (pv 7) aw) (a3 (px aC (pv 7) aw) (pv 8) (pv 9)))))))
  (ar (ba (rh (lB (cF qd6 hr (a2 (pv 11) (pv 10))))) (ax (aG oT)) bj)
  (ax (bX (UY xN PySem.F.slot_list_clear PySem.F.type_list_clear U1 (pv 11)))))))))
  (ax (aG (ec (Wb hu) (pv 7) (a0 (aI (pv 1) (a3 (pv 2) (pv 4) (pv 5)))))))))))),?_⟩
 show⟨_,O,a,ns,O,hA,λR B p U Sp ds ls us sp H1 s1 hR bk lk un Iv QX cx=>?_⟩;show⟨R,_,O,SqL.of hR,O,_,_,O,_,_,O,_,_,O,_,_,O,O,?_⟩;show⟨_,O,_,O,_,O,_,O,B,p,U,Sp,ds,ls,us,sp,O,bk,lk,un,Iv,cx,QX,Ig (λb o _ e=>s1 b o e) tb,λS sz H2 hS0 sd lS lz=>?_⟩;have mQ:Cx5 ds ls sz sp:=(cx sz lz).toCx5;have I2:InI H2 B p Sp S ds ls sp sz:=⟨⟨Ie sd bk,QU sd lk,lS⟩,QV sd Iv⟩;have hA2:=qd1 sd (Br.sql_same s1 hA);clear cx sd lS hS0 bk lk un Iv;dsimp only[a7];show⟨_,O,a,ns,2,O,hA2,{},{},λst H3 b7 S3 s3=>?_⟩;dsimp only[a7];let⟨ab,hB2,AQ⟩:=I2.bk;let⟨ap,nH,Rq⟩:=(I2.same s3).lk;let⟨al,cu,Ct⟩:=I2.sp;let⟨az,HQ,pz2⟩:=I2.sz;have Rr:=s3 _ _ hB2;have bI:=s3 _ _ cu;have hZ3:=s3 _ _ HQ;have dY:=AQ.length;have le:=mQ.le;have lap:=qN Rq;have llp:=mQ.ll;show⟨_,O,B,_,O,.inl (SqL.of Rr),λB' Rs=>?_⟩;have t1:=ao Rs (.lst (ab.map V.ref));have Rt:af H3 B' (.lst (ab.map V.ref)) B'=!.lst (ab.map V.ref):=aj;generalize af H3 B' (.lst (ab.map V.ref))=J1 at t1 Rt⊢;show⟨_,O,p,O,⟨_,SqL.of (t1 _ _ nH)⟩,bw (xs:=ap.map V.ref) (λi ys ae H'=>Same J1 H'/\(∃cs,ys=cs.map V.ref/\Paired (LkAt H') cs (ls.take i))/\∃z,ae=[z]) (by rw[qA];show aR ()) ⟨Same.refl _,⟨[],O,.nil⟩,none,O⟩ ?_ ?_ ?_⟩
 .ext i ys ae H' hi ⟨s8,⟨cs,rfl,pc⟩,_⟩;show⟨SqL.of (s8 _ _ (t1 _ _ nH)),?_⟩;rw[qA,qN pc,qQ];show qV _ _
 .ext i y ys ae H' hy ⟨s8,⟨cs,rfl,pc⟩,z,rfl⟩;let⟨c,ec,rfl⟩:=cC hy;let⟨l,el,hl⟩:=bN Rq ec;have g8:LkAt H' c l:=(hl.same t1).same s8;show⟨_,O,c,_,O,.inl (SqL.of g8),λt ht=>?_⟩;have s9:=ao ht (.lst (l.map V.int));show⟨s8.trans s9,⟨cs++[t],by rw[qD];rfl,?_⟩,_,O⟩;rw[qS,el];show(pc.mono λ_ _ h=>LkAt.same s9 h).snoc aj
 ext ys ae J2 ⟨t2,⟨cs,rfl,pc⟩,_⟩ p' gp;rw[qH (by rw[qA];omega)]at pc;have t3:=ao gp (.lst (cs.map V.ref));have Ru:af J2 p' (.lst (cs.map V.ref)) p'=!.lst (cs.map V.ref):=aj;have AR:Paired (LkAt (af J2 p' (.lst (cs.map V.ref)))) cs ls:=pc.mono λ_ _ h=>LkAt.same t3 h
 have Iw:=t2.trans t3;generalize af J2 p' (.lst (cs.map V.ref))=J3 at t3 Ru AR Iw⊢;have CU:=t1.trans Iw;show⟨_,O,Sp,_,O,.inl (SqL.of (CU _ _ bI)),λL' ma=>?_⟩;have t4:=ao ma (.lst (al.map V.ref));have yf:af J3 L' (.lst (al.map V.ref)) L'=!.lst (al.map V.ref):=aj;generalize af J3 L' (.lst (al.map V.ref))=J4 at t4 yf⊢;have Ix:=CU.trans t4;show⟨_,O,S,_,O,.inl (SqL.of (Ix _ _ hZ3)),λZ' Rv=>?_⟩;have t5:=ao Rv (.lst (az.map V.ref));have Rw:af J4 Z' (.lst (az.map V.ref)) Z'=!.lst (az.map V.ref):=aj;generalize af J4 Z' (.lst (az.map V.ref))=J5 at t5 Rw⊢;show⟨aM,λW hW=>?_⟩;have t6:=ao hW (.lst [.ref B',.ref p',.ref L',.ref Z']);have oC:af J5 W (.lst [.ref B',.ref p',.ref L',.ref Z']) W=!.lst [.ref B',.ref p',.ref L',.ref Z']:=aj;generalize af J5 W (.lst [.ref B',.ref p',.ref L',.ref Z'])=J6 at t6 oC⊢;have Rx:=t5.trans t6;have CV:=t4.trans Rx;have Iy:=CU.trans CV;have S6:=S3.same Iy;have ns:∀{b:Addr} {J:Hp},Same H3 J->J b=none->b≠st:=λt e z=>by
  let⟨o,h⟩:=(S3.same t).some;rw[z,h]at e;cases e
 have nB:=ns (Same.refl _) Rs;have nL:=ns CU ma;have nZ:=ns Ix Rv;have nW:=ns (Ix.trans t5) hW;have lk6:LstAt LkAt J6 p' ls:=⟨cs,CV _ _ Ru,AR.mono λ_ _ h=>LkAt.same CV h⟩;have sm:∀{G:Hp},Keep1 st J6 G->Same H2 G:=λk b o e=>k b o (λz=>by rw[z,b7]at e;cases e) (Iy _ _ (s3 _ _ e))
 have new:∀{G:Hp},Keep1 st J6 G->InI G B' p' L' Z' ds ls sp sz:=λk=>⟨⟨⟨ab,k _ _ nB ((Iw.trans CV) _ _ Rt),AQ.keep (sm k).keep λ_ _ _=>trivial⟩,looks_keep S6 k mQ.l13 lk6,az,k _ _ nZ (t6 _ _ Rw),pz2.mono λ_ _ z=>z.same (sm k)⟩,al,k _ _ nL (Rx _ _ yf),Ct.mono λ_ _ z=>sm k _ _ z⟩
 show⟨_,O,B,_,O,.inl (SqL.of (Iy _ _ Rr)),_,O,by rw[qA];omega,by rw[qA];omega,gg (λi σ G=>StOk G st/\Keep1 st J6 G/\∃z8 z9 cp oN,σ=[!.ref a,!.ref B,!.ref p,!.ref U,!.ref Sp,!.ref S,!.ref st,!.ref W,z8,z9,cp,oN]) ⟨S6,KeepN.refl,none,none,none,none,O⟩ ?_ ?_⟩
 .ext i σ G hi ⟨SG,KG,z8,z9,cp,oN,rfl⟩;have hn:i<ds.length:=by rw[qA]at hi;omega
  rw[show(0:Int)+(i:Int)=(i:Int)from uC _];dsimp only[a7];show⟨_,O,st,1000,O,SG,{},{},λr G1 r0 r1 S1 K1=>?_⟩;dsimp only[a7];have k1:=KG.trans K1;have ts:∀m,((bB ds ls (aJ sz) m).map Prod.fst).Sublist (ay ds m):=λm=>Cg
  let⟨il,ie⟩:=Pu (box:=cy ds sp sz) mQ.bk ts hn r;have CS:=λx hx=>Ro (ds:=ds) (sp:=sp) (sz:=sz) (tops:=bB ds ls (aJ sz)) (f:=8) (n:=i) (t:=r) x hx
  show⟨_,O,_,O,_,O,_,O,_,O,_,O,B,p,Sp,S,i,r,ds,ls,sp,sz,O,I2.same (sm k1),mQ,hn,Po mQ.bk hn,by rw[<-ie];omega,λL1 G2 s2 Iz=>?_⟩;rw[<-ie]at Iz;dsimp only[a7];have k2:=k1.trans (s2.keep (N:=λb=>b≠st));have kR:=k2 _ _ nW oC;show⟨_,O,W,_,_,_,O,O,SqL.of kR,O,_,O,W,_,_,_,O,O,SqL.of kR,O,_,O,W,_,_,_,O,O,SqL.of kR,O,_,O,W,_,_,_,O,O,SqL.of kR,O,_,O,_,O,B',p',L',Z',i,r,ds,ls,sp,sz,O,new k2,mQ,hn,λL2 G3 yl AT zr jK=>?_⟩;dsimp only[a7];generalize dG (cy ds sp sz) (bB ds ls (aJ sz)) 8 i r=xs at Iz zr jK CS;show⟨_,O,_,O,L2,L1,xs,O,zr,eJ (λ_ _ z=>AT _ _ z) AT Iz,jK,CS,λG4 s4=>⟨_,O,aW ?_⟩⟩;let⟨Fp,h2,_⟩:=zr;have h4:=s4 _ _ h2;show⟨_,O,.inl ⟨O,_,SqL.of h4⟩,L2,_,O,O,h4,?_⟩;have kU:=AT.trans s4;have k4:Keep1 st J6 G4:=k2.trans kU.keep;have S4:=(S1.same s2).same kU;have nst:st≠L2:=λz=>by let⟨o,e⟩:=(S1.same s2).some;rw[z,yl]at e;cases e
  show⟨?_,λb o n e=>?_,_,_,_,_,O⟩
  .let⟨x,y,e,z⟩:=S4;show⟨x,y,by rw[aE nst];show e,z⟩
  .rw[aE (cH (k2 b o n e) yl)];show k4 b o n e
 .ext σ G ⟨SG,KG,z8,z9,cp,oN,rfl⟩;show⟨_,O,_,O,_,O,_,O,_,O,aM,λY hY=>?_⟩;have sY:=ao hY (.lst [.ref B,.ref p,.ref Sp,.ref S]);have kY:=KG.trans (sY.keep (N:=λb=>b≠st));have fm:=mQ.bk.form;show⟨_,_,Rn (kY _ _ nW oC) (new kY),Rn aj (I2.same (sm kY)),Rm fm ls sp sz,Rm fm ls sp sz,λ_=>q _,λz=>absurd O z⟩
end K32
namespace L2
open PyProof.Rows
def IA(Pt:Addr)(H:Hp):=H Pt=!.tbl #[]/\∀b,b≠Pt->H b=none\/∃o xs,H b=!.frz o (.lst xs)
theorem qd7{P:Program}{w:World}{K:W.Frag}{mg mb:TJ}{CX:cZ}{k:Nat}{fa a c Pt:Addr}{fd:FuncData}{x:Str}{sp:Sp}{a6:Shared}{vs:TU}{ns:TN}(KX:K.In a6.heap)(qy:a6.heap.Ns mainGlobals mg)(hb:a6.heap.Ns builtinsNs mb)(yy:∀x:Str,x ≠ "__name__" -> mb x=bootBuiltins x)(qd8:a6.heap.NoLimit)(hg:a6.gens=#[])(ha:a6.heap.get? a=!{cls:=.type "list",data:=.seq vs.toArray})(hi:IntsAre vs ns)(hl:ns.length<=sizeLine)(hr:Room k callerA)(hC:W.codeHdIn K c Pt=true)(hT:a6.heap.get? Pt=!W.tabObj #[])(zu:K.lookup Pt=none)(IB:a6.heap.BuiltinsAt mg Pt)(F:∀base:Heap,K.In base->base.Ns mainGlobals mg->base.BuiltinsAt mg Pt->aK P w K mg base CX k fa fd [x] sp)(oK:∀(s:Shared) (u:Value),BindsTo s fd ⟨[u],[]⟩ [(x,u)])(fM:∀H:Hp,IA Pt H->SqL K H a (ns.map V.int)->sp [.ref a] H (λv _=>v=.bl true) λ_ _ _=>False)(IC:∀H e s',CX [] H a6 (λ_ _ _=>False) e s'->False) :
  codeAny (model P w) callerA (.call (.ref fa) ⟨[.ref a],[]⟩) (λr s'=>r=.ok (.ret (.bool true))/\OldK a6.heap s'.heap/\s'.os=a6.os/\AllBare s'.gens) a6:=by
 have rv:=Ke hi;have qd9:=hi.length;have aP:a≠Pt:=λz=>by rw[z,hT]at ha;cases ha
 have vw:∀H:Hp,IA Pt H->SqL K H a (ns.map V.int)->HOk P w H a6.heap->(∀b,H b≠none->b=a\/b=Pt)->(H a≠none->K.lookup a=none) ->
   codeAny (model P w) callerA (.call (.ref fa) ⟨[.ref a],[]⟩) (λr s'=>r=.ok (.ret (.bool true))/\OldK a6.heap s'.heap/\s'.os=a6.os/\AllBare s'.gens) a6:=by
  intro H hO hS hok hA hK;have ID:∀{b:Addr} {o:Obj},a6.heap.get? b=!o->H b=none->(jj a6.heap H).get? b=!o:=λe n=>Sr e n
  have sA:∀{b:Addr} {o:Obj} {es:Array DictEntry} {ep:Nat},a6.heap.get? b=!o->o.data=.dict es ep->H b=none:=λ{b o es ep} e d=>by
   cases q:H b with
   | none=>rfl
   | some u =>
     rcases hA b (by rw[q];simp)with e' | e'
     · subst e'
       rw[ha]at e;cases e
       have d':Data.seq vs.toArray _=Data.dict es ep:=d
       cases d'
     · rw[e',hT]at e
       cases e
       cases d
  have CW:∀{b:Addr} {m:TJ},a6.heap.Ns b m->(jj a6.heap H).Ns b m:=λ{b m} ⟨o,es,ep,e,d,r⟩=>⟨o,es,ep,ID e (sA e d),d,r⟩
  have Ry:K.In (jj a6.heap H):=λb o e=>ID (KX b o e) (by
   cases q:H b with
   | none=>rfl
   | some u =>
     rcases hA b (by rw[q];simp)with e' | e'
     · subst e'
       rw[hK (by rw[q];simp)]at e;cases e
     · rw[e',zu]at e;cases e)
  have hM:Mod K mg (jj a6.heap H):=⟨Ry,CW qy,⟨mb,CW hb,yy⟩,let⟨mc,h1,h2⟩:=qd8;⟨mc,CW h1,h2⟩⟩;have hBb:(jj a6.heap H).BuiltinsAt mg Pt:=by
   let⟨bm,o,b1,b2,b3,b4,b5,b6,r⟩:=IB;show⟨bm,o,b1,b2,b3,b4,ID b5 ?_,b6,r⟩;cases q:H bm with
   | none=>rfl
   | some u =>
     rcases hA bm (by rw[q];simp)with e' | e'
     · rw[e',ha]at b5
       cases b5
       have z:(Value.type "list")=.type "module":=b6
       show absurd z {}
     · show absurd e' b4
  have e0:Env0 P w K mg (jj a6.heap H) callerA [] a6 H:=⟨O,hM,λb o e=>Ss e,Nat.le_of_eq (Sq _ _),trivial,λb hb=>absurd (show b∈([]:TQ)from hb) ∅,hok,.of_eq hg⟩;show yY ((F _ Ry (CW qy) hBb).run callerA [] a6 H ⟨[.ref a],[]⟩ [.ref a] [.ref a] _ _ hr e0 (oK a6 (.ref a)) (.cons O .nil) (fM H hO hS)) λr s' h=>?_
  cases r with
  | error e=>show(IC H e s' h).elim
  | ok fl =>
    cases fl with
    | next=>show False.elim h
    | brk=>show False.elim h
    | cont=>show False.elim h
    | ret u =>
      let⟨v,H',os,bare,un,Rz,r',q⟩:=h
      have q':v=.bl true:=q
      subst q'
      obtain rfl:u=Value.bool true:=r'
      let⟨more,eT⟩:=un.tbls Pt _ hO.1
      have gT:s'.heap.get? Pt=!{cls:=.none,data:=.fields (#[]++more)}:=Rz Pt _ eT
      have kept:∀b o,b≠Pt->a6.heap.get? b=!o->s'.heap.get? b=!o:=λb o n e=>by
        cases q:H b with
        | none=>show un.keep b o e q (by intro z;show absurd (show b∈([]:TQ)from z) ∅) ∅
        | some u =>
          rcases hO.2 b n with z | ⟨ob,xs,z⟩
          · rw[q]at z;cases z
          · have z2:=un.frzs b ob _ z
            let⟨e1,_⟩:=hok b _ z
            let⟨e2,_⟩:=Rz b _ z2
            rw[e]at e1;cases e1
            show e2
      let⟨oc,cv,_,_,_,_,_,_,_,g1,g2,g3,g4,_⟩:=W.codeHd_of_K KX hC
      show⟨O,⟨λb o e=>?_,λb o e=>?_⟩,os,bare⟩
      · by_cases z:b=Pt
        · rw[z,hT]at e
          cases e
          rw[z]
          show .inr (.inl ⟨⟨c,oc,cv,g1,g2,g3,g4⟩,O,#[],more,O,gT⟩)
        · show .inl (kept b o z e)
      · by_cases z:b=Pt
        · rw[z];show⟨_,gT⟩
        · show⟨o,kept b o z e⟩
 have RA:∀H:Hp,H Pt=!.tbl #[]->ObjOk P w H a6.heap Pt (.tbl #[]):=λH _=>hT
 cases hk:K.lookup a with
 | some o =>
   have e:=KX a o hk
   rw[ha]at e
   cases e
   show vw (λb=>if b=Pt then !.tbl #[]else none) ⟨if_pos O,λb n=>.inl (if_neg n)⟩ (.inr ⟨_,vs.toArray,_,hk,O,O,O,by rw[qY,qd9];show hl,‹rv›⟩) (λb u z=>?_) (λb z=>?_) λz=>absurd (if_neg aP) z
   · by_cases y:b=Pt
     · have z':=(if_pos y).symm.trans z
       cases z'
       rw[y]
       show RA _ (if_pos O)
     · have z':=(if_neg y).symm.trans z
       cases z'
   · by_cases y:b=Pt
     · show .inr y
     · show absurd (if_neg y) z
 | none =>
   show vw (λb=>if b=Pt then !.tbl #[]else if b=a then !.frz {cls:=.type "list",data:=.seq vs.toArray} (.lst (ns.map V.int))else none) ⟨if_pos O,λb n=>?_⟩ (.inl (.inr ⟨{cls:=.type "list",data:=.seq vs.toArray},by show(if a=Pt then _ else if a=a then _ else none)=_;rw[if_neg aP,if_pos O]⟩)) (λb u z=>?_) (λb z=>?_) λ_=>hk
   · by_cases hb:b=a
     · show .inr ⟨_,_,by show(if b=Pt then _ else if b=a then _ else none)=_;rw[if_neg n,if_pos hb]⟩
     · show .inl (by show(if b=Pt then _ else if b=a then _ else none)=none;rw[if_neg n,if_neg hb])
   · by_cases y:b=Pt
     · have z':=(if_pos y).symm.trans z
       cases z'
       rw[y]
       show RA _ (if_pos O)
     · by_cases hb:b=a
       · have z':(if b=Pt then !HO.tbl #[]else if b=a then !.frz {cls:=.type "list",data:=.seq vs.toArray} (.lst (ns.map V.int))else none)=!u:=z
         rw[if_neg y,if_pos hb]at z'
         cases z'
         subst hb
         show⟨ha,by rw[qA];show hl,vs,_,rv,ha⟩
       · have z':(if b=Pt then !HO.tbl #[]else if b=a then !.frz {cls:=.type "list",data:=.seq vs.toArray} (.lst (ns.map V.int))else none)=!u:=z
         rw[if_neg y,if_neg hb]at z'
         cases z'
   · by_cases y:b=Pt
     · show .inr y
     · by_cases hb:b=a
       · show .inl hb
       · show absurd (by show(if b=Pt then _ else if b=a then _ else none)=none;rw[if_neg y,if_neg hb]) z
theorem walk_ofT{l:W.OpenLaw}{n k:Nat}{q:Program}{pC:TV}{XP:(Str->Option Value)->Heap->Prop}{YP:World->Heap->Prop}{d:DefRec}{K:Params->W.Frag}{CX:World->cZ}{sp:World->Sp}{x:Str}{c Pt:Addr}(hn:l.most=!n)(hn2:n<=sizeLine)(sR:d.params.defaults=[])(hr:Room k callerA)(hY:∀(w:World) (h:Heap),YP w h->(K w.params).In h/\h.get? Pt=!W.tabObj #[])(hC:∀w:World,W.codeHdIn (K w.params) c Pt=true)(zu:∀w:World,(K w.params).lookup Pt=none)(F:∀(w:World) (mg:TJ) (fa:Addr) (h:Heap),(K w.params).In h->h.Ns mainGlobals mg->mg d.name=!.ref fa ->
   ∃fd:FuncData,(∀(s:Shared) (u:Value),BindsTo s fd ⟨[u],[]⟩ [(x,u)]) /\
    ∀base:Heap,(K w.params).In base->base.Ns mainGlobals mg->base.BuiltinsAt mg Pt->aK l.prog w (K w.params) mg base (CX w) k fa fd [x] (sp w))(fM:∀(w:World) (H:Hp) (a:Addr) (ns:TN),ns.length<=n->IA Pt H->SqL (K w.params) H a (ns.map V.int)->sp w [.ref a] H (λv _=>v=.bl true) λ_ _ _=>False)(IC:∀(w:World) (H:Hp) (s:Shared) (e:Value) (s':Shared),CX w [] H s (λ_ _ _=>False) e s'->False) :
  W.WalkO q pC XP YP l.row.toRowW d [] (λf vs=>call f vs):=by
 show Att.attach_call hn sR λw s₀ a6 mg mb fa o pm cd be a vs ns G Y ho hd fI sV DB DC bE hg=>?_
 let⟨KX,hT⟩:=hY w _ Y;let⟨fd,hb,hF⟩:=F w mg fa _ KX G.T.g sV;have IB:a6.heap.BuiltinsAt mg Pt:=by
  let⟨bm,ob,m⟩:=W.bmod_of_top G.T;show⟨bm,ob,m.name,m.ne,λz=>?_,λz=>?_,m.obj,m.cls,m.dict,m.data⟩
  .let⟨o,es,ep,e,d,_⟩:=G.T.g;have:=m.obj;rw[z,e]at this;cases this;have y:=m.data;rw[d]at y;cases y
  .have:=m.obj;rw[z,hT]at this;cases this;have y:=m.data;cases y
 show qd7 KX G.T.g G.T.b G.T.builtins G.T.nolimit hg DB DC (rF bE hn2) hr (hC w) hT (zu w) IB hF hb (λH hO hS=>fM w H a ns bE hO hS) λH e s'=>IC w H a6 e s'
end L2
namespace K32
open L2 Bk Gd
open Bd
open Gen
def qea{K:W.Frag}{fd:FuncData}{ps:TV}{T:Addr}{o:Obj}{items:Array Value}{n:Nat}(hd:fd.defaults=.ref T)(ho:K.lookup T=!o)(hs:o.data=.seq items n)(h:∀us:TU,us.length=ps.length->∃k,bindArgs fd ⟨us,[]⟩=seqItems? fd.defaults>>=k/\k (!items)=pure (ps.zip us)):Binds K fd ps []:=λs us X hl=>by
 rw[rQ]at hl⊢;let⟨k,h1,h2⟩:=h us hl;show W.binds_K X hd ho hs h1 h2
def qeb{K:W.Frag}{fd:FuncData}{ps:TV}{T:Addr}{o:Obj}{items:Array Value}{n:Nat}{ds:TU}(hd:fd.defaults=.ref T)(ho:K.lookup T=!o)(hs:o.data=.seq items n)(h:∀us:TU,(us++ds).length=ps.length->∃k,bindArgs fd ⟨us,[]⟩=seqItems? fd.defaults>>=k/\k (!items)=pure (ps.zip (us++ds))):Binds K fd ps ds:=λs us X hl=>by
 let⟨k,h1,h2⟩:=h us hl;show W.binds_K X hd ho hs h1 h2
def IE{K:W.Frag}{a:Addr}{od:Option Addr}{ag:Array Value}{n:Nat}{sl:Array (Option Value)}{H:Hp}{vs:List V}(l:K.lookup a=!⟨.type "tuple",od,.seq ag n,sl⟩)(z:ag.size<=sizeLine)(v:Vals vs ag.toList):SqT K H a vs :=
 .inr ⟨_,ag,n,l,O,O,z,v⟩
open PySem.W
structure At(K:Frag)(n:Str)(st:Stmt)(f:Addr)(fd:FuncData):Prop where
 a:nsIn K mainGlobals n=!!.ref f
 d:FunD K n n st f fd
 f:Fun K n n st f fd
def at_mk{K:Frag}{n:Str}{st:Stmt}{f:Addr}{oc:Value}{od an:Option Addr}{sl:Array (Option Value)}{kV dc pm cd ct:Value}(a:nsIn K mainGlobals n=!!.ref f)(l:K.lookup f=!⟨oc,od,.func (fnOf n n (c7 st) (b9 st) (bu st) .none kV dc pm an cd ct),sl⟩)(e:codeIn K cd n=true)(k:keepIn K (.ref f)=true):At K n st f (fnOf n n (c7 st) (b9 st) (bu st) .none kV dc pm an cd ct):=⟨a,El l e k,Kf l e k⟩
def Bo(n:Str)(st:Stmt)(ps:TV):=∀(kV be pm:Value) (an:Option Addr) (aA ct:Value) (us:TU),us.length=ps.length->bindArgs (fnOf n n (c7 st) (b9 st) (bu st) .none kV be pm an aA ct) ⟨us,[]⟩=pure (ps.zip us)
def bW{n:Nat}{us:TU}(h:us.length=n+1):∃u r,us=u::r/\r.length=n:=by
 cases us with
 | nil=>cases h
 | cons u r=>show⟨u,r,O,Nat.succ.inj h⟩
def RB{n:Str}{st:Stmt}{p0:Str}(h:∀(kV be pm:Value) (an:Option Addr) (aA ct u0:Value),bindArgs (fnOf n n (c7 st) (b9 st) (bu st) .none kV be pm an aA ct) ⟨[u0],[]⟩=pure [(p0,u0)]):Bo n st [p0]:=λkV be pm an aA ct us hl=>by
 let⟨u0,r0,rfl,h0⟩:=bW hl;obtain rfl:=rK h0;show h _ _ _ _ _ _ _
def RC{n:Str}{st:Stmt}{p0 p1:Str}(h:∀(kV be pm:Value) (an:Option Addr) (aA ct u0 u1:Value),bindArgs (fnOf n n (c7 st) (b9 st) (bu st) .none kV be pm an aA ct) ⟨[u0,u1],[]⟩=pure [(p0,u0),(p1,u1)]):Bo n st [p0,p1]:=λkV be pm an aA ct us hl=>by
 let⟨u0,r0,rfl,h0⟩:=bW hl;let⟨u1,r1,rfl,h1⟩:=bW h0;obtain rfl:=rK h1;show h _ _ _ _ _ _ _ _
def RD{n:Str}{st:Stmt}{p0 p1 p2:Str}(h:∀(kV be pm:Value) (an:Option Addr) (aA ct u0 u1 u2:Value),bindArgs (fnOf n n (c7 st) (b9 st) (bu st) .none kV be pm an aA ct) ⟨[u0,u1,u2],[]⟩=pure [(p0,u0),(p1,u1),(p2,u2)]):Bo n st [p0,p1,p2]:=λkV be pm an aA ct us hl=>by
 let⟨u0,r0,rfl,h0⟩:=bW hl;let⟨u1,r1,rfl,h1⟩:=bW h0;let⟨u2,r2,rfl,h2⟩:=bW h1;obtain rfl:=rK h2;show h _ _ _ _ _ _ _ _ _
def RE{n:Str}{st:Stmt}{p0 p1 p2 p3:Str}(h:∀(kV be pm:Value) (an:Option Addr) (aA ct u0 u1 u2 u3:Value),bindArgs (fnOf n n (c7 st) (b9 st) (bu st) .none kV be pm an aA ct) ⟨[u0,u1,u2,u3],[]⟩=pure [(p0,u0),(p1,u1),(p2,u2),(p3,u3)]):Bo n st [p0,p1,p2,p3]:=λkV be pm an aA ct us hl=>by
 let⟨u0,r0,rfl,h0⟩:=bW hl;let⟨u1,r1,rfl,h1⟩:=bW h0;let⟨u2,r2,rfl,h2⟩:=bW h1;let⟨u3,r3,rfl,h3⟩:=bW h2;obtain rfl:=rK h3;show h _ _ _ _ _ _ _ _ _ _
def RF{n:Str}{st:Stmt}{p0 p1 p2 p3 p4:Str}(h:∀(kV be pm:Value) (an:Option Addr) (aA ct u0 u1 u2 u3 u4:Value),bindArgs (fnOf n n (c7 st) (b9 st) (bu st) .none kV be pm an aA ct) ⟨[u0,u1,u2,u3,u4],[]⟩=pure [(p0,u0),(p1,u1),(p2,u2),(p3,u3),(p4,u4)]):Bo n st [p0,p1,p2,p3,p4]:=λkV be pm an aA ct us hl=>by
 let⟨u0,r0,rfl,h0⟩:=bW hl;let⟨u1,r1,rfl,h1⟩:=bW h0;let⟨u2,r2,rfl,h2⟩:=bW h1;let⟨u3,r3,rfl,h3⟩:=bW h2;let⟨u4,r4,rfl,h4⟩:=bW h3;obtain rfl:=rK h4;show h _ _ _ _ _ _ _ _ _ _ _
def RG{n:Str}{st:Stmt}{p0 p1 p2 p3 p4 p5:Str}(h:∀(kV be pm:Value) (an:Option Addr) (aA ct u0 u1 u2 u3 u4 u5:Value),bindArgs (fnOf n n (c7 st) (b9 st) (bu st) .none kV be pm an aA ct) ⟨[u0,u1,u2,u3,u4,u5],[]⟩=pure [(p0,u0),(p1,u1),(p2,u2),(p3,u3),(p4,u4),(p5,u5)]):Bo n st [p0,p1,p2,p3,p4,p5]:=λkV be pm an aA ct us hl=>by
 let⟨u0,r0,rfl,h0⟩:=bW hl;let⟨u1,r1,rfl,h1⟩:=bW h0;let⟨u2,r2,rfl,h2⟩:=bW h1;let⟨u3,r3,rfl,h3⟩:=bW h2;let⟨u4,r4,rfl,h4⟩:=bW h3;let⟨u5,r5,rfl,h5⟩:=bW h4;obtain rfl:=rK h5;show h _ _ _ _ _ _ _ _ _ _ _ _
def qec{P:Program}{w:World}{K:Frag}{mg:TJ}{base h:Heap}(X:K.In h)(G:h.Ns mainGlobals mg){n:Str}{st:Stmt}{f:Addr}{fd:FuncData}{CX:cZ}{k:Nat}{ps:TV}{sp:Sp}(A:At K n st f fd)(o:aK P w K mg base CX k f fd ps sp)(b:Bo n st ps:=by first | show RB (by intros;rfl) | show RC (by intros;rfl) | show RD (by intros;rfl) | show RE (by intros;rfl) | show RF (by intros;rfl) | show RG (by intros;rfl)):Fx P w K mg base CX k n ps sp:=⟨_,_,o,A.f.binds b,A.f.kp,mg_of X G A.a⟩
def RH{P:Program}{w:World}{K:Frag}{mg:TJ}{base h:Heap}(X:K.In h)(G:h.Ns mainGlobals mg){n:Str}{st:Stmt}{f:Addr}{fd:FuncData}{CX:cZ}{k:Nat}{ps:TV}{sp:Sp}(A:At K n st f fd)(no:∀vs H Q E,¬sp vs H Q E)(b:Bo n st ps:=by first | show RB (by intros;rfl) | show RC (by intros;rfl) | show RD (by intros;rfl) | show RE (by intros;rfl) | show RF (by intros;rfl) | show RG (by intros;rfl)):Fx P w K mg base CX k n ps sp:=.none (A.f.binds b) A.f.kp (mg_of X G A.a) no
def all_mk{l:OpenLaw}(X:K.In h)(G:h.Ns mainGlobals mg)(hfa:mg "law" = !.ref fa)(A1:At K "level_of" QM f1 d1)(A2:At K "elders_of" QN f2 d2)(A3:At K "holds" Ng f3 d3)(A4:At K "aside_ahead" P3 f4 d4)(A5:At K "look_at" Nh f5 d5)(A6:At K "word_width" M1 f6 d6)(A7:At K "face_at" M2 f7 d7)(a8:nsIn K mainGlobals "all_units" = !!.ref f8)(l8:K.lookup f8=!⟨oc8,od8,.func (fnOf "all_units" "all_units" (c7 mr) (b9 mr) (bu mr) (.ref T8) kV8 dc8 pm8 an8 RI ct8),sl8⟩)(t8:K.lookup T8=!⟨ocT8,odT8,.seq #[Value.bool false] nT8,slT8⟩)(e8:codeIn K RI "all_units" = true)(k8:keepIn K (.ref f8)=true)(A9:At K "node_units" Ni f9 d9)(A10:At K "piece_width" M4 f10 ET)(A11:At K "printed" M3 f11 d11)(A12:At K "rows_high" Nq f12 d12)(A13:At K "row_length" Ol f13 d13)(A14:At K "all_bounds" Ov f14 d14)(A15:At K "node_bounds" Ou f15 d15)(A16:At K "with_insets" Oi f16 d16)(A17:At K "units_low" Oj f17 d17)(A18:At K "floor_of" Om f18 d18)(A19:At K "roof_of" On f19 d19)(A20:At K "wish_of" Oo f20 d20)(A21:At K "grid_width" Op f21 d21)(A22:At K "rounded_up" Gg f22 d22)(A23:At K "bounds_in_pile" Oq f23 d23)(A24:At K "row_blemish" Qm f24 d24)(A25:At K "row_width" Ql f25 d25)(a26:nsIn K mainGlobals "broken" = !!.ref RJ)(l26:K.lookup RJ=!⟨oc26,od26,.func (fnOf "broken" "broken" (c7 mN) (b9 mN) (bu mN) (.ref RK) qed qee qef qeg RL qeh),sl26⟩)(t26:K.lookup RK=!⟨ocT26,odT26,.seq #[Value.none] nT26,slT26⟩)(e26:codeIn K RL "broken" = true)(k26:keepIn K (.ref RJ)=true)(A27:At K "sums_of_no_row" Qn f27 d27)(A28:At K "ways_of_rows" Qo f28 d28)(A29:At K "ways_by_end" Qp f29 d29)(A30:At K "beginnings_of" Qq f30 d30)(A31:At K "least_sum" Qw f31 d31)(A32:At K "chosen_rows" QA f32 d32)(A33:At K "fewest_rows" Qy f33 d33)(A34:At K "first_met" Qx f34 d34)(A35:At K "cells_of" OM f35 d35)(A36:At K "grid_places" OD f36 d36)(A37:At K "first_place" OC f37 d37)(A38:At K "spots_of" OB f38 d38)(A39:At K "grid_highs" PU f39 d39)(A40:At K "end_of" PR f40 d40)(A41:At K "shares" O2 f41 d41)(A42:At K "common_multiple" O0 f42 d42)(A43:At K "last_level" O1 f43 d43)(A44:At K "had_below" OZ f44 d44)(A45:At K "all_spans" O6 f45 d45)(A46:At K "held_spans" O5 f46 d46)(A47:At K "room_of" ON f47 d47)(A48:At K "floors_of" OO f48 d48)(A49:At K "roofs_of" OP f49 d49)(A50:At K "weights_of" OQ f50 d50)(A51:At K "one_behind_the_other" OR f51 d51)(A52:At K "cell_spans" OT f52 d52)(A53:At K "even_columns" OS f53 d53)(A54:At K "aside_span" OU f54 d54)(a55:nsIn K mainGlobals "all_sizes" = !!.ref RM)(l55:K.lookup RM=!⟨oc55,od55,.func (fnOf "all_sizes" "all_sizes" (c7 fg) (b9 fg) (bu fg) .none kV55 dc55 pm55 an55 (.ref cW) ct55),sl55⟩)(e55:codeIn K (.ref cW) "all_sizes" = true)(k55:keepIn K (.ref RM)=true)(A56:At K "node_size" QG f56 d56)(A57:At K "narrow_of" QF f57 d57)(A58:At K "high_of_held" Qk f58 d58)(A59:At K "held_tops" Qj f59 d59)(A60:At K "tops_in_grid" P8 f60 d60)(A61:At K "tops_in_pile" P9 f61 d61)(A62:At K "insides" Q3 f62 d62)(A63:At K "own_wide" Q2 f63 d63)(A64:At K "_law_stream" LD f64 d64)(A65:At K "_law_take" LF f65 d65)(A66:At K "_law_whole" PQ f66 d66)(A67:At K "_law_word" LG f67 d67)(A68:At K "_law_pieces" LH f68 d68)(A69:At K "_law_add" LJ f69 d69)(A70:At K "_law_text" LK f70 d70)(A71:At K "_law_item" LL f71 d71)(A72:At K "_law_book" LN f72 d72)(A73:At K "_law_wide" LP f73 d73)(A74:At K "_law_looks" BW f74 d74)(A75:At K "_law_faces" NO f75 d75)(A76:At K "_law_shown" Od f76 d76)(A77:At K "_law_held" Q7 f77 d77)(A78:At K "_law_beside" P4 f78 d78)(A79:At K "_law_made" PD f79 d79)(A80:At K "_law_tops" Q8 f80 d80)(A81:At K "_law_insides" Rg f81 d81)(A82:At K "_law_alike" Ri f82 d82)(A83:At K "law" Rp f83 d83)(x_UN:nsIn K mainGlobals "UNSHOWN" = !!.str (s!"?") tk_UN)(x_FG:nsIn K mainGlobals "FIGURES" = !!.str (s!"0123456789") tk_FG)(x_KP:nsIn K mainGlobals "KINDS_OF_PIECES" = !!.ref RN)(l_KP:K.lookup RN=!⟨.type "tuple",od_KP,.seq #[.str (s!"text") tk_K0,.str (s!"head") tk_K1,.str (s!"note") tk_K2] n_KP,sl_KP⟩)(x_NN:nsIn K mainGlobals "NONE_NARROWER" = !!.ref IF)(l_NN:K.lookup IF=!⟨.type "tuple",od_NN,.seq #[.int 0 tk_N0,.int 0 tk_N1] n_NN,sl_NN⟩)(x_PROPERTIES:nsIn K mainGlobals "PROPERTIES" = !!.ref RO)(l_PROPERTIES:K.lookup RO=!⟨.type "tuple",none,.seq #[.str (s!"face") tk_P0,.str (s!"align") tk_P1,.str (s!"above") tk_P2,.str (s!"inset") tk_P3,.str (s!"weight") tk_P4,.str (s!"least") tk_P5,.str (s!"most") tk_P6,.str (s!"columns") tk_P7,.str (s!"span") tk_P8,.str (s!"deep") tk_P9,.str (s!"side") tk_P10,.str (s!"wide") tk_P11,.str (s!"fresh") tk_P12] n_PROPERTIES_,sl_PROPERTIES⟩)(hPt:Pt≠mainGlobals)(hC:codeHdIn K cW Pt=true)(n_isinstance:nsIn K mainGlobals "isinstance" = !none)(n_len:nsIn K mainGlobals "len" = !none)(n_range:nsIn K mainGlobals "range" = !none)(n_sorted:nsIn K mainGlobals "sorted" = !none)(n_int:nsIn K mainGlobals "int" = !none)(n_bool:nsIn K mainGlobals "bool" = !none)(n_list:nsIn K mainGlobals "list" = !none)(n_tuple:nsIn K mainGlobals "tuple" = !none)(n_str:nsIn K mainGlobals "str" = !none)(n_set:nsIn K mainGlobals "set" = !none)(n_enumerate:nsIn K mainGlobals "enumerate" = !none)(n_all:nsIn K mainGlobals "all" = !none)(n_ValueError:nsIn K mainGlobals "ValueError" = !none)(n_any:nsIn K mainGlobals "any" = !none)(n_min:nsIn K mainGlobals "min" = !none)(n_max:nsIn K mainGlobals "max" = !none)(n_sum:nsIn K mainGlobals "sum" = !none)(n_zip:nsIn K mainGlobals "zip" = !none)(n_dict:nsIn K mainGlobals "dict" = !none)(i_ELDER:nsIn K mainGlobals "ELDER" = !!.int 0 t_ELDER)(i_KIND:nsIn K mainGlobals "KIND" = !!.int 1 t_KIND)(i_STUFF:nsIn K mainGlobals "STUFF" = !!.int 4 t_STUFF)(i_SORT:nsIn K mainGlobals "SORT" = !!.int 0 t_SORT)(i_THING:nsIn K mainGlobals "THING" = !!.int 1 t_THING)(i_TONE:nsIn K mainGlobals "TONE" = !!.int 2 t_TONE)(i_HIGH:nsIn K mainGlobals "HIGH" = !!.int 0 t_HIGH)(i_BLANK:nsIn K mainGlobals "BLANK" = !!.int 1 t_BLANK)(i_WIDE_faces:nsIn K mainGlobals "WIDE_faces" = !!.int 2 t_WIDE_faces)(i_ODD:nsIn K mainGlobals "ODD" = !!.int 3 t_ODD)(i_UNIT_WIDE:nsIn K mainGlobals "UNIT_WIDE" = !!.int 0 t_UNIT_WIDE)(i_UNIT_BLANK:nsIn K mainGlobals "UNIT_BLANK" = !!.int 1 t_UNIT_BLANK)(i_UNIT_HIGH:nsIn K mainGlobals "UNIT_HIGH" = !!.int 2 t_UNIT_HIGH)(i_UNIT_NOTES:nsIn K mainGlobals "UNIT_NOTES" = !!.int 4 t_UNIT_NOTES)(i_FIGURES_HELD:nsIn K mainGlobals "FIGURES_HELD" = !!.int 4 t_FIGURES_HELD)(i_LOW:nsIn K mainGlobals "LOW" = !!.int 0 t_LOW)(i_GREAT:nsIn K mainGlobals "GREAT" = !!.int 1 t_GREAT)(i_COUNT:nsIn K mainGlobals "COUNT" = !!.int 0 t_COUNT)(i_BY:nsIn K mainGlobals "BY" = !!.int 1 t_BY)(i_ROWS:nsIn K mainGlobals "ROWS" = !!.int 0 t_ROWS)(i_SUMS:nsIn K mainGlobals "SUMS" = !!.int 1 t_SUMS)(i_TOO_LONG:nsIn K mainGlobals "TOO_LONG" = !!.int 1000000 t_TOO_LONG)(i_ROW:nsIn K mainGlobals "ROW" = !!.int 0 t_ROW)(i_COLUMN:nsIn K mainGlobals "COLUMN" = !!.int 1 t_COLUMN)(i_SPAN:nsIn K mainGlobals "SPAN" = !!.int 2 t_SPAN)(i_DEEP:nsIn K mainGlobals "DEEP" = !!.int 3 t_DEEP)(i_LEFT:nsIn K mainGlobals "LEFT" = !!.int 0 t_LEFT)(i_WIDE_spans:nsIn K mainGlobals "WIDE_spans" = !!.int 1 t_WIDE_spans)(i_SIZE_HIGH:nsIn K mainGlobals "SIZE_HIGH" = !!.int 0 t_SIZE_HIGH): ∃fd:FuncData,(∀(s:Shared) (v:Value),BindsTo s fd ⟨[v],[]⟩ [("_law_script",v)])/\∀base:Heap,K.In base->base.Ns mainGlobals mg->base.BuiltinsAt mg Pt->aK l.prog w K mg base am 13 fa fd ["_law_script"] (zt Pt K):=by
 have e0:=hfa.symm.trans (mg_of X G A83.a);cases e0;have qei:=xU X G n_isinstance;have qej:=xU X G n_len;have qek:=xU X G n_range;have qel:=xU X G n_sorted;have qem:=xU X G n_int;have qen:=xU X G n_bool;have qeo:=xU X G n_list;have qep:=xU X G n_tuple;have qeq:=xU X G n_str;have qer:=xU X G n_set;have qes:=xU X G n_enumerate;have qet:=xU X G n_all;have qeu:=xU X G n_ValueError;have qev:=xU X G n_any;have qew:=xU X G n_min;have qex:=xU X G n_max;have qey:=xU X G n_sum;have qez:=xU X G n_zip;have qeA:=xU X G n_dict;have IH:=mg_of X G i_ELDER;have oO:=mg_of X G i_KIND;have CY:=mg_of X G i_STUFF;have qeB:=mg_of X G i_SORT;have qeC:=mg_of X G i_THING;have qeD:=mg_of X G i_TONE;have qeE:=mg_of X G i_HIGH;have qeF:=mg_of X G i_BLANK;have qeG:=mg_of X G i_WIDE_faces;have qeH:=mg_of X G i_ODD;have RP:=mg_of X G i_UNIT_WIDE;have RQ:=mg_of X G i_UNIT_BLANK;have qeI:=mg_of X G i_UNIT_HIGH;have qeJ:=mg_of X G i_UNIT_NOTES;have qeK:=mg_of X G i_FIGURES_HELD;have RS:=mg_of X G i_LOW;have qeL:=mg_of X G i_GREAT;have II:=mg_of X G i_COUNT;have qeM:=mg_of X G i_BY;have qeN:=mg_of X G i_ROWS;have qeO:=mg_of X G i_SUMS;have qeP:=mg_of X G i_TOO_LONG;have RT:=mg_of X G i_ROW;have RU:=mg_of X G i_COLUMN;have RV:=mg_of X G i_SPAN;have qeQ:=mg_of X G i_DEEP;have RW:=mg_of X G i_LEFT;have IJ:=mg_of X G i_WIDE_spans;have zw:=mg_of X G i_SIZE_HIGH;have T:bP mg:=⟨⟨qei,qej,qek,qel,qem,qen,qeo,qep,qeq,qer,qes,qet,qeu⟩,qev,qew,qex,qey,qez⟩;have TD:Fc.BnD mg:=⟨T,qeA⟩;have TS:Shr.BnS mg:=⟨T.isinstance,T.len,T.range,T.int,T.bool,T.list,T.min,T.max,T.sum,T.zip,T.enumerate,T.sorted,T.all⟩;have TG:lV mg:=⟨T.isinstance,T.len,T.range,T.int,T.bool,T.list,T.tuple,T.any,T.min,T.max,T.sum,T.zip⟩;have TR:Br.BnR mg:=⟨TG,⟨_,RP⟩,⟨_,RQ⟩⟩;have UF:Bp mg:=⟨⟨_,qeE⟩,⟨_,qeF⟩,⟨_,qeG⟩,⟨_,qeH⟩⟩;have UU:Bq mg:=⟨UF,⟨_,qeB⟩,⟨_,qeC⟩,⟨_,qeD⟩,⟨_,mg_of X G x_UN⟩,⟨_,qeK⟩,⟨_,mg_of X G x_FG⟩⟩;have UB:Bd.NumsB mg:=⟨⟨_,oO⟩,⟨_,CY⟩,⟨_,RP⟩,⟨_,RQ⟩,⟨_,RS⟩,⟨_,qeL⟩⟩;have US:qj mg:=⟨⟨_,oO⟩,⟨_,RS⟩,⟨_,RW⟩,⟨_,IJ⟩,⟨_,RU⟩,⟨_,RV⟩⟩;have UG:A0 mg:=⟨⟨_,RT⟩,⟨_,RU⟩,⟨_,RV⟩,⟨_,qeQ⟩⟩;have zx:∀H:Hp,SqT K H RN (Sp0.pieceKinds.map V.str):=λH=>IE (vs:=Sp0.pieceKinds.map V.str) l_KP (by show 3<=sizeLine;decide) (.cons ⟨_,O⟩ (.cons ⟨_,O⟩ (.cons ⟨_,O⟩ (.nil))))
 have zy:=mg_of X G x_KP;have NN0:∀H:Hp,SqT K H IF [.int 0,.int 0]:=λH=>IE l_NN (by show 2<=sizeLine;decide) (.cons ⟨_,O⟩ (.cons ⟨_,O⟩ (.nil)))
 have RX:=mg_of X G x_NN;have PT:MJ K RO:=⟨λH=>IE (vs:=vm.map V.str) l_PROPERTIES (by show 13<=sizeLine;decide) (.cons ⟨_,O⟩ (.cons ⟨_,O⟩ (.cons ⟨_,O⟩ (.cons ⟨_,O⟩ (.cons ⟨_,O⟩ (.cons ⟨_,O⟩ (.cons ⟨_,O⟩ (.cons ⟨_,O⟩ (.cons ⟨_,O⟩ (.cons ⟨_,O⟩ (.cons ⟨_,O⟩ (.cons ⟨_,O⟩ (.cons ⟨_,O⟩ (.nil)))))))))))))),⟨_,l_PROPERTIES,O,O⟩⟩;have qeR:=mg_of X G x_PROPERTIES;let⟨_,_,_,_,_,_,_,_,_,e,_⟩:=A83.f.ex;have F8:=El (st:=mr) l8 e8 k8;have bD8:Binds K _ ["book", "looks", "faces", "shown", "held"] [Value.bool false]:=qeb (fd:=fnOf "all_units" "all_units" (c7 mr) (b9 mr) (bu mr) (.ref T8) kV8 dc8 pm8 an8 RI ct8) O t8 O λus hl=>by(have hl:us.length=4:=‹hl›;let⟨u0,r0,rfl,h0⟩:=bW hl;let⟨u1,r1,rfl,h1⟩:=bW h0;let⟨u2,r2,rfl,h2⟩:=bW h1;let⟨u3,r3,rfl,h3⟩:=bW h2;obtain rfl:=rK h3;show⟨_,O,O⟩)
 have m8:=mg_of X G a8;have F26:=El (st:=mN) l26 e26 k26;have b26:Binds K _ ["units", "width", "narrow"] []:=qea (fd:=fnOf "broken" "broken" (c7 mN) (b9 mN) (bu mN) (.ref RK) qed qee qef qeg RL qeh) O t26 O λus hl=>by(let⟨u0,r0,rfl,h0⟩:=bW hl;let⟨u1,r1,rfl,h1⟩:=bW h0;let⟨u2,r2,rfl,h2⟩:=bW h1;obtain rfl:=rK h2;show⟨_,O,O⟩)
 have m26:=mg_of X G a26;have F55:=Kf (st:=fg) l55 e55 k55;have b55:=F55.binds (ps:=["book", "looks", "units", "spans"]) λ_ _ _ _ _ _ us hl=>by(let⟨u0,r0,rfl,h0⟩:=bW hl;let⟨u1,r1,rfl,h1⟩:=bW h0;let⟨u2,r2,rfl,h2⟩:=bW h1;let⟨u3,r3,rfl,h3⟩:=bW h2;obtain rfl:=rK h3;rfl)
 have m55:=mg_of X G a55;show⟨d83,λs v=>by rw[e];show .of_eq O,λbase KB GB hB=>?_⟩;have fx:=@qec l.prog w K mg base h X G;have RY:=fx A64 (W5 A64.f T.toBn);have ji:=fx A65 (W6 A65.f);have x67:=fx A67 (W7 A67.f T.toBn ji);have x68:=fx A68 (W8 A68.f T.toBn ji x67);have IK:=fx A69 (Xb A69.f T.toBn ji);have x70:=fx A70 (Xf A70.f T.toBn ji x68 IK);have XI:∀g,Fx l.prog w K mg base am (6+g) "_law_item" ["_law_nodes", "_law_elder", "_law_level", "_law_room", "_law_stream_here"] (Gw.spItem g):=λg=>by
  induction g with
  | zero=>show RH X G A71 Gw.item_none
  | succ g e=>show fx A71 (Xl A71.f T.toBn ji IK x70 e)
 have x72:=fx A72 (Xz A72.f T.toBn (XI 4));have x73:=fx A73 (XA A73.f T.toBn ji IK (XI 4));have x3:=fx A3 (Zc A3.f T.toBn ⟨_,IH⟩);have x2:=fx A2 (qdk A2.f ⟨_,IH⟩);have x1:=fx A1 (qdl A1.f T.toBn x2);have x4:=fx A4 (qcF A4.f ⟨_,IH⟩ ⟨_,oO⟩ x3);have x5:=fx A5 (Ze A5.f qeR PT);have x6:=fx A6 (YO A6.f TD UF);have x7:=fx A7 (YR A7.f TD UF);have x11:=fx A11 (YS A11.f TD UU);have x10:=fx A10 (YU A10.f TD UU x6 x11);have x9:=fx A9 (Zj A9.f TD UU ⟨_,oO⟩ ⟨_,CY⟩ ⟨_,qeJ⟩ zy zx x3 x7 x10);have qeS:FM l.prog w K mg base am 4 "all_units" ["book", "looks", "faces", "shown", "held"] [Value.bool false] (oo 4 Fc.spAllU):=⟨_,_,qab F8 T x5 x9,bD8,k8,m8⟩;have RZ:=fx A12 (Zz A12.f T ⟨_,qeI⟩);have x16:=fx A16 (qa2 A16.f x5);have x17:=fx A17 (qa3 A17.f T UB);have R0:=fx A13 (qa4 A13.f T UB);have CZ:=fx A18 (qa6 A18.f T UB x5);have R3:=fx A19 (qa7 A19.f T x5 CZ);have x20:=fx A20 (qa8 A20.f T UB CZ R3);have x22:=fx A22 (qa9 A22.f);have qeT:=fx A22 (qcP A22.f);have x21:=fx A21 (qba A21.f T x5 x22);have x23:=fx A23 (qbb A23.f UB x5);have x15:=fx A15 (qbh A15.f T UB zy zx x5 x16 x17 R0 x3 CZ x20 x21 x23);have x14:=fx A14 (qbl A14.f T x15);have x25:=fx A25 (qcQ A25.f TR ⟨_,II⟩ ⟨_,qeM⟩);have x24:=fx A24 (qcS A24.f TR ⟨_,qeP⟩ x25 R0);have x30:=fx A30 (qcW A30.f TR x24);have x29:=fx A29 (qcY A29.f TR x30);have x28:=fx A28 (qc0 A28.f TR ⟨_,II⟩ x29);have x27:=fx A27 (qcV A27.f TR);have x31:=fx A31 (qc1 A31.f TR);have x34:=fx A34 (qc2 A34.f TR);have x33:=fx A33 (qc3 A33.f TR);have x32:=fx A32 (qc4 A32.f TR x33 x34);have qeU:Fx l.prog w K mg base am 6 "broken" ["units", "width", "narrow"] (Bw.spBroken2 K IF):=⟨_,_,qc7 F26 TR RX x28 x27 x31 x32,b26,k26,m26⟩;have R4:=fx A35 (qbw A35.f x5);have R5:=fx A38 (qbo A38.f TG UG);have x37:=fx A37 (qbp A37.f TG R5);have IL:=fx A36 (qbq A36.f TG R5 x37);have x40:=fx A40 (qcD A40.f UG);have R6:=fx A39 (qcE A39.f TG UG x40);have R7:=fx A44 (qbH A44.f TS);have x42:=fx A42 (qbI A42.f);have x43:=fx A43 (qbJ A43.f TS R7);have x41:=fx A41 (qbK A41.f TS x42 x43 R7);have R8:=fx A47 (qbx A47.f T US x5);have x48:=fx A48 (qby A48.f CZ);have x49:=fx A49 (qbz A49.f R3);have x50:=fx A50 (qbA A50.f x5);have x51:=fx A51 (qbB A51.f T);have x53:=fx A53 (qbC A53.f T);have x52:=fx A52 (qbD A52.f T US x53 IL);have x54:=fx A54 (qbG A54.f T US x5);have x46:=fx A46 (qbN A46.f T US zy zx x3 x5 R8 x48 x49 x50 x41 x51 R4 x52 x54);have x45:=fx A45 (qbV A45.f T x3 x46);have x60:=fx A60 (qcI A60.f T ⟨_,zw⟩ ⟨_,RT⟩ R4 IL R6);have x61:=fx A61 (qcJ A61.f T ⟨_,zw⟩ ⟨_,oO⟩ x5 x4);have R9:=fx A59 (qcL A59.f ⟨_,oO⟩ zy zx x3 x5 x60 x61);have x58:=fx A58 (qcO A58.f T ⟨_,zw⟩ R9);have x57:=fx A57 (qdd A57.f ⟨_,zw⟩ ⟨_,IJ⟩ RX NN0 x4 qeT RZ);have x56:=fx A56 (qde A56.f T ⟨_,oO⟩ ⟨_,CY⟩ ⟨_,IJ⟩ ⟨_,qeN⟩ ⟨_,qeO⟩ ⟨_,II⟩ zy zx x58 x57 R8 qeU RZ);let⟨fl,dl,Fl,Cv,Ih,Ii⟩:=id x1;have qeV:Fx l.prog w K mg base am 8 "all_sizes" ["book", "looks", "units", "spans"] (CL Pt):=⟨_,_,qdH l55 e55 T T.sorted hC hPt hB Fl Cv Ih Ii x56,b55,k55,m55⟩;have x63:=fx A63 (qdL A63.f US ⟨_,CY⟩);have x62:=fx A62 (qdM A62.f T ⟨_,zw⟩ ⟨_,RW⟩ x63 R9);have x66:=fx A66 (qcC A66.f TG);have x74:=fx A74 (qaO A74.f T ji);have x75:=fx A75 (qae A75.f T ji);have x76:=fx A76 (qaV A76.f T ji);have x77:=fx A77 (qdP A77.f T);have x78:=fx A78 (qcG A78.f T);have x80:=fx A80 (qdR A80.f T x77 x78 IL R6);have XL:∀g,Fx l.prog w K mg base am (g+5) "_law_insides" ["_law_book_here", "_law_looks_here", "_law_spans", "_law_sizes", "_law_node", "_law_top"] (Ins.spLIns g):=λg=>by
  induction g with
  | zero=>show RH X G A81 qdW
  | succ g e=>show fx A81 (qdX A81.f x80 e)
 have x79:=fx A79 (qcr A79.f T RY ji x72 x73 x74 x75 x76 qeS x14 x45);have x82:=fx A82 (qdZ A82.f TG x66);show qd2 A83.f T RY ji x79 qeV (XL 7) x62 x82
theorem walk{l:OpenLaw}{q:Program}{pC:TV}{XP:(Str->Option Value)->Heap->Prop}{YP:World->Heap->Prop}{d:DefRec}{K:Params->Frag}{c Pt:Addr}(hn:l.most=!63)(sR:d.params.defaults=[])(hY:∀(w:World) (h:Heap),YP w h->(K w.params).In h/\h.get? Pt=!tabObj #[])(hC:∀w:World,codeHdIn (K w.params) c Pt=true)(zu:∀w:World,(K w.params).lookup Pt=none)(F:∀(w:World) (mg:TJ) (fa:Addr) (h:Heap),(K w.params).In h->h.Ns mainGlobals mg->mg d.name=!.ref fa ->
   ∃fd:FuncData,(∀(s:Shared) (u:Value),BindsTo s fd ⟨[u],[]⟩ [("_law_script",u)])/\∀base:Heap,(K w.params).In base->base.Ns mainGlobals mg->base.BuiltinsAt mg Pt->aK l.prog w (K w.params) mg base am 13 fa fd ["_law_script"] (zt Pt (K w.params))) :
  WalkO q pC XP YP l.row.toRowW d [] (λf vs=>call f vs) :=
 L2.walk_ofT (n:=63) (k:=13) (x := "_law_script") (c:=c) (Pt:=Pt) (CX:=λ_=>am) (sp:=λw=>zt Pt (K w.params)) hn {} sR ⟨O,{},{}⟩ hY hC zu F (λ_ _ a ns hl hO hS=>⟨a,ns,O,hS,hl,⟨#[],hO.1,trivial,.inl O⟩,λ_=>rfl⟩) λ_ _ _ _ _ z=>z
end K32
end
namespace PySem.W.Fast
theorem te14001845975460660981:True:=trivial
def tw14001845975460660981:Unit:=()
def tw4415077791245019520:PySem.Program:=PySem.Challenge.pw_leafpress_k32_insides
theorem te4415077791245019520:PySem.Challenge.pw_leafpress_k32_insides=tw4415077791245019520:=rfl
def tw11180600246552305098:=()
def tw7510054069170295056:=()
def tw17818950018201574642:=()
def tw17065747312646596241:=()
def tw12953407276649690843:=()
def tw426367095967610520:=()
def tw13994043488786763255:=()
def tw1356364240173538464:=()
def tw5360111061508104425:=()
def tw7732315742856588173:=()
def tw13407553930621228412:=()
def tw1522660279736708364:=()
def tw2341411833242744297:=()
def tw4248318299274797810:=()
def tw8901324898698173069:=()
def tw15710601537622329889:=()
def tw14119788282215587712:=()
def tw14794735533144003228:=()
def tw2126133757620375355:=()
def tw6791237747374482202:=()
def tw6161167640281632584:=()
def tw16385667466831811816:=()
def tw10098948733639461146:=()
def tw9106307346655075355:=()
def tw16724302531330328870:=()
def tw10799104470340289031:=()
def tw2016094129392514552:=()
def tw5948787609290108144:=()
def tw223929321347527423:=()
def tw11612863437292989285:=()
def tw12843116599174191432:=()
def tw16717367117506091273:=()
def tw5088885256420555389:=()
def tw16152915035579938216:=()
def tw15697363602930437111:=()
def tw11983222542018415845:=()
def tw5559658368234644053:=()
def tw5576997229514655904:=()
def tw232858429701469881:=()
def tw5681314060492327443:=()
def tw5019534299951968759:=()
def tw7528696839677793525:=()
def tw11759757846477956231:=()
def tw17992524646066407594:=()
def tw15923170041023398616:=()
def tw12635640721420497648:=()
def tw12782310594392176850:=()
def tw6101810864864035093:=()
def tw8042307376809801238:=()
def tw12018122149255062645:=()
def tw7984222933658807411:=()
def tw9488475937013424399:=()
def tw11983068615969417454:=()
def tw11105315572413012537:=()
def tw4371377282565289859:=()
def tw2602798265241445095:=()
def tw12893473388939560375:=()
def tw10717782088944218187:=()
def tw4492285755324857641:=()
def tw15048479371356397462:=()
def tw16258897949628641566:=()
def tw13688813306145411511:=()
def tw16050425466022743751:=()
def tw4307210732408002530:=()
def tw15021070748455797657:=()
def tw7126615591456816936:=()
def tw17146547755680218917:=()
def tw7417444580659457310:=()
def tw5531998367700425181:=()
def tw5983753690587446960:=()
def tw11402355467629992791:=()
def tw10864248038239468950:=()
def tw2590488498175316846:=()
def tw15238332188140849762:=()
def tw7088217723206459258:=()
def tw4058608255045018412:=()
def tw13163734661819598613:=()
def tw11167391312067579836:=()
def tw10819270102668164532:=()
def tw13455013833185711968:=()
def tw14105459681440298536:=()
def tw12668859634050894695:=()
def tw12955139010750788529:=()
def tw15293997965412183577:=()
def tw4807147278266458651:=()
def tw2421475674282989365:=()
def tw12061828683297126279:=()
def tw2766273926158798942:=()
def tw17166981252365045363:=()
def tw12259927434467762478:=()
def tw7940668877023019540:=()
def tw2681108337605768225:=()
def tw11598620758347738706:=()
def tw16284394811573508832:=()
def tw18289992132741582088:=()
def tw12250368261620416322:=()
def tw5484479327212293548:=()
def tw6809677224604516821:=()
def tw8075422730784538471:=()
def tw1908750541342204357:=()
def tw4207685152130433595:=()
def tw924734761617085033:=()
def tw12003485926193418859:=()
def tw2862704048225479940:=()
def tw6500070182573310854:=()
def tw14839354398498467075:=()
def tw15670442463208913953:=()
def tw12060769369307221633:=()
def tw524791309896011510:=()
def tw11247926442121246583:=()
def tw3689492475255860738:=()
def tw5708963004007245816:=()
def tw8912487777122349103:=()
def tw12481590483078310364:=()
def tw17282052517350126633:=()
def tw5160932401750300209:=()
def tw15384353482402456559:=()
def tw4656642631412873902:=()
def tw4081809353058795334:=()
def tw682563772383789287:=()
def tw9621175890702099339:=()
def tw5946902201775327691:=()
def tw14199786072505784653:=()
def tw4856995441361870685:=()
def tw10113393892110283761:=()
def tw9515501506448909844:=()
def tw128418571143791553:=()
def tw6997899694902725751:=()
def tw16060173904582261784:=()
def tw12950237148661588936:=()
def tw3136012935222788980:=()
def tw7260424315297027942:=()
def tw4723072803196497491:=()
def tw464904933430736364:=()
def tw6097123410038438994:=()
def tw16155460322098751817:=()
def tw6835172790795762943:=()
def tw8982281274174602953:=()
def tw14710606959444232148:=()
def tw2816536394115193500:=()
def tw12823709806291659309:=()
def tw2325073030982789135:=()
def tw13540097400385200588:=()
def tw5873699108821113549:=()
def tw1021143358409329385:=()
def tw9267199827116902633:=()
def tw15957924371266274707:=()
def tw2674252873656818245:=()
def tw3351793447247502274:=()
def tw10810034970778229810:=()
def tw5592622460696528015:=()
def tw6524834330985556286:=()
def tw3863790168458574555:=()
def tw17278156388762795743:=()
def tw10734302772389482314:=()
def tw5431626965093578404:=()
def tw15104681129369523284:=()
def tw18223319290724893545:=()
def tw2704278585586016326:=()
def tw9429489515631589248:=()
def tw9442818265405013426:=()
def tw16583394472841745101:=()
def tw8757396544156065482:=()
def tw15357810824589036512:=()
def tw12293827413912481812:=()
def tw11331586769188604609:=()
def tw408430167808203119:=()
def tw7692151950744455437:=()
def tw4124598573646034993:=()
def tw14191181961677890329:=()
def tw4615770315496272086:=()
def tw286757875838384691:=()
def tw17518039237435880799:=()
def tw9476387174262767608:=()
def tw6270372555839980787:=()
def tw15706587322352586273:=()
def tw12098817802390769027:=()
def tw2640914443464142629:=()
def tw14211546218921231777:=()
def tw3732835636695832128:=()
def tw2405973901793319829:=()
def tw10043749085031834460:=()
def tw13664174185730111284:=()
def tw393223048400758525:=()
def tw7220697319835654025:=()
def tw37198358677243721:=()
def tw8481301886139485601:=()
def tw3972908942194531301:=()
def tw4318944191032601880:=()
def tw4271016531938520704:=()
def tw8456667084162051153:=()
def tw1688429953641431242:=()
def tw11225095785289181064:=()
def tw2548234634791288882:=()
def tw9250305384037269227:=()
def tw11422875965615763051:=()
def tw12272780545655408349:=()
def tw5423249339540276410:=()
def tw13180186405397629566:=()
def tw4602213474398274910:=()
def tw4887133874539781960:=()
def tw6988709551854324028:=()
def tw13375325083403360201:=()
def tw3909599902593975641:=()
def tw16687668454920375144:=()
def tw12957188103108675627:=()
def tw4315392062397636258:=()
def tw10080296896418463348:=()
def tw11744582334821430903:=()
def tw17277077975338668601:=()
def tw2689395509110239726:=()
def tw16452138751019382041:=()
def tw14335330173936944816:=()
def tw5665126672384803206:=()
def tw13519807548030279326:=()
def tw12078803280891640324:=()
def tw17929878912480357749:=()
def tw6343862693432958149:=()
def tw8214782329588070105:=()
def tw3769770537503006030:=()
def tw15608660454391067316:=()
def tw1944699511238496549:=()
def tw835494845194970062:=()
def tw9665937525365757172:=()
def tw15520934883957489193:=()
def tw8059033595541823743:=()
def tw17641198461091285114:=()
def tw8528619792043071732:=()
def tw1071307094608277787:=()
def tw16621620163550556683:=()
def tw18387985989956435731:=()
def tw3341355761583264365:=()
def tw7819789506603041552:=()
def tw16471838433370016546:=()
def tw8755611524136110007:=()
def tw16173143796235190963:=()
def tw16306852577653060432:=()
def tw15663849687888930951:=()
def tw8736917512149159655:=()
def tw18373309396082478277:=()
def tw9110224155155013514:=()
def tw15428061091035817968:=()
def tw17924785527405234866:=()
def tw15197446650125634670:=()
def tw11524094479943235946:=()
def tw7488058465983867932:=()
def tw15636428723505029119:=()
def tw13309040434176711857:=()
def tw6215525861911085827:=()
def tw6252248638623858902:=()
def tw3631130720229456564:=()
def tw2568615229784585988:=()
def tw1462635372434038489:=()
def tw16876278152092969749:=()
def tw2614052270446060216:=()
def tw9768094963319235266:=()
def tw6893481511744885044:=()
def tw15223247243073015404:=()
def tw11885820095691654178:=()
def tw14928610114197302181:=()
def tw7017394494951936197:=()
def tw12565956139218772056:=()
def tw10840123548201795859:=()
def tw9699185795457222248:=()
def tw16013299139092420980:=()
def tw16641236993569622729:=()
def tw4121206845769519171:=()
def tw591279980399841981:=()
def tw14143874037929617670:=()
def tw630413194607874133:=()
def tw2117906533631779245:=()
def tw11127747569324037055:=()
end PySem.W.Fast
open PySem PySem.W PyProof.Rows
local macro_rules | `(tactic| trivial)=>`(tactic| (refine' K32.at_mk ?a ?l ?e ?k;(case a=>k_is);(case l=>k_is);(case e=>k_is);(case k=>k_is)))
set_option maxRecDepth 100000 in
set_option maxHeartbeats 0 in
theorem PySem.Challenge.cw_leafpress_k32_insides_holds : PySem.Challenge.rw_leafpress_k32_insides.Holds := by
 w_on;o_law;k_head;(case hw=>w_witness2)
 k_fill
 refine K32.walk (l:=PySem.Challenge.rw_leafpress_k32_insides) (c:=370) (Pt:=368) rfl rfl (λw h Y=>⟨PySem.W.km_in_of Y,PySem.W.km_tabs_of Y _ (by simp)⟩) (λw=>by first | k_is | kernel_rfl) (λw=>by first | kernel_rfl | k_is) ?F
 case F =>
  intro w mg fa h KX G sV;refine' K32.all_mk KX G sV ?A1 ?A2 ?A3 ?A4 ?A5 ?A6 ?A7 ?a8 ?l8 ?t8 ?e8 ?k8 ?A9 ?A10 ?A11 ?A12 ?A13 ?A14 ?A15 ?A16 ?A17 ?A18 ?A19 ?A20 ?A21 ?A22 ?A23 ?A24 ?A25 ?a26 ?l26 ?t26 ?e26 ?k26 ?A27 ?A28 ?A29 ?A30 ?A31 ?A32 ?A33 ?A34 ?A35 ?A36 ?A37 ?A38 ?A39 ?A40 ?A41 ?A42 ?A43 ?A44 ?A45 ?A46 ?A47 ?A48 ?A49 ?A50 ?A51 ?A52 ?A53 ?A54 ?a55 ?l55 ?e55 ?k55 ?A56 ?A57 ?A58 ?A59 ?A60 ?A61 ?A62 ?A63 ?A64 ?A65 ?A66 ?A67 ?A68 ?A69 ?A70 ?A71 ?A72 ?A73 ?A74 ?A75 ?A76 ?A77 ?A78 ?A79 ?A80 ?A81 ?A82 ?A83 ?x_UN ?x_FG ?x_KP ?l_KP ?x_NN ?l_NN ?x_PROPERTIES ?l_PROPERTIES ?hPt ?hC ?n_isinstance ?n_len ?n_range ?n_sorted ?n_int ?n_bool ?n_list ?n_tuple ?n_str ?n_set ?n_enumerate ?n_all ?n_ValueError ?n_any ?n_min ?n_max ?n_sum ?n_zip ?n_dict ?i_ELDER ?i_KIND ?i_STUFF ?i_SORT ?i_THING ?i_TONE ?i_HIGH ?i_BLANK ?i_WIDE_faces ?i_ODD ?i_UNIT_WIDE ?i_UNIT_BLANK ?i_UNIT_HIGH ?i_UNIT_NOTES ?i_FIGURES_HELD ?i_LOW ?i_GREAT ?i_COUNT ?i_BY ?i_ROWS ?i_SUMS ?i_TOO_LONG ?i_ROW ?i_COLUMN ?i_SPAN ?i_DEEP ?i_LEFT ?i_WIDE_spans ?i_SIZE_HIGH
  (case A1 | A2 | A3 | A4 | A5 | A6 | A7=>trivial)
  (case a8 | l8 | t8 | e8 | k8=>k_is)
  (case A9 | A10 | A11 | A12 | A13 | A14 | A15 | A16 | A17 | A18 | A19 | A20 | A21 | A22 | A23 | A24 | A25=>trivial)
  (case a26 | l26 | t26 | e26 | k26=>k_is)
  (case A27 | A28 | A29 | A30 | A31 | A32 | A33 | A34 | A35 | A36 | A37 | A38 | A39 | A40 | A41 | A42 | A43 | A44 | A45 | A46 | A47 | A48 | A49 | A50 | A51 | A52 | A53 | A54=>trivial)
  (case a55 | l55 | e55 | k55=>k_is)
  (case A56 | A57 | A58 | A59 | A60 | A61 | A62 | A63 | A64 | A65 | A66 | A67 | A68 | A69 | A70 | A71 | A72 | A73 | A74 | A75 | A76 | A77 | A78 | A79 | A80 | A81 | A82 | A83=>trivial)
  (case x_UN | x_FG | x_KP | l_KP | x_NN | l_NN | x_PROPERTIES | l_PROPERTIES=>k_is)
  (case hPt=>decide)
  (case hC=>first | k_is | kernel_rfl)
  (case n_isinstance | n_len | n_range | n_sorted | n_int | n_bool | n_list | n_tuple | n_str | n_set | n_enumerate | n_all | n_ValueError | n_any | n_min | n_max | n_sum | n_zip | n_dict | i_ELDER | i_KIND | i_STUFF | i_SORT | i_THING | i_TONE | i_HIGH | i_BLANK | i_WIDE_faces | i_ODD | i_UNIT_WIDE | i_UNIT_BLANK | i_UNIT_HIGH | i_UNIT_NOTES | i_FIGURES_HELD | i_LOW | i_GREAT | i_COUNT | i_BY | i_ROWS | i_SUMS | i_TOO_LONG | i_ROW | i_COLUMN | i_SPAN | i_DEEP | i_LEFT | i_WIDE_spans | i_SIZE_HIGH=>k_is)
