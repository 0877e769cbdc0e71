import PyProof.Rows.All
import Wide.All
import OpenK.AllK
import Wide.FinOn
import Lean
import PyProof.EqAt
import PyProof.EqKinds
import PyProof.TupleCall
import KE.KEqDat
import PyProof.CompMap
import PyProof.WalksEnum
import PyProof.EnumMake
import PyProof.Draws
import PyProof.Rows.SetFrom
import PyProof.SetKind
import PyProof.WalksS
import PyProof.CollectWalk
import PyProof.FactsAll.set_1
import PyProof.DictIter
import PyProof.TupleIter
import PyProof.FactsAll.set_2
import PyProof.Rows.SortStr
import PyProof.StrBlockH
import PyProof.Rows.StrClose
import PyProof.FitsInt
import PyProof.Rows.FStr
import PyProof.StrLoop
import PyProof.StrWalks
import PyProof.StrLawsIn
import PyProof.ListRange
import PyProof.ZipIter
import PyProof.DictRoads
import PyProof.DictList
import PyProof.StrOps2
import PyProof.StrCalls2
import PyProof.Rows.StrJoin2
import PyProof.StrLaws
import PyProof.SeqI3
import PyProof.WalkInts
import PyProof.Rows.CallKwBuiltin
import PyProof.FactsAll.tuple_2
import PyProof.FactsAll.tuple_3
import PyProof.TupleKey
import PyProof.FactsAll.tuple_0
import PyProof.Rows.Range3
import PyProof.SumAny
import KE.KUnpack
import PyProof.StrLawsChain
import PyProof.Conv_int
import PyProof.FactsAll.str
import PyProof.StrLawsNeg
import KE.KRevIter
import PyProof.P3Eq
import PySem.Challenge.RW_leafpress_k10_whole_any_rows_read
local macro_rules | `(tactic| omega) => `(tactic| lia)
local macro_rules | `(tactic| trivial) => `(tactic| first | exact Or.inl (by rfl) | exact Or.inr (by rfl))
local macro_rules | `(tactic| ac_rfl) => `(tactic| decide +kernel)
abbrev qA:=@List.length_map
abbrev qB:=@decide_eq_true
abbrev qC:=@decide_eq_false
abbrev qD:=@List.getElem?_eq_some_iff
abbrev qE:=@List.getElem?_eq_getElem
abbrev qF:=@PySem.wpAny_bind
abbrev qG:=@Nat.le_refl
abbrev qH:=@List.length_append
abbrev qI:=@PySem.Heap.get?_push_of_some
abbrev qJ:=@List.mem_cons_self
abbrev qK:=@List.mem_of_getElem?
abbrev qL:=@Bool.false_ne_true
abbrev qM:=@List.map_append
abbrev qN:=@List.mem_cons_of_mem
abbrev qO:=@List.mem_cons
abbrev qP:=@List.getElem?_map
abbrev qQ:=@PySem.wpAny_pure
abbrev qR:=@Nat.le_trans
abbrev qS:=@PySem.F.plainAttrs_list
abbrev qT:=@List.length_cons
abbrev qU:=@PySem.Heap.lt_size
abbrev qV:=@List.mem_map
abbrev qW:=@List.mem_append
abbrev qX:=@Nat.lt_of_lt_of_le
abbrev qY:=@decide_eq_true_iff
abbrev qZ:=@List.mem_append_right
abbrev rA:=@List.eq_nil_of_length_eq_zero
abbrev rB:=@PySem.Heap.get?_push_size
abbrev rC:=@List.append_nil
abbrev rD:=@Option.some.inj
abbrev rE:=@PySem.F.slot_list_append
abbrev rF:=@PySem.F.type_list_append
abbrev rG:=@Bool.and_eq_true
abbrev rH:=@List.map_cons
abbrev rJ:=@List.take_length
abbrev rK:=@List.size_toArray
abbrev rL:=@of_decide_eq_true
abbrev rM:=@Int.toNat_natCast
abbrev rN:=@List.length_take
abbrev rO:=@List.take_succ
abbrev rP:=@Nat.ne_of_lt
abbrev rQ:=@List.take_of_length_le
abbrev rR:=@Option.toList_some
abbrev rS:=@List.getElem?_eq_none
abbrev rT:=@List.filter_append
abbrev rV:=@List.getElem?_append_left
abbrev rW:=@List.length_drop
abbrev rX:=@Nat.lt_irrefl
abbrev rY:=@List.getElem?_append_right
abbrev rZ:=@List.replicate_succ
abbrev r8:=@Nat.zero_le
abbrev r9:=@PySem.Heap.size_push
abbrev xA:=@List.drop_of_length_le
abbrev xB:=@List.all_eq_true
abbrev xC:=@Array.length_toList
abbrev xD:=@Bool.eq_iff_iff
abbrev xE:=@PySem.PassesOwn.never
abbrev xF:=@List.map_map
abbrev xG:=@PySem.F.plainAttrs_str
abbrev xH:=@PySem.F.slot_list_extend
abbrev xI:=@PySem.F.type_list_extend
abbrev xJ:=@PySem.wpAny_mono
abbrev xK:=@List.filterMap_cons
abbrev xL:=@List.mem_filter
abbrev xM:=@Nat.not_lt_zero
abbrev xN:=@List.cons_append
abbrev xO:=@congrArg
abbrev xP:=@Bool.true_and
abbrev xQ:=@List.any_cons
abbrev xS:=@Nat.lt_succ_self
abbrev xT:=@PyProof.Rows.callWith_type1
abbrev xU:=@PySem.wpAny_setState_of
abbrev xV:=@PySem.wpAny_truthy_bool
abbrev xW:=@List.getD_eq_getElem?_getD
abbrev xX:=@List.mem_append_left
abbrev xY:=@List.foldl_cons
abbrev xZ:=@PySem.W.kia_one
abbrev yA:=@List.append_assoc
abbrev yB:=@List.dropWhile_suffix
abbrev yC:=@List.length_filter_le
abbrev yD:=@List.take_append_drop
abbrev yE:=@PySem.builtinLookup_eq_fast
abbrev yF:=@Nat.le_of_lt
abbrev yG:=@Array.all_eq_true'
abbrev yH:=@PySem.W.mg_none_of
abbrev yI:=@PySem.wpAny_askSetting
abbrev yJ:=@List.dropWhile_cons_of_neg
abbrev yK:=@List.ext_getElem?
abbrev yL:=@List.nil_append
abbrev yM:=@Nat.min_le_left
abbrev yN:=@Array.getElem?_eq_getElem
abbrev yO:=@PySem.Heap.get?_update_self
abbrev yP:=@List.length_replicate
abbrev yQ:=@List.eq_of_mem_replicate
abbrev yR:=@List.mem_of_mem_drop
abbrev yS:=@Nat.mul_le_mul_right
abbrev yT:=@PySem.wpAny_setField
abbrev yU:=@PySem.wpAny_newObj_type
abbrev yV:=@List.mem_map_of_mem
abbrev yW:=@PyProof.Rows.F.plain_set_update_loop
abbrev yX:=@PySem.wpAny_holding
abbrev yY:=@List.filter_cons
abbrev yZ:=@List.getElem_mem
abbrev y2:=@List.lookup_cons
abbrev y3:=@PySem.wpAny_Call_Name_kw
abbrev y4:=@List.length_singleton
abbrev y7:=@List.drop_eq_getElem_cons
abbrev y8:=@Nat.min_eq_left
abbrev y9:=@PySem.typeLookup_type
abbrev uA:=@PySem.wpAny_ite_split
abbrev uB:=@PySem.wpAny_passesOwn
abbrev uC:=@PySem.Around.under_plainId
abbrev uD:=@Bool.eq_false_iff
abbrev uE:=@Nat.le_succ
abbrev uF:=@Nat.lt_trans
abbrev uG:=@Nat.ne_of_gt
abbrev uH:=@Nat.lt_succ_iff_lt_or_eq
abbrev uI:=@List.filter_eq_self
abbrev uJ:=@List.getElem?_range
abbrev uK:=@PySem.mem_of_lookup
abbrev uL:=@Bool.false_and
abbrev uM:=@List.length_eq_zero_iff
abbrev uN:=@PySem.wpAny_getItem_str_slice
abbrev uO:=@PySem.Heap.get?_update_other
abbrev uP:=@List.mem_filterMap
abbrev uQ:=@Nat.lt_of_le_of_lt
abbrev uR:=@List.nodup_cons
abbrev uS:=@PySem.codeAny_builtin
abbrev uT:=@Array.getElem?_toList
abbrev uU:=@List.getElem?_reverse
abbrev uV:=@List.nodup_append
abbrev uW:=@Nat.lt_succ_of_lt
abbrev uX:=@PySem.F.slot_str_startswith
abbrev uY:=@PySem.F.type_str_startswith
abbrev uZ:=@List.mem_of_mem_take
abbrev u3:=@List.mem_range
abbrev u4:=@PySem.F.excBase_ValueError
abbrev u5:=@PySem.typeIs_str
abbrev u8:=@Nat.le_of_not_lt
abbrev u9:=@Nat.succ_le_succ
abbrev vA:=@PySem.codeAny_mono
abbrev vB:=@Array.toList_append
abbrev vC:=@PySem.plainId_quiet
abbrev vD:=@Array.getElem?_eq_none
abbrev vE:=@Bool.and_false
abbrev vF:=@List.drop_zero
abbrev vG:=@PySem.isSubtype_type
abbrev vH:=@PyProof.Rows.subscriptTail_builtinR
abbrev vI:=@PySem.wpAny_call_entry
abbrev vJ:=@List.forIn_cons
abbrev vK:=@List.range_succ
abbrev vL:=@Option.map_some
abbrev vM:=@PySem.post_val_or_str
abbrev vN:=@PySem.wpAny_execs_nil
abbrev vO:=@PySem.wpAny_specialOf
abbrev vP:=@List.length_reverse
abbrev vQ:=@List.replicate_zero
abbrev vR:=@List.takeWhile_cons
abbrev vS:=@PySem.W.hideAll_get
abbrev vT:=@PySem.F.args_str_split_2
abbrev vU:=@Int.emod_lt_of_pos
abbrev vV:=@List.Perm.refl
abbrev vW:=@List.filterMap_map
abbrev vX:=@Nat.add_le_add
abbrev vY:=@PySem.call_meets
abbrev vZ:=@PySem.F.entry_str_split
abbrev v0:=@List.any_eq_false
abbrev wA:=@List.not_lt
abbrev wB:=@Nat.le_succ_of_le
abbrev wC:=@PySem.PassesOwn.leaving
abbrev wD:=@PySem.wpAny_pyIter_list
abbrev wE:=@Bool.false_or
abbrev wF:=@List.cons.inj
abbrev wG:=@PySem.F.slot_str_split
abbrev wH:=@List.any_eq_true
abbrev wI:=@PySem.wpAny_isInstance
abbrev wJ:=@Int.zero_add
abbrev wK:=@List.map_nil
abbrev wL:=@PySem.Txt.slice_le
abbrev wM:=@Bool.or_eq_true
abbrev wN:=@Int.emod_nonneg
abbrev wO:=@List.of_mem_zip
abbrev wP:=@PySem.wpAny_updateSeq
abbrev wQ:=@PySem.wpAny_seqItems
abbrev wR:=@List.dropWhile_cons
abbrev wS:=@List.drop_succ_cons
abbrev wT:=@Bool.and_true
abbrev wU:=@List.all_cons
abbrev wV:=@List.map_drop
noncomputable section
set_option Elab.async false
set_option linter.all false
set_option maxRecDepth 100000
namespace L2
open PySem PySem.Spec PyProof.Rows
abbrev Key:=Sum Int Str
def keyIs:Key->Value->Bool
 | .inl k,v=>Value.isInt k v
 | .inr x,v=>Value.isStrOf x v
def keyH(w:World):Key->Int
 | .inl k=>hashInt k
 | .inr x=>hashStr w x
theorem keyIs_shape:∀{k:Key} {v:Value},keyIs k v=true->(∃i t,k=Sum.inl i/\v=Value.int i t)\/(∃x t,k=Sum.inr x/\v=Value.str x t)
 | .inl i, v, h => by
   obtain⟨t,e⟩:=Value.isInt_shape (k:=i) (v:=v) h
   exact .inl ⟨i,t,rfl,e⟩
 | .inr x, v, h => by
   obtain⟨t,e⟩:=Value.isStrOf_shape (x:=x) (v:=v) h
   exact .inr ⟨x,t,rfl,e⟩
theorem keyIs_int(i:Int)(t:Tok):keyIs (.inl i) (.int i t)=true:=by simp[keyIs,Value.isInt]
theorem keyIs_str(x:Str)(t:Tok):keyIs (.inr x) (.str x t)=true:=by simp[keyIs,Value.isStrOf]
theorem key_ll(a b:Int):decide ((Sum.inl a:Key)=Sum.inl b)=(a == b):=by
 by_cases e:a=b
 ·subst e;simp
 ·have h:¬(Sum.inl a:Key)=Sum.inl b:=λq=>e (Sum.inl.inj q)
  rw[qC h];exact(beq_eq_false_iff_ne.mpr e).symm
theorem key_rr(a b:Str):decide ((Sum.inr a:Key)=Sum.inr b)=decide (a=b):=by
 by_cases e:a=b
 ·subst e;simp
 ·have h:¬(Sum.inr a:Key)=Sum.inr b:=λq=>e (Sum.inr.inj q)
  rw[qC h,qC e]
theorem key_lr(a:Int)(b:Str):decide ((Sum.inl a:Key)=Sum.inr b)=false:=qC (λq=>nomatch q)
theorem key_rl(a:Str)(b:Int):decide ((Sum.inr a:Key)=Sum.inl b)=false:=qC (λq=>nomatch q)
def qbg(prog:Program)(w:World):PySem.KeyKind prog w Key where
 is:=keyIs
 hash:=keyH w
 inj:=λv a b ha hb=>by
  rcases keyIs_shape ha with⟨i,t,rfl,rfl⟩ | ⟨x,t,rfl,rfl⟩
  ·rcases keyIs_shape hb with⟨j,u,rfl,e⟩ | ⟨y,u,rfl,e⟩
   ·injection e with e1 _;rw[e1]
   ·exact nomatch e
  ·rcases keyIs_shape hb with⟨j,u,rfl,e⟩ | ⟨y,u,rfl,e⟩
   ·exact nomatch e
   ·injection e with e1 _;rw[e1]
 byValue:=λk v h=>by
  rcases keyIs_shape h with⟨i,t,rfl,rfl⟩ | ⟨x,t,rfl,rfl⟩<;>rfl
 pyHash:=λhv h=>by
  rcases keyIs_shape hv with⟨i,t,rfl,rfl⟩ | ⟨x,t,rfl,rfl⟩
  ·exact wpAny_pyHash_int h
  ·exact wpAny_pyHash_str h
 eqBool:=λhu hv h=>by
  rcases keyIs_shape hu with⟨i,t,rfl,rfl⟩ | ⟨x,t,rfl,rfl⟩
  ·rcases keyIs_shape hv with⟨j,u,rfl,rfl⟩ | ⟨y,u,rfl,rfl⟩
   ·rw[key_ll]at h;exact wpAny_eqBool_int h
   ·rw[key_lr]at h;exact SeqAt.EqAt.int_str i t y u _ _ _ _ h
  ·rcases keyIs_shape hv with⟨j,u,rfl,rfl⟩ | ⟨y,u,rfl,rfl⟩
   ·rw[key_rl]at h;exact SeqAt.EqAt.str_int x t j u _ _ _ _ h
   ·rw[key_rr]at h;exact wpAny_eqBool_str h
 «strs»:=λk x t v h=>by
  rcases keyIs_shape h with⟨i,u,rfl,e⟩ | ⟨y,u,rfl,e⟩
  ·exact nomatch e
  ·injection e with e1 _
   subst e1;cases v<;>rfl
theorem mixKind_int(prog:Program)(w:World)(i:Int)(t:Tok):(qbg prog w).is (.inl i) (.int i t)=true:=keyIs_int i t
theorem qaU(prog:Program)(w:World)(x:Str)(t:Tok):(qbg prog w).is (.inr x) (.str x t)=true:=keyIs_str x t
inductive V where
 | non | bl (b:Bool) | int (i:Int) | str (x:Str) | byt (b:Array UInt8) | flt (b:UInt64) | ref (a:Addr) | ty (n:String)
 deriving DecidableEq
def RelV:V->Value->Prop
 | .non,u=>u=Value.none
 | .bl b,u=>u=Value.bool b
 | .int i,u=>∃t,u=Value.int i t
 | .str x,u=>∃t,u=Value.str x t
 | .byt b,u=>∃t,u=Value.bytes b t
 | .flt b,u=>∃t,u=Value.float b t
 | .ref a,u=>u=Value.ref a
 | .ty n,u=>u=Value.type n
abbrev Vals:List V->List Value->Prop:=Paired RelV
theorem Vals.length{xs:List V}{us:List Value}(r:Vals xs us):xs.length=us.length:=Paired.length r
theorem Vals.get:∀{xs:List V} {us:List Value} {i:Nat} {x:V},Vals xs us->xs[i]?=some x->∃u,us[i]?=some u/\RelV x u
 | _,_,_,_,.nil,e=>by simp at e
 | _,_,0,_,.cons r _,e=>by simp at e;subst e;exact⟨_,rfl,r⟩
 | _, _, i + 1, x, .cons _ t, e => by
   obtain⟨u,h1,h2⟩:=Vals.get (i:=i) (x:=x) t (by simpa using e)
   exact⟨u,by simpa using h1,h2⟩
theorem Vals.set{x:V}{u:Value}(r:RelV x u):∀{xs:List V} {us:List Value} (i:Nat),Vals xs us->Vals (xs.set i x) (us.set i u)
 | _,_,_,.nil=>.nil
 | _,_,0,.cons _ t=>.cons r t
 | _,_,i+1,.cons q t=>.cons q (Vals.set r i t)
theorem Vals.append:∀{xs ys:List V} {us ws:List Value},Vals xs us->Vals ys ws->Vals (xs++ys) (us++ws)
 | _,_,_,_,.nil,s=>s
 | _,_,_,_,.cons r t,s=>.cons r (Vals.append t s)
theorem Vals.take:∀{xs:List V} {us:List Value} (n:Nat),Vals xs us->Vals (xs.take n) (us.take n)
 | _,_,0,_=>.nil
 | _,_,_+1,.nil=>.nil
 | _,_,n+1,.cons r t=>.cons r (Vals.take n t)
theorem Vals.drop:∀{xs:List V} {us:List Value} (n:Nat),Vals xs us->Vals (xs.drop n) (us.drop n)
 | _,_,0,r=>r
 | _,_,_+1,.nil=>.nil
 | _,_,n+1,.cons _ t=>Vals.drop n t
def RelO:Option V->Option Value->Prop
 | some v,some u=>RelV v u
 | none,none=>True
 | _,_=>False
def KV{κ:Type}:List (κ×V)->List (κ×Value)->Prop:=Paired λ(p:κ×V) (q:κ×Value)=>p.1=q.1/\RelV p.2 q.2
def kV:Key->V
 | .inl i=>.int i
 | .inr x=>.str x
inductive HO where
 | lst (xs:List V)
 | tup (xs:List V)
 | dK (kvs:List (Key×V)) | dT (kvs:List (List Key×V))
 | set (S:Int->Bool) (n:Nat)
 | ins (C dx:Addr) (fs:List (Str×V))
 | own (x:Addr)
 | xd (fs:List (Str×V))
 | met (f x:Addr)
 | rng (lo hi:Int)
 | frz (o:Obj) (u:HO)
 | tbl (ps:Array Value)
 | ext (φ:Heap->Prop)
abbrev Hp:=Addr->Option HO
def upd(H:Hp)(a:Addr)(o:HO):Hp:=λb=>if b=a then some o else H b
theorem upd_same{H:Hp}{a:Addr}{o:HO}:upd H a o a=some o:=by unfold upd;rw[if_pos rfl]
theorem qax{H:Hp}{a b:Addr}{o:HO}(h:b≠a):upd H a o b=H b:=by unfold upd;rw[if_neg h]
theorem upd_upd{H:Hp}{a:Addr}{o u:HO}:upd (upd H a o) a u=upd H a u:=by
 funext b;unfold upd;split<;>rfl
theorem qhc{H:Hp}{a b:Addr}{o u:HO}(h:H a=some o)(h':H b=some u)(d:o≠u):a≠b:=by
 intro e;subst e;rw[h]at h';exact d (rD h')
theorem qam{H:Hp}{a b:Addr}{o:HO}(h:H a=some o)(h':H b=none):a≠b:=by
 intro e;subst e;rw[h]at h';cases h'
section
variable(P:Program)(w:World)
def ObjOk(H:Hp)(h:Heap)(a:Addr):HO->Prop
 | .lst xs=>xs.length<=sizeLine/\∃(its:List Value) (n:Nat),Vals xs its/\h.get? a=some {cls:=.type "list",data:=.seq its.toArray n}
 | .tup xs=>xs.length<=sizeLine/\∃its:List Value,Vals xs its/\IsTup h a its.toArray
 | .dK kvs=>kvs.length<=sizeLine/\(a == sysModules)=false/\∃vs,KV kvs vs/\h.DictOf (qbg P w) a vs
 | .dT kvs=>kvs.length<=sizeLine/\(a == sysModules)=false/\∃xs:List (List Key×Addr×Value),
   Paired (λ(p:List Key×V) (q:List Key×Addr×Value)=>p.1=q.1/\H q.2.1=some (.tup (p.1.map kV))/\RelV p.2 q.2.2) kvs xs /\
   ∃o es ep,h.get? a=some o/\o.ExactDict/\o.data=.dict es ep/\es.toList=xs.map (entryOfKey (tupleKind (qbg P w)))/\(xs.map (·.1)).Nodup
 | .set S n=>h.SetOf (intKind P w) a S n
 | .ins C dx fs=>H dx=some (.own a)/\fs.length<=1000/\dx≠a/\h.get? a=some (PySem.W.instObj C dx) /\
   ∃mA,h.Ns1 dx mA/\(∀f,RelO (fs.lookup f) (mA f))/\PySem.Within mA (fs.map (·.1))
 | .own _=>∃o,h.get? a=some o
 | .xd fs=>∃mA,h.Ns1 a mA/\∀f,RelO (fs.lookup f) (mA f)
 | .rng lo hi=>∃t u v,h.get? a=some {cls:=.type "range",data:=.fields #[.int lo t,.int hi u,.int 1 v]}
 | .frz o u=>h.get? a=some o/\ObjOk H h a u
 | .tbl ps=>h.get? a=some {cls:=.none,data:=.fields ps}
 | .met f x=>h.get? a=some (PySem.W.methodObj (.ref f) (.ref x))
 | .ext φ=>φ h/\(∃o,h.get? a=some o)/\∀h1 h2:Heap,φ h1->(∀o,h1.get? a=some o->h2.get? a=some o)->φ h2
def HOk(H:Hp)(h:Heap):Prop:=∀a o,H a=some o->ObjOk P w H h a o
end
section
variable{P:Program}{w:World}{H H':Hp}{h h':Heap}{a:Addr}{o:HO}
theorem ObjOk.lt(x:ObjOk P w H h a o):a<h.objs.size:=by
 cases o with
 | lst xs=>obtain⟨_,_,_,_,e⟩:=x;exact qU e
 | tup xs=>obtain⟨_,_,_,p⟩:=x;exact p.lt
 | dK kvs=>obtain⟨_,_,_,_,o,_,_,e,_⟩:=x;exact qU e
 | dT kvs=>obtain⟨_,_,_,_,o,_,_,e,_⟩:=x;exact qU e
 | set S n=>obtain⟨o,_,_,_,e,_⟩:=x;exact qU e
 | ins C dx fs=>obtain⟨_,_,_,e,_⟩:=x;exact qU e
 | own y=>obtain⟨_,e⟩:=x;exact qU e
 | xd fs=>obtain⟨_,⟨_,_,_,e,_⟩,_⟩:=x;exact qU e
 | rng lo hi=>obtain⟨_,_,_,e⟩:=x;exact qU e
 | frz ob u=>obtain⟨e,_⟩:=x;exact qU e
 | tbl ps=>exact qU (show h.get? a=some _ from x)
 | met f y=>exact qU (show h.get? a=some _ from x)
 | ext φ=>obtain⟨_,⟨_,e⟩,_⟩:=x;exact qU e
theorem Paired.mapP{α β:Type}{F G:α->β->Prop}:∀{l₁:List α} {l₂:List β},Paired F l₁ l₂->(∀a b,F a b->G a b)->Paired G l₁ l₂
 | _,_,.nil,_=>.nil
 | _,_,.cons r t,f=>.cons (f _ _ r) (Paired.mapP t f)
theorem ObjOk.stay(x:ObjOk P w H h a o)(k:∀b u,(b=a\/H b=some (.own a))->h.get? b=some u->h'.get? b=some u)(ho:∀b,H b=some (.own a)->H' b=some (.own a))(ht:∀b xs,H b=some (.tup xs)->H' b=some (.tup xs)):ObjOk P w H' h' a o:=by
 induction o with
 | lst xs=>obtain⟨z,its,n,r,e⟩:=x;exact⟨z,its,n,r,k _ _ (.inl rfl) e⟩
 | tup xs=>obtain⟨z,its,r,ob,e,c⟩:=x;exact⟨z,its,r,ob,k _ _ (.inl rfl) e,c⟩
 | dK kvs=>obtain⟨z,y,vs,r,ob,es,ep,e,c⟩:=x;exact⟨z,y,vs,r,ob,es,ep,k _ _ (.inl rfl) e,c⟩
 | dT kvs =>
   obtain⟨z,y,xs,r,ob,es,ep,e,c⟩:=x
   exact⟨z,y,xs,Paired.mapP r λp q z=>⟨z.1,ht _ _ z.2.1,z.2.2⟩,ob,es,ep,k _ _ (.inl rfl) e,c⟩
 | set S n=>obtain⟨ob,es,ep,t,e,c⟩:=x;exact⟨ob,es,ep,t,k _ _ (.inl rfl) e,c⟩
 | ins C dx fs =>
   obtain⟨d,z,ne,e,mA,⟨od,es,ep,e2,c⟩,r⟩:=x
   exact⟨ho _ d,z,ne,k _ _ (.inl rfl) e,mA,⟨od,es,ep,k _ _ (.inr d) e2,c⟩,r⟩
 | own y=>obtain⟨ob,e⟩:=x;exact⟨ob,k _ _ (.inl rfl) e⟩
 | xd fs=>obtain⟨mA,⟨od,es,ep,e,c⟩,r⟩:=x;exact⟨mA,⟨od,es,ep,k _ _ (.inl rfl) e,c⟩,r⟩
 | rng lo hi=>obtain⟨t,u,v,e⟩:=x;exact⟨t,u,v,k _ _ (.inl rfl) e⟩
 | frz ob u ih=>obtain⟨e,q⟩:=x;exact⟨k _ _ (.inl rfl) e,ih q⟩
 | tbl ps =>
   have e:h.get? a=some {cls:=.none,data:=.fields ps}:=x
   show h'.get? a=some {cls:=.none,data:=.fields ps}
   exact k a _ (.inl rfl) e
 | met f y =>
   have e:h.get? a=some (PySem.W.methodObj (.ref f) (.ref y)):=x
   show h'.get? a=some (PySem.W.methodObj (.ref f) (.ref y))
   exact k a _ (.inl rfl) e
 | ext φ=>obtain⟨p,⟨o,e⟩,st⟩:=x;exact⟨st _ _ p λo q=>k _ _ (.inl rfl) q,⟨o,k _ _ (.inl rfl) e⟩,st⟩
theorem HOk.lt(x:HOk P w H h)(e:H a=some o):a<h.objs.size:=(x a o e).lt
theorem HOk.fresh(x:HOk P w H h)(e:h.objs.size<=a):H a=none:=by
 cases q:H a with
 | none=>rfl
 | some u=>exact absurd (qX (x.lt q) e) (rX _)
theorem HOk.kept(x:HOk P w H h)(k:∀b u,h.get? b=some u->h'.get? b=some u):HOk P w H h':=λa o e =>
 (x a o e).stay (λb u _ q=>k b u q) (λ_ q=>q) λ_ _ q=>q
theorem HOk.laid(x:HOk P w H h)(k:∀b u,h.get? b=some u->h'.get? b=some u)(hp:h.objs.size<=a)(new:ObjOk P w (upd H a o) h' a o):HOk P w (upd H a o) h':=λb u e=>by
 have hn:=x.fresh hp
 by_cases hb:b=a
 ·subst hb;rw[upd_same]at e;cases e;exact new
 ·rw[qax hb]at e;exact(x b u e).stay (λc v _ q=>k c v q) (λc q=>by rw[qax (qam q hn)];exact q) λc xs q=>by rw[qax (qam q hn)];exact q
end
def Rd(H:Hp)(a:Addr)(u:HO):Prop:=H a=some u\/∃o,H a=some (.frz o u)
theorem Rd.ok{P:Program}{w:World}{H:Hp}{h:Heap}{a:Addr}{u:HO}(r:Rd H a u)(x:HOk P w H h):ObjOk P w H h a u:=by
 rcases r with r | ⟨o,r⟩
 ·exact x a u r
 ·obtain⟨_,q⟩:=x a _ r;exact q
def Mut:Option HO->Prop
 | some (.lst _)=>True
 | some (.dK _)=>True
 | some (.dT _)=>True
 | some (.set _ _)=>True
 | some (.ins _ _ _)=>True
 | some (.ext _)=>True
 | _=>False
section
variable{P:Program}{w:World}{H:Hp}{h h':Heap}{x e:Addr}{o':HO}
theorem HOk.write(ok:HOk P w H h)(mu:Mut (H x))(he:e=x\/H e=some (.own x))(k:∀b u,b≠e->h.get? b=some u->h'.get? b=some u)(heo:∃u,h'.get? e=some u)(new:ObjOk P w (upd H x o') h' x o'):HOk P w (upd H x o') h':=λb u q=>by
 have nown:∀c y,H c=some (.own y)->c≠x:=λc y r z=>by subst z;rw[r]at mu;exact mu
 have ntup:∀c xs,H c=some (.tup xs)->c≠x:=λc xs r z=>by subst z;rw[r]at mu;exact mu
 by_cases hb:b=x
 ·subst hb;rw[upd_same]at q;cases q;exact new
 ·rw[qax hb]at q
  by_cases hbe:b=e
  ·have q':H b=some (.own x):=by
    rcases he with z | z
    ·exact absurd (hbe.trans z) hb
    ·rw[hbe];exact z
   rw[q]at q';cases q';obtain⟨v,hv⟩:=heo;exact⟨v,by rw[hbe];exact hv⟩
  ·refine(ok b u q).stay (λc v hc r=>k c v ?_ r) (λc r=>by rw[qax (nown c b r)];exact r) λc xs r=>by rw[qax (ntup c xs r)];exact r
   rcases hc with rfl | hc
   ·exact hbe
   ·rintro rfl;rcases he with z | z
    ·exact nown c b hc z
    ·rw[hc]at z;cases z;exact hb rfl
end
structure Un(fs ex:List Addr)(H H':Hp)(h h':Heap):Prop where
 keep:∀b o,h.get? b=some o->H b=none->b∉fs->b∉ex->h'.get? b=some o
 slot:∀b o,h.get? b=some o->H b=none->b∈fs->b∉ex->∃sl,h'.get? b=some {o with slots:=sl}
 free:∀b o,h.get? b=some o->H b=none->b∉ex->H' b=none
 there:∀b o,h.get? b=some o->b∉ex->∃o',h'.get? b=some o'
 tups:∀b xs,H b=some (.tup xs)->H' b=some (.tup xs)
 frzs:∀b o u,H b=some (.frz o u)->H' b=some (.frz o u)
 tbls:∀b ps,H b=some (.tbl ps)->∃more,H' b=some (.tbl (ps++more))
section
variable{fs fs' ex ex':List Addr}{H H1 H2:Hp}{h h1 h2 h':Heap}{a x e:Addr}{o:HO}
theorem Un.any(u:Un fs ex H H1 h h1){b:Addr}{ob:Obj}(q:h.get? b=some ob)(n:H b=none)(hx:b∉ex):∃sl,h1.get? b=some {ob with slots:=sl}:=by
 by_cases hb:b∈fs
 ·exact u.slot b ob q n hb hx
 ·exact⟨ob.slots,u.keep b ob q n hb hx⟩
theorem Un.kept(k:∀b u,h.get? b=some u->h'.get? b=some u):Un fs ex H H h h' :=
 ⟨λb ob q _ _ _=>k b ob q,λb ob q _ _ _=>⟨ob.slots,k b ob q⟩,λ_ _ _ n _=>n,λb ob q _=>⟨ob,k b ob q⟩,λ_ _ q=>q,λ_ _ _ q=>q,λ_ ps q=>⟨#[],by rw[q];simp⟩⟩
theorem Un.refl:Un fs ex H H h h:=Un.kept λ_ _ q=>q
theorem Un.laid(k:∀b u,h.get? b=some u->h'.get? b=some u)(hp:h.objs.size<=a)(hn:H a=none):Un fs ex H (upd H a o) h h' where
 keep:=λb u q _ _ _=>k b u q
 slot:=λb u q _ _ _=>⟨u.slots,k b u q⟩
 free:=λb u q n _=>by rw[qax (rP (qX (qU q) hp))];exact n
 there:=λb u q _=>⟨u,k b u q⟩
 tups:=λb xs q=>by rw[qax (qam q hn)];exact q
 frzs:=λb u xs q=>by rw[qax (qam q hn)];exact q
 tbls:=λb ps q=>⟨#[],by rw[qax (qam q hn),q];simp⟩
theorem Un.write(mu:Mut (H x))(he:e=x\/H e=some (.own x))(k:∀b u,b≠e->h.get? b=some u->h'.get? b=some u)(heo:∃u,h'.get? e=some u):Un fs ex H (upd H x o) h h':=by
 have hx:∀b,H b=none->b≠x:=λb n z=>by subst z;rw[n]at mu;exact mu
 have hb:∀b,H b=none->b≠e:=λb n z=>by
  subst z;rcases he with r | r
  ·exact hx b n r
  ·rw[n]at r;cases r
 have hm:∀b u,H b=some u->¬Mut (some u)->b≠x:=λb u q nm z=>by subst z;rw[q]at mu;exact nm mu
 refine⟨λb u q n _ _=>k b u (hb b n) q,λb u q n _ _=>⟨u.slots,k b u (hb b n) q⟩,λb u q n _=>by rw[qax (hx b n)];exact n,λb u q _=>?_,
  λb xs q=>by rw[qax (hm b _ q λz=>z)];exact q,λb u xs q=>by rw[qax (hm b _ q λz=>z)];exact q,λb ps q=>⟨#[],by rw[qax (hm b _ q λz=>z),q];simp⟩⟩
 by_cases hbe:b=e
 ·subst hbe;exact heo
 ·exact⟨u,k b u hbe q⟩
end
def trk(h:Heap)(H:Hp):List Addr:=(List.range h.objs.size).filter λa=>(H a).isSome
def hidT(h:Heap)(H:Hp):Heap:=PySem.W.hideAll h (trk h H)
theorem hidT_size(h:Heap)(H:Hp):(hidT h H).objs.size=h.objs.size:=PySem.W.hideAll_size _ _
theorem hidT_get{h:Heap}{H:Hp}{b:Addr}{o:Obj}(e:h.get? b=some o)(n:H b=none):(hidT h H).get? b=some o :=
 vS _ e λhm=>by
  have q:(H b).isSome=true:=(xL.mp hm).2;rw[n]at q;simp at q
theorem of_hidT{h:Heap}{H:Hp}{b:Addr}{o:Obj}(e:(hidT h H).get? b=some o):h.get? b=some o/\H b=none:=by
 have e':h.get? b=some o:=PySem.W.of_hideAll (trk h H) e;refine⟨e',?_⟩;cases q:H b with
 | none=>rfl
 | some x =>
   have hm:b∈trk h H:=xL.mpr ⟨u3.mpr (qU e'),by simp[q]⟩
   have z:(hidT h H).get? b=none:=PySem.W.hideAll_none (trk h H) hm
   rw[z]at e;cases e
structure Mod(K:W.Frag)(mg:Str->Option Value)(base:Heap):Prop where
 kin:K.In base
 glob:base.Ns mainGlobals mg
 blt:∃mb,base.Ns builtinsNs mb/\∀x:Str,x ≠ "__name__" -> mb x=bootBuiltins x
 nolimit:base.NoLimit
structure Cx where
 prog:Program
 w:World
 K:W.Frag
 mg:Str->Option Value
 base:Heap
 A:Around
 N:List Str
 s₀:Shared
 H₀:Hp
 env:Env
 outer:List Env
 stack:List Env
 ex:List Addr
 fn:Str->Bool
 calm:Bool
 pn:List (Addr×Obj)
 xe:Value->Shared->Prop
def frs(l:List Env):List Addr:=l.filterMap (·.frame)
abbrev Cx.fs(X:Cx):List Addr:=frs X.outer
def Vis(sc:Scope)(x:Str):Prop:=sc.names.lookup x=some .local\/sc.names.lookup x=some .cell\/sc.names.lookup x=some .free
def Loc(sc:Scope)(x:Str):Prop:=sc.names.lookup x=some .local\/sc.names.lookup x=some .cell
def Look(env:Env)(h:Heap)(m:Str->Option Value)(x:Str)(u:Value):Prop :=
 (env.kindOf x=some .local/\m x=some u)\/((env.kindOf x=some .cell\/env.kindOf x=some .free)/\∃c,env.cells.lookup x=some c/\h.IsCell c (some u))
structure Cx.Ok(X:Cx):Prop where
 mod:Mod X.K X.mg X.base
 kind:X.env.scope.kind=.function
 glob:X.env.globals=mainGlobals
 blt:X.env.builtins=builtinsNs
 above:X.s₀.heap.objs.size<=X.env.locals
 inj:∀x y c,X.env.cells.lookup x=some c->X.env.cells.lookup y=some c->x=y
 has:∀x,(X.env.kindOf x=some .cell\/X.env.kindOf x=some .free)->∃c,X.env.cells.lookup x=some c
 cab:∀x c,X.fn x=true->X.env.cells.lookup x=some c->X.s₀.heap.objs.size<=c
 hd:X.calm=true->X.A.handled=none
 frames:X.A.frames=some X.stack
 stk:X.stack=X.outer\/(X.stack=X.env::X.outer/\X.env.frame=some X.env.locals)
 exf:∀b∈X.ex,b≠X.env.locals/\∀x c,X.env.cells.lookup x=some c->c≠b
 bs:∀b o,X.base.get? b=some o->X.s₀.heap.get? b=some o/\X.H₀ b=none
 bsz:X.base.objs.size<=X.s₀.heap.objs.size
 noex:∀b o,X.base.get? b=some o->b∉X.ex
 exfs:∀b∈X.ex,b∉X.fs
 funs:X.s₀.heap.FunFrames X.base X.outer
 frf:∀b∈X.fs,X.H₀ b=none
structure Inv(X:Cx)(pins:List (Addr×Obj))(σ:List (Option V))(H:Hp)(s:Shared):Prop where
 ok:X.Ok
 os:s.os=X.s₀.os
 bare:AllBare s.gens
 base:Un X.fs X.ex X.H₀ H X.s₀.heap s.heap
 loc:∃m,s.heap.Ns X.env.locals m/\∀(i:Nat) (x:Str) (v:V),X.N[i]?=some x->σ[i]?=some (some v)->Vis X.env.scope x->∃u,RelV v u/\Look X.env s.heap m x u
 cell:∀x c,X.env.cells.lookup x=some c->∃v,s.heap.IsCell c v
 free:H X.env.locals=none
 freeC:∀x c,X.env.cells.lookup x=some c->H c=none
 pin:∀p∈X.pn++pins,s.heap.get? p.1=some p.2/\H p.1=none/\p.1≠X.env.locals/\p.1∉X.fs/\∀v,p.2.data≠.cell v
 hok:HOk X.prog X.w H s.heap
 len:σ.length=X.N.length
section
variable{X:Cx}{pins:List (Addr×Obj)}{σ:List (Option V)}{H H':Hp}{s:Shared}{h':Heap}
theorem Cx.Ok.nofr(ok:X.Ok){b:Addr}{o:Obj}(e:X.base.get? b=some o):b∉X.fs:=λhb=>by
 have:=(ok.funs.mem hb).1;rw[e]at this;cases this
theorem Inv.bs(I:Inv X pins σ H s):∀b o,X.base.get? b=some o->s.heap.get? b=some o/\H b=none:=λb o e =>
 ⟨I.base.keep b o (I.ok.bs b o e).1 (I.ok.bs b o e).2 (I.ok.nofr e) (I.ok.noex b o e),I.base.free b o (I.ok.bs b o e).1 (I.ok.bs b o e).2 (I.ok.noex b o e)⟩
theorem Inv.bk(I:Inv X pins σ H s):∀b o,X.base.get? b=some o->s.heap.get? b=some o:=λb o e=>(I.bs b o e).1
theorem Inv.mod(I:Inv X pins σ H s):Mod X.K X.mg X.base:=I.ok.mod
theorem Inv.kIn(I:Inv X pins σ H s):X.K.In s.heap:=I.ok.mod.kin.keeps I.bk
theorem Inv.lt(I:Inv X pins σ H s):X.env.locals<s.heap.objs.size:=let⟨_,hn,_⟩:=I.loc;hn.lt
theorem Inv.sz(I:Inv X pins σ H s):X.s₀.heap.objs.size<=s.heap.objs.size:=qR I.ok.above (yF I.lt)
theorem Inv.nofs(I:Inv X pins σ H s){a:Addr}(h:s.heap.objs.size<=a):a∉X.fs:=λhb=>by
 obtain⟨_,o,ho,_⟩:=I.ok.funs.mem hb;exact absurd (qX (qU ho) (qR I.sz h)) (rX _)
theorem Inv.cne(I:Inv X pins σ H s):∀x c,X.env.cells.lookup x=some c->c≠X.env.locals:=λx c e z=>by
 obtain⟨v,o,ho,hd⟩:=I.cell x c e;obtain⟨m,⟨o',es,ep,ho',hd',_⟩,_⟩:=I.loc;rw[z,ho']at ho;cases ho;rw[hd']at hd;cases hd
theorem Inv.funs(I:Inv X pins σ H s):s.heap.FunFrames X.base X.outer:=by
 have all:∀(l:List Env),(∀b∈frs l,b∈X.fs)->X.s₀.heap.FunFrames X.base l->s.heap.FunFrames X.base l:=by
  intro l
  induction l with
  | nil=>intro _ _;trivial
  | cons env r ih =>
    intro hs hl
    obtain⟨hk,⟨L,o,hf,hn,ho,hd⟩,hr⟩:=hl
    have hL:L∈X.fs:=hs L (by unfold frs;rw[xK,hf];exact qJ)
    obtain⟨sl,e⟩:=I.base.slot L o ho (I.ok.frf L hL) hL λz=>I.ok.exfs L z hL
    exact⟨hk,⟨L,_,hf,hn,e,hd⟩,ih (λb hb=>hs b (by unfold frs;rw[xK,hf];exact qN _ hb)) hr⟩
 exact all X.outer (λ_ hb=>hb) I.ok.funs
theorem Inv.stack(I:Inv X pins σ H s):s.heap.FunFrames X.base X.stack:=by
 rcases I.ok.stk with e | ⟨e,hf⟩
 ·rw[e];exact I.funs
 ·rw[e];obtain⟨m,hn,_⟩:=I.loc;refine .cons (by rw[I.ok.kind];decide) hf hn ?_ I.funs;exact Heap.get?_none_of_le (qR I.ok.bsz I.ok.above)
theorem Inv.stkSub(I:Inv X pins σ H s):∀b∈frs X.stack,b∈X.env.locals::X.fs:=λb hb=>by
 rcases I.ok.stk with e | ⟨e,hf⟩
 ·rw[e]at hb;exact qN _ hb
 ·rw[e]at hb;unfold frs at hb;rw[xK,hf]at hb;exact hb
theorem Inv.stkFree(I:Inv X pins σ H s):∀b∈frs X.stack,H b=none:=λb hb=>by
 rcases qO.mp (I.stkSub b hb)with e | hb
 ·rw[e];exact I.free
 ·obtain⟨_,o,ho,_⟩:=I.ok.funs.mem hb;exact I.base.free b o ho (I.ok.frf b hb) λz=>I.ok.exfs b z hb
theorem Inv.step{g':Array GenState}{t':Nat}{d':Drawn}{ch:List Addr}(I:Inv X pins σ H s)(hch:∀b∈ch,(b∈X.ex\/X.s₀.heap.objs.size<=b)/\b≠X.env.locals/\(∀x c,X.env.cells.lookup x=some c->c≠b)/\∀p∈X.pn++pins,p.1≠b)(keep:∀b o,b≠X.env.locals->b∉X.fs->b∉ch->s.heap.get? b=some o->H b=none->h'.get? b=some o)(slot:∀b o,b≠X.env.locals->b∈X.fs->b∉ch->s.heap.get? b=some o->H b=none->∃sl,h'.get? b=some {o with slots:=sl})(free:∀b o,b∉ch->s.heap.get? b=some o->H b=none->H' b=none)(there:∀b o,b∉ch->s.heap.get? b=some o->∃o',h'.get? b=some o')(tups:∀b xs,H b=some (.tup xs)->H' b=some (.tup xs))(frzs:∀b o u,H b=some (.frz o u)->H' b=some (.frz o u))(tbls:∀b ps,H b=some (.tbl ps)->∃more,H' b=some (.tbl (ps++more)))(ns:∀m,s.heap.Ns X.env.locals m->h'.Ns X.env.locals m)(hok:HOk X.prog X.w H' h')(hg:AllBare g') :
  Inv X pins σ H' {s with heap:=h',gens:=g',drawn:=d',toks:=t'}:=by
 have neL:∀b o,X.s₀.heap.get? b=some o->b≠X.env.locals:=λb o e=>rP (qX (qU e) I.ok.above)
 have neC:∀b o,X.s₀.heap.get? b=some o->b∉X.ex->b∉ch:=λb o e hx hb=>by
  rcases(hch b hb).1 with z | z
  ·exact hx z
  ·exact absurd (qX (qU e) z) (rX _)
 have cellK:∀x c,X.env.cells.lookup x=some c->∀v,s.heap.IsCell c v->h'.IsCell c v:=λx c e v ⟨o,ho,hd⟩=>by
  have nch:c∉ch:=λz=>(hch c z).2.2.1 x c e rfl
  by_cases hc:c∈X.fs
  ·obtain⟨sl,q⟩:=slot c o (I.cne x c e) hc nch ho (I.freeC x c e);exact⟨_,q,hd⟩
  ·exact⟨o,keep c o (I.cne x c e) hc nch ho (I.freeC x c e),hd⟩
 refine⟨I.ok,I.os,hg,⟨λb o e n hb hx=>?_,λb o e n hb hx=>?_,λb o e n hx=>?_,λb o e hx=>?_,λb xs e=>tups b xs (I.base.tups b xs e),λb o xs e=>frzs b o xs (I.base.frzs b o xs e),λb ps e=>?_⟩,?_,λx c e=>?_,?_,λx c e=>?_,λp hp=>?_,hok,I.len⟩
 ·exact keep b o (neL b o e) hb (neC b o e hx) (I.base.keep b o e n hb hx) (I.base.free b o e n hx)
 ·obtain⟨sl,e1⟩:=I.base.slot b o e n hb hx;obtain⟨sl',e2⟩:=slot b _ (neL b o e) hb (neC b o e hx) e1 (I.base.free b o e n hx);exact⟨sl',e2⟩
 ·obtain⟨o',e1⟩:=I.base.there b o e hx;exact free b o' (neC b o e hx) e1 (I.base.free b o e n hx)
 ·obtain⟨o',e1⟩:=I.base.there b o e hx;exact there b o' (neC b o e hx) e1
 ·obtain⟨m1,e1⟩:=I.base.tbls b ps e;obtain⟨m2,e2⟩:=tbls b _ e1;exact⟨m1++m2,by rw[e2,Array.append_assoc]⟩
 ·obtain⟨m,hn,hl⟩:=I.loc;refine⟨m,ns m hn,λi x v e1 e2 e3=>?_⟩;obtain⟨u,r,l⟩:=hl i x v e1 e2 e3;refine⟨u,r,?_⟩;rcases l with l | ⟨k,c,e,z⟩
  ·exact .inl l
  ·exact .inr ⟨k,c,e,cellK x c e _ z⟩
 ·obtain⟨v,z⟩:=I.cell x c e;exact⟨v,cellK x c e v z⟩
 ·obtain⟨m,⟨o,_,_,ho,_⟩,_⟩:=I.loc;exact free _ o (λz=>(hch _ z).2.1 rfl) ho I.free
 ·obtain⟨v,o,ho,hd⟩:=I.cell x c e;exact free c o (λz=>(hch c z).2.2.1 x c e rfl) ho (I.freeC x c e)
 ·obtain⟨e,n,ne,nf,d⟩:=I.pin p hp;have nch:p.1∉ch:=λz=>(hch p.1 z).2.2.2 p hp rfl
  exact⟨keep p.1 p.2 ne nf nch e n,free p.1 p.2 nch e n,ne,nf,d⟩
theorem Inv.un{t':Nat}(I:Inv X pins σ H s)(u:Un X.fs [] H H' s.heap h')(hok:HOk X.prog X.w H' h'):Inv X pins σ H' {s with heap:=h',toks:=t'}:=by
 obtain⟨m,⟨o,es,ep,ho,r⟩,_⟩:=id I.loc;obtain⟨sl,hL⟩:=u.any ho I.free (by simp);exact I.step (g':=s.gens) (d':=s.drawn) (ch:=[]) (λ_ z=>nomatch z) (λb o _ hb _ e n=>u.keep b o e n hb (by simp)) (λb o _ hb _ e n=>u.slot b o e n hb (by simp)) (λb o _ e n=>u.free b o e n (by simp)) (λb o _ e=>u.there b o e (by simp)) u.tups u.frzs u.tbls (λm' hm=>by
  obtain⟨o',es',ep',ho',r'⟩:=hm;rw[ho]at ho';cases ho';exact⟨_,es',ep',hL,r'⟩) hok I.bare
theorem Inv.call{g':Array GenState}{t':Nat}{d':Drawn}{ch:List Addr}(I:Inv X pins σ H s)(u:Un (frs X.stack) ch H H' s.heap h')(hok:HOk X.prog X.w H' h')(hg:AllBare g')(hch:∀b∈ch,(b∈X.ex\/X.s₀.heap.objs.size<=b)/\b≠X.env.locals/\(∀x c,X.env.cells.lookup x=some c->c≠b)/\∀p∈X.pn++pins,p.1≠b) :
  Inv X pins σ H' {s with heap:=h',gens:=g',drawn:=d',toks:=t'}:=by
 obtain⟨m,⟨o,es,ep,ho,r⟩,_⟩:=id I.loc;obtain⟨sl,hL⟩:=u.any ho I.free λz=>(hch _ z).2.1 rfl
 exact I.step (ch:=ch) hch (λb o hL hb hc e n=>u.keep b o e n (λz=>(qO.mp (I.stkSub b z)).elim hL hb) hc) (λb o _ _ hc e n=>u.any e n hc) (λb o hc e n=>u.free b o e n hc) (λb o hc e=>u.there b o e hc) u.tups u.frzs u.tbls (λm' hm=>by
  obtain⟨o',es',ep',ho',r'⟩:=hm;rw[ho]at ho';cases ho';exact⟨_,es',ep',hL,r'⟩) hok hg
theorem Inv.turned{t':Nat}{it:Addr}(I:Inv X pins σ H s)(k:∀b o,b≠it->s.heap.get? b=some o->h'.get? b=some o)(hn:H it=none)(hL:it≠X.env.locals)(h1:it∈X.ex\/X.s₀.heap.objs.size<=it)(h2:∀x c,X.env.cells.lookup x=some c->c≠it)(h3:∀p∈X.pn++pins,p.1≠it):Inv X pins σ H {s with heap:=h',toks:=t'}:=by
 have nit:∀b u,H b=some u->b≠it:=λb u e z=>by rw[z,hn]at e;cases e
 refine I.step (g':=s.gens) (d':=s.drawn) (ch:=[it]) (λb hb=>?_) (λb o _ _ hc e _=>k b o (λz=>hc (by simp[z])) e) (λb o _ _ hc e _=>⟨o.slots,k b o (λz=>hc (by simp[z])) e⟩) (λ_ _ _ _ n=>n)
  (λb o hc e=>⟨o,k b o (λz=>hc (by simp[z])) e⟩) (λ_ _ e=>e) (λ_ _ _ e=>e) (λb ps e=>⟨#[],by rw[e];simp⟩) (λm hm=>?_) (λb u e=>?_) I.bare
 ·have e:b=it:=by simpa using hb
  subst e;exact⟨h1,hL,h2,h3⟩
 ·obtain⟨o,es,ep,ho,r⟩:=hm;exact⟨o,es,ep,k _ o (Ne.symm hL) ho,r⟩
 ·refine(I.hok b u e).stay (λc v hc q=>k c v ?_ q) (λ_ q=>q) λ_ _ q=>q
  rcases hc with z | z
  ·rw[z];exact nit b u e
  ·exact nit c _ z
theorem Inv.tok(I:Inv X pins σ H s)(t:Nat):Inv X pins σ H {s with toks:=t}:=I.un (h':=s.heap) (t':=t) Un.refl I.hok
theorem Inv.kept{t':Nat}(I:Inv X pins σ H s)(k:∀b u,s.heap.get? b=some u->h'.get? b=some u):Inv X pins σ H {s with heap:=h',toks:=t'}:=I.un (Un.kept k) (I.hok.kept k)
theorem Inv.laid{a:Addr}{o:HO}{t':Nat}(I:Inv X pins σ H s)(k:∀b u,s.heap.get? b=some u->h'.get? b=some u)(hp:s.heap.objs.size<=a)(new:ObjOk X.prog X.w (upd H a o) h' a o) :
  Inv X pins σ (upd H a o) {s with heap:=h',toks:=t'}:=I.un (Un.laid k hp (I.hok.fresh hp)) (I.hok.laid k hp new)
theorem Inv.write{x e:Addr}{o:HO}{t':Nat}(I:Inv X pins σ H s)(mu:Mut (H x))(he:e=x\/H e=some (.own x))(k:∀b u,b≠e->s.heap.get? b=some u->h'.get? b=some u)(heo:∃u,h'.get? e=some u)(new:ObjOk X.prog X.w (upd H x o) h' x o):Inv X pins σ (upd H x o) {s with heap:=h',toks:=t'}:=I.un (Un.write mu he k heo) (I.hok.write mu he k heo new)
theorem Inv.pins_of{pins':List (Addr×Obj)}(I:Inv X pins σ H s)(h:∀p∈pins',s.heap.get? p.1=some p.2/\H p.1=none/\p.1≠X.env.locals/\p.1∉X.fs/\∀v,p.2.data≠.cell v):Inv X pins' σ H s :=
 ⟨I.ok,I.os,I.bare,I.base,I.loc,I.cell,I.free,I.freeC,λp hp=>(qW.mp hp).elim (λz=>I.pin p (xX _ z)) (h p),I.hok,I.len⟩
theorem qg3{N:List Str}(hN:N.Nodup){i j:Nat}{x:Str}(a:N[i]?=some x)(b:N[j]?=some x):i=j:=by
 obtain⟨h1,e1⟩:=qD.mp a;obtain⟨h2,e2⟩:=qD.mp b;exact(List.getElem_inj hN).mp (e1.trans e2.symm)
theorem qfH{M:Model}{A:Around}{E:Value->Shared->Prop}{i:Nat}{x:Str}{v:V}{u:Value}{Q:Unit->Shared->Prop}(I:Inv X pins σ H s)(hN:X.N.Nodup)(hi:X.N[i]?=some x)(hx:Loc X.env.scope x)(r:RelV v u)(h:∀s',Inv X pins (σ.set i (some v)) H s'->(∃a,Heap.SameBut a s.heap s'.heap/\(a=X.env.locals\/X.env.cells.lookup x=some a))->Q () s')(hf:X.fn x=true\/X.env.scope.names.lookup x=some .local:=by first | exact .inl rfl | exact .inr rfl | assumption):wpAny M A (storeName X.env x u) Q E s:=by
 obtain⟨m,hn,hl⟩:=id I.loc;have hcls:(X.env.scope.kind == .class || (X.env.scope.kind == .module && X.env.locals != X.env.globals))=false:=by rw[I.ok.kind];rfl
 have hiσ:i<σ.length:=by rw[I.len];exact(qD.mp hi).1
 have cne:=I.cne;have tracked:∀{a:Addr} {h':Heap},(∃o,s.heap.get? a=some o/\H a=none)->Heap.SameBut a s.heap h'->HOk X.prog X.w H h':=λ{a h'} ha hs b ob e=>by
  obtain⟨_,_,hfree⟩:=ha;refine(I.hok b ob e).stay (λc w' hc q=>(hs.2 c ?_).trans q) (λ_ q=>q) λ_ _ q=>q
  rintro rfl;rcases hc with rfl | hc
  ·rw[hfree]at e;cases e
  ·rw[hfree]at hc;cases hc
 rcases hx with hk | hk
 ·refine wpAny_storeName_local hk hn (λh' hn' hs=>?_) hcls;obtain⟨oL,_,_,hoL,_⟩:=id hn;refine h _ ⟨I.ok,I.os,I.bare,⟨λb o e n hb hx=>?_,λb o e n hb hx=>?_,I.base.free,λb o e hx=>?_,I.base.tups,I.base.frzs,I.base.tbls⟩,⟨_,hn',λj y v' e1 e2 e3=>?_⟩,λy c e=>?_,I.free,I.freeC,λp hp=>?_,tracked ⟨oL,hoL,I.free⟩ hs,by simpa using I.len⟩ ⟨_,hs,.inl rfl⟩
  ·exact(hs.2 b (rP (qX (qU e) I.ok.above))).trans (I.base.keep b o e n hb hx)
  ·obtain⟨sl,e1⟩:=I.base.slot b o e n hb hx;exact⟨sl,(hs.2 b (rP (qX (qU e) I.ok.above))).trans e1⟩
  ·obtain⟨o',e1⟩:=I.base.there b o e hx;exact⟨o',(hs.2 b (rP (qX (qU e) I.ok.above))).trans e1⟩
  ·by_cases hj:j=i
   ·subst hj;rw[hi]at e1;cases e1;rw[List.getElem?_set_self hiσ]at e2;cases e2;exact⟨u,r,.inl ⟨hk,by simp⟩⟩
   ·rw[List.getElem?_set_ne (Ne.symm hj)]at e2;obtain⟨u',r',q⟩:=hl j y v' e1 e2 e3;refine⟨u',r',?_⟩;rcases q with⟨k,e⟩ | ⟨k,c,e,z⟩
    ·refine .inl ⟨k,?_⟩;have:y≠x:=λe=>hj (qg3 hN e1 (e ▸ hi))
     simp[this,e]
    ·exact .inr ⟨k,c,e,z.sameBut hs (cne y c e)⟩
  ·obtain⟨w',z⟩:=I.cell y c e;exact⟨w',z.sameBut hs (cne y c e)⟩
  ·obtain⟨e,n,ne,nf,d⟩:=I.pin p hp;exact⟨(hs.2 p.1 ne).trans e,n,ne,nf,d⟩
 ·have hfn:X.fn x=true:=by
   rcases hf with z | z
   ·exact z
   ·rw[z]at hk;cases hk
  obtain⟨c,hc⟩:=I.ok.has x (.inl hk);obtain⟨w',z⟩:=I.cell x c hc;refine wpAny_storeName_cell I.ok.kind hk hc z (λh' hc' hs=>?_);obtain⟨oc,hoc,hocd⟩:=id z;refine h {s with heap:=h'} ⟨I.ok,I.os,I.bare,⟨λb o e n hb hx=>?_,λb o e n hb hx=>?_,I.base.free,λb o e hx=>?_,I.base.tups,I.base.frzs,I.base.tbls⟩,⟨m,hn.sameBut hs (Ne.symm (cne x c hc)),λj y v' e1 e2 e3=>?_⟩,λy c' e=>?_,I.free,I.freeC,λp hp=>?_,tracked ⟨oc,hoc,I.freeC x c hc⟩ hs,by simpa using I.len⟩ ⟨c,hs,.inr hc⟩
  ·exact(hs.2 b (rP (qX (qU e) (I.ok.cab x c hfn hc)))).trans (I.base.keep b o e n hb hx)
  ·obtain⟨sl,e1⟩:=I.base.slot b o e n hb hx;exact⟨sl,(hs.2 b (rP (qX (qU e) (I.ok.cab x c hfn hc)))).trans e1⟩
  ·obtain⟨o',e1⟩:=I.base.there b o e hx;exact⟨o',(hs.2 b (rP (qX (qU e) (I.ok.cab x c hfn hc)))).trans e1⟩
  ·by_cases hj:j=i
   ·subst hj;rw[hi]at e1;cases e1;rw[List.getElem?_set_self hiσ]at e2;cases e2;exact⟨u,r,.inr ⟨.inl hk,c,hc,hc'⟩⟩
   ·rw[List.getElem?_set_ne (Ne.symm hj)]at e2;obtain⟨u',r',q⟩:=hl j y v' e1 e2 e3;refine⟨u',r',?_⟩;rcases q with q | ⟨k,c',e,z'⟩
    ·exact .inl q
    ·refine .inr ⟨k,c',e,z'.sameBut hs ?_⟩;rintro rfl;exact hj (qg3 hN e1 (I.ok.inj _ _ _ e hc ▸ hi))
  ·by_cases hcc:c'=c
   ·subst hcc;exact⟨_,hc'⟩
   ·obtain⟨w2,z2⟩:=I.cell y c' e;exact⟨w2,z2.sameBut hs hcc⟩
  ·obtain⟨e,n,ne,nf,d⟩:=I.pin p hp;refine⟨(hs.2 p.1 ?_).trans e,n,ne,nf,d⟩;intro q;rw[q,hoc]at e;have q':oc=p.2:=rD e;exact d w' (by rw[<-q'];exact hocd)
theorem qe4{M:Model}{A:Around}{E:Value->Shared->Prop}{i:Nat}{x:Str}{v:V}{u:Value}{Q:Unit->Shared->Prop}(I:Inv X pins σ H s)(hN:X.N.Nodup)(hi:X.N[i]?=some x)(hx:Loc X.env.scope x)(r:RelV v u)(h:∀s',Inv X pins (σ.set i (some v)) H s'->Q () s')(hf:X.fn x=true\/X.env.scope.names.lookup x=some .local:=by first | exact .inl rfl | exact .inr rfl | assumption):wpAny M A (storeName X.env x u) Q E s :=
 qfH I hN hi hx r (λs' I' _=>h s' I') hf
theorem Inv.call'{s':Shared}{ch:List Addr}(I:Inv X pins σ H s)(ho:s'.os=s.os)(u:Un (frs X.stack) ch H H' s.heap s'.heap)(hok:HOk X.prog X.w H' s'.heap)(hg:AllBare s'.gens)(hch:∀b∈ch,(b∈X.ex\/X.s₀.heap.objs.size<=b)/\b≠X.env.locals/\(∀x c,X.env.cells.lookup x=some c->c≠b)/\∀p∈X.pn++pins,p.1≠b):Inv X pins σ H' s':=by
 obtain⟨h',g',d',t',o'⟩:=s';have e:o'=s.os:=ho;subst e;exact I.call (g':=g') (t':=t') (d':=d') u hok hg hch
end
abbrev XK:=Value->Option Addr->Hp->Prop
abbrev St:=List (Option V)
abbrev VK:=V->Hp->Prop
abbrev TE:=St->Hp->VK->Prop
abbrev TT:=St->Hp->(Bool->Hp->Prop)->Prop
abbrev TA:=St->Hp->(List V->Hp->Prop)->Prop
structure Ends where
 nx:St->Hp->Prop
 rt:VK
 bk:St->Hp->Prop:=λ_ _=>False
 ct:St->Hp->Prop:=λ_ _=>False
abbrev TS:=Ends->St->Hp->Prop
def EP(X:Cx)(pins:List (Addr×Obj))(σ:St)(Q:VK)(u:Value)(s':Shared):Prop:=∃v H',Inv X pins σ H' s'/\RelV v u/\Q v H'
def TP(X:Cx)(pins:List (Addr×Obj))(σ:St)(Q:Bool->Hp->Prop)(b:Bool)(s':Shared):Prop:=∃H',Inv X pins σ H' s'/\Q b H'
def AP(X:Cx)(pins:List (Addr×Obj))(σ:St)(Q:List V->Hp->Prop)(us:List Value)(s':Shared):Prop:=∃vs H',Inv X pins σ H' s'/\Vals vs us/\Q vs H'
def SP(X:Cx)(pins:List (Addr×Obj))(D:Ends)(f:Flow)(s':Shared):Prop :=
 match f with
 | .next=>∃σ' H',Inv X pins σ' H' s'/\D.nx σ' H'
 | .brk=>∃σ' H',Inv X pins σ' H' s'/\D.bk σ' H'
 | .cont=>∃σ' H',Inv X pins σ' H' s'/\D.ct σ' H'
 | .ret u=>∃v σ' H',Inv X pins σ' H' s'/\RelV v u/\D.rt v H'
def PE(X:Cx)(e:Expr)(t:TE):Prop :=
 ∀(pins:List (Addr×Obj)) (s:Shared) (σ:St) (H:Hp) (Q:VK),Inv X pins σ H s->t σ H Q->wpAny (model X.prog X.w) X.A (eval e X.env) (EP X pins σ Q) X.xe s
def PT(X:Cx)(e:Expr)(t:TT):Prop :=
 ∀(pins:List (Addr×Obj)) (s:Shared) (σ:St) (H:Hp) (Q:Bool->Hp->Prop),Inv X pins σ H s->t σ H Q->wpAny (model X.prog X.w) X.A (isTrue e X.env (eval e X.env)) (TP X pins σ Q) X.xe s
def PW(X:Cx)(e:Expr)(t:TT):Prop :=
 ∀(whole:Sem Value) (pins:List (Addr×Obj)) (s:Shared) (σ:St) (H:Hp) (Q:Bool->Hp->Prop),Inv X pins σ H s->t σ H Q->wpAny (model X.prog X.w) X.A (isTrue e X.env whole) (TP X pins σ Q) X.xe s
theorem PW.pt{X:Cx}{e:Expr}{t:TT}(h:PW X e t):PT X e t:=h _
def PA(X:Cx)(es:List Expr)(t:TA):Prop :=
 ∀(pos:Pos) (pins:List (Addr×Obj)) (s:Shared) (σ:St) (H:Hp) (Q:List V->Hp->Prop),Inv X pins σ H s->t σ H Q->wpAny (model X.prog X.w) X.A (spliced (backTo pos (starEach es X.env))) (AP X pins σ Q) X.xe s
def PS(X:Cx)(st:Stmt)(t:TS):Prop :=
 ∀(pins:List (Addr×Obj)) (s:Shared) (σ:St) (H:Hp) (D:Ends),Inv X pins σ H s->t D σ H->wpAny (model X.prog X.w) X.A (exec st X.env) (SP X pins D) X.xe s
def PSs(X:Cx)(st:List Stmt)(t:TS):Prop :=
 ∀(pins:List (Addr×Obj)) (s:Shared) (σ:St) (H:Hp) (D:Ends),Inv X pins σ H s->t D σ H->wpAny (model X.prog X.w) X.A (execs st X.env) (SP X pins D) X.xe s
theorem thn{α:Type}{t:Sem α}{Q Q':α->Shared->Prop}{M:Model}{A:Around}{E:Value->Shared->Prop}{s:Shared}(h:wpAny M A t Q E s)(hQ:∀a s,Q a s->Q' a s):wpAny M A t Q' E s:=xJ h hQ λ_ _ x=>x
section
variable{X:Cx}
def tVar(i:Nat):TE:=λσ H Q=>∃v,σ[i]?=some (some v)/\Q v H
def tC(v:V):TE:=λ_ H Q=>Q v H
theorem pe_var{i:Nat}{x:Str}{pos:Pos}(hN:X.N[i]?=some x)(hv:Vis X.env.scope x)(hd:(x == ("__debug__" : Str))=false:=by decide)(hcd:(x == ("__classdict__" : Str))=false:=by decide):PE X (.Name x pos) (tVar i):=by
 intro pins s σ H Q I h;obtain⟨v,e,h⟩:=h;obtain⟨m,hn,hl⟩:=I.loc;obtain⟨u,r,l⟩:=hl i x v hN e hv;have fin:EP X pins σ Q u s:=⟨v,H,I,r,h⟩;rcases l with⟨hk,hm⟩ | ⟨hk,c,hc,hcell⟩
 ·exact wpAny_Name (wpAny_loadName_local I.ok.kind hk hn hm fin) hd
 ·rcases hk with hk | hk
  ·exact wpAny_Name (wpAny_loadName_cell I.ok.kind hk hc hcell fin) hd
  ·exact wpAny_Name (wpAny_loadName_free I.ok.kind hk hc hcell fin hcd) hd
theorem qag{i j pos}:PE X (.Constant (.int i) j pos) (tC (.int i)):=λ_ _ _ H _ I h=>wpAny_Constant_int ⟨.int i,H,I.tok _,⟨_,rfl⟩,h⟩
theorem qdP{b j pos}:PE X (.Constant (.bool b) j pos) (tC (.bl b)):=λ_ _ _ H _ I h=>Constant_bool ⟨.bl b,H,I,rfl,h⟩
theorem qes{j pos}:PE X (.Constant .none j pos) (tC .non):=λ_ _ _ H _ I h=>Constant_none ⟨.non,H,I,rfl,h⟩
theorem qah{x j pos}:PE X (.Constant (.str x) j pos) (tC (.str x)):=λ_ _ _ H _ I h=>Calls.Constant_str ⟨.str x,H,I.tok _,⟨_,rfl⟩,h⟩
def Gl(X:Cx)(x:Str):Prop:=X.env.kindOf x=some .globalImplicit
theorem qfp{E:Value->Shared->Prop}{pins:List (Addr×Obj)}{s:Shared}{σ:St}{H:Hp}{x:Str}{u:Value}{pos:Pos}{Q:Value->Shared->Prop}(I:Inv X pins σ H s)(hg:Gl X x)(hm:X.mg x=some u)(h:Q u s)(hd:(x == ("__debug__" : Str))=false:=by decide):wpAny (model X.prog X.w) X.A (eval (.Name x pos) X.env) Q E s :=
 Calls.Name_function_global I.ok.kind hg (Calls.loadGlobal_global (by rw[I.ok.glob];exact I.mod.glob.keeps I.bk) hm h) hd
theorem qdR{E:Value->Shared->Prop}{pins:List (Addr×Obj)}{s:Shared}{σ:St}{H:Hp}{x:Str}{u:Value}{pos:Pos}{Q:Value->Shared->Prop}(I:Inv X pins σ H s)(hg:Gl X x)(hm:X.mg x=none)(hv:bootBuiltins x=some u)(h:Q u s)(hn:x ≠ "__name__":=by decide)(hd:(x == ("__debug__" : Str))=false:=by decide):wpAny (model X.prog X.w) X.A (eval (.Name x pos) X.env) Q E s:=by
 obtain⟨mb,h1,h2⟩:=I.mod.blt;exact Calls.Name_function_global I.ok.kind hg (Calls.loadGlobal_builtin (by rw[I.ok.glob];exact I.mod.glob.keeps I.bk) hm (by rw[I.ok.blt];exact h1.keeps I.bk) ((h2 x hn).trans hv) h) hd
theorem qae{x:Str}{v:V}{u:Value}{pos:Pos}(hg:Gl X x)(hm:X.mg x=some u)(r:RelV v u)(hd:(x == ("__debug__" : Str))=false:=by decide):PE X (.Name x pos) (tC v) :=
 λ_ _ _ H _ I h=>qfp I hg hm ⟨v,H,I,r,h⟩ hd
theorem pe_bltn{x:Str}{v:V}{u:Value}{pos:Pos}(hg:Gl X x)(hm:X.mg x=none)(hv:bootBuiltins x=some u)(r:RelV v u)(hn:x ≠ "__name__":=by decide)(hd:(x == ("__debug__" : Str))=false:=by decide):PE X (.Name x pos) (tC v) :=
 λ_ _ _ H _ I h=>qdR I hg hm hv ⟨v,H,I,r,h⟩ hn hd
variable{a b:Expr}{ta tb:TE}{pos:Pos}
def PC(X:Cx)(op:CmpOp)(a b:Expr)(t:TE):Prop :=
 ∀(pins:List (Addr×Obj)) (s:Shared) (σ:St) (H:Hp) (Q:VK),Inv X pins σ H s->t σ H Q ->
  wpAny (model X.prog X.w) X.A (eval a X.env) (λv s₁=>wpAny (model X.prog X.w) X.A (eval b X.env) (λu s₂=>wpAny (model X.prog X.w) X.A (compareOp op v u) (EP X pins σ Q) X.xe s₂) X.xe s₁) X.xe s
theorem nobehind(b:Expr){op:CmpOp}(h:op≠.In)(h2:op≠.NotIn):behindInMarks op b=false:=by
 have e1:(op == CmpOp.In)=false:=by cases op<;>first | rfl | exact absurd rfl h
 have e2:(op == CmpOp.NotIn)=false:=by cases op<;>first | rfl | exact absurd rfl h2
 cases b<;>simp[behindInMarks,e1,e2]
def tIsN(ta:TE):TE:=λσ H Q=>ta σ H λx H1=>Q (.bl (decide (x=.non))) H1
theorem RelV.none_iff{x:V}{v:Value}(r:RelV x v):(v == Value.none)=decide (x=.non):=by
 cases x with
 | non=>cases r;rfl
 | bl _=>cases r;rfl
 | int _=>obtain⟨t,rfl⟩:=r;rfl
 | str _=>obtain⟨t,rfl⟩:=r;rfl
 | byt _=>obtain⟨t,rfl⟩:=r;rfl
 | flt _=>obtain⟨t,rfl⟩:=r;rfl
 | ref _=>cases r;rfl
 | ty _=>cases r;rfl
theorem qiw{j pos'}(ha:PE X a ta):PC X .Is a (.Constant .none j pos') (tIsN ta):=by
 intro pins s σ H Q I h;refine thn (ha pins s σ H _ I h) λv s1 ⟨x,H1,I1,r1,q1⟩=>?_
 exact Constant_none (is_none_gen ⟨.bl _,H1,I1,by rw[r1.none_iff];rfl,q1⟩)
def tB(t:TE):TT:=λσ H Q=>t σ H λx H1=>∃c,x=.bl c/\Q c H1
theorem qiI{op:CmpOp}{t:TE}(h:PC X op a b t)(h1:behindInMarks op b=false:=by first | exact nobehind _ (by decide) (by decide) | rfl):PT X (.Compare a [op] [b] pos) (tB t):=by
 intro pins s σ H Q I hw;refine wpAny_isTrue_Compare1 (thn (h pins s σ H _ I hw) λv s1 h1=>thn h1 λu s2 h2=>thn h2 λc s3 ⟨x,H1,I1,r1,q1⟩=>?_) h1;obtain⟨d,rfl,q⟩:=q1;cases r1;exact xV ⟨H1,I1,q⟩
theorem qaZ{e:Expr}{t:TE}(h:PE X e t)(he:∀ whole,isTrue e X.env whole=(do let v <- whole; standAt e.pos; holding [v] (truthy v)):=by intro _; rfl):PT X e (tB t):=by
 intro pins s σ H Q I hw
 refine isTrue_plain (thn (h pins s σ H _ I hw) λv s1 ⟨x,H1,I1,r1,q1⟩=>?_) (he _)
 obtain ⟨d,rfl,q⟩:=q1
 cases r1
 exact xV ⟨H1,I1,q⟩
variable{tA tB':TT}{rest:List Expr}
def tAnd(t u:TT):TT:=λσ H Q=>t σ H λc H1=>if c=true then u σ H1 Q else Q false H1
def tOr(t u:TT):TT:=λσ H Q=>t σ H λc H1=>if c=true then Q true H1 else u σ H1 Q
def tNot(t:TT):TT:=λσ H Q=>t σ H λc H1=>Q (!c) H1
theorem qbZ(ha:PT X a tA):PW X (.BoolOp .And [a] pos) tA:=by
 intro wh pins s σ H Q I h;refine isTrue_and (thn (ha pins s σ H Q I h) λc s1 e=>?_);cases c with
 | true=>exact isTrue_and_nil e
 | false=>exact e
theorem qcr(ha:PT X a tA):PW X (.BoolOp .Or [a] pos) tA:=by
 intro wh pins s σ H Q I h;refine isTrue_or (thn (ha pins s σ H Q I h) λc s1 e=>?_);cases c with
 | false=>exact isTrue_or_nil e
 | true=>exact e
theorem qcH(ha:PT X a tA)(hb:PW X (.BoolOp .And (b::rest) pos) tB'):PW X (.BoolOp .And (a::b::rest) pos) (tAnd tA tB'):=by
 intro wh pins s σ H Q I h;refine isTrue_and (thn (ha pins s σ H _ I h) λc s1 ⟨H1,I1,q1⟩=>?_);cases c with
 | true=>exact hb wh pins s1 σ H1 Q I1 q1
 | false=>exact⟨H1,I1,q1⟩
theorem qdv(ha:PT X a tA)(hb:PW X (.BoolOp .Or (b::rest) pos) tB'):PW X (.BoolOp .Or (a::b::rest) pos) (tOr tA tB'):=by
 intro wh pins s σ H Q I h;refine isTrue_or (thn (ha pins s σ H _ I h) λc s1 ⟨H1,I1,q1⟩=>?_);cases c with
 | true=>exact⟨H1,I1,q1⟩
 | false=>exact hb wh pins s1 σ H1 Q I1 q1
theorem qbj(ha:PT X a tA):PT X (.UnaryOp .Not a pos) (tNot tA):=by
 intro pins s σ H Q I h;exact isTrue_not (ha pins s σ H (λc H1=>Q (!c) H1) I h)
def tAndV(ta tb:TE):TE:=λσ H Q=>ta σ H λx H1=>∃c,x=.bl c/\if c=true then tb σ H1 Q else Q (.bl false) H1
def tOrV(ta tb:TE):TE:=λσ H Q=>ta σ H λx H1=>∃c,x=.bl c/\if c=true then Q (.bl true) H1 else tb σ H1 Q
def tNotV(ta:TE):TE:=λσ H Q=>ta σ H λx H1=>∃c,x=.bl c/\Q (.bl (!c)) H1
theorem qda{op}{t:TE}(h:PE X a t):PE X (.BoolOp op [a] pos) t:=λpins s σ H Q I hw=>BoolOp_one (h pins s σ H Q I hw)
theorem qdY(ha:PE X a ta)(hb:PE X (.BoolOp .And (b::rest) pos) tb):PE X (.BoolOp .And (a::b::rest) pos) (tAndV ta tb):=by
 intro pins s σ H Q I h;refine BoolOp_and (thn (ha pins s σ H _ I h) λv s1 ⟨x,H1,I1,r1,q1⟩=>?_);obtain⟨c,rfl,q1⟩:=q1;cases r1;refine xV ?_;cases c with
 | true=>exact hb pins s1 σ H1 Q I1 q1
 | false=>exact⟨.bl false,H1,I1,rfl,q1⟩
theorem qhJ(ha:PE X a ta)(hb:PE X (.BoolOp .Or (b::rest) pos) tb):PE X (.BoolOp .Or (a::b::rest) pos) (tOrV ta tb):=by
 intro pins s σ H Q I h;refine BoolOp_or (thn (ha pins s σ H _ I h) λv s1 ⟨x,H1,I1,r1,q1⟩=>?_);obtain⟨c,rfl,q1⟩:=q1;cases r1;refine xV ?_;cases c with
 | false=>exact hb pins s1 σ H1 Q I1 q1
 | true=>exact⟨.bl true,H1,I1,rfl,q1⟩
theorem pe_not(ha:PE X a ta):PE X (.UnaryOp .Not a pos) (tNotV ta):=by
 intro pins s σ H Q I h;refine UnaryOp_ (thn (ha pins s σ H _ I h) λv s1 ⟨x,H1,I1,r1,q1⟩=>?_);obtain⟨c,rfl,q1⟩:=q1;cases r1;exact not_of (xV ⟨.bl (!c),H1,I1,rfl,q1⟩)
def tIf(t:TT)(ta tb:TE):TE:=λσ H Q=>t σ H λc H1=>if c=true then ta σ H1 Q else tb σ H1 Q
theorem qch{c:Expr}(hc:PT X c tA)(ha:PE X a ta)(hb:PE X b tb):PE X (.IfExp c a b pos) (tIf tA ta tb):=by
 intro pins s σ H Q I h;refine wpAny_IfExp (thn (hc pins s σ H _ I h) λd s1 ⟨H1,I1,q1⟩=>?_);cases d with
 | true=>exact ha pins s1 σ H1 Q I1 q1
 | false=>exact hb pins s1 σ H1 Q I1 q1
end
def SqL(K:W.Frag)(H:Hp)(a:Addr)(xs:List V):Prop :=
 Rd H a (.lst xs) \/
  ∃(o:Obj) (its:Array Value) (n:Nat),K.lookup a=some o/\o.cls=.type "list" /\ o.dict=none/\o.data=.seq its n/\its.size<=sizeLine/\Vals xs its.toList
def SqT(K:W.Frag)(H:Hp)(a:Addr)(xs:List V):Prop :=
 Rd H a (.tup xs) \/
  ∃(o:Obj) (its:Array Value) (n:Nat),K.lookup a=some o/\o.cls=.type "tuple" /\ o.data=.seq its n/\its.size<=sizeLine/\Vals xs its.toList
def absV:Value->Option V
 | .none=>some .non
 | .bool b=>some (.bl b)
 | .int i _=>some (.int i)
 | .str x _=>some (.str x)
 | .bytes b _=>some (.byt b)
 | .float b _=>some (.flt b)
 | .ref a=>some (.ref a)
 | .type n=>some (.ty n)
 | _=>none
theorem RelV.abs{x:V}{u:Value}(r:RelV x u):absV u=some x:=by
 cases x with
 | non=>cases r;rfl
 | bl _=>cases r;rfl
 | int _=>obtain⟨t,rfl⟩:=r;rfl
 | str _=>obtain⟨t,rfl⟩:=r;rfl
 | byt _=>obtain⟨t,rfl⟩:=r;rfl
 | flt _=>obtain⟨t,rfl⟩:=r;rfl
 | ref _=>cases r;rfl
 | ty _=>cases r;rfl
theorem RelV.inj{x y:V}{u:Value}(r:RelV x u)(q:RelV y u):x=y:=rD (r.abs.symm.trans q.abs)
theorem Vals.inj:∀{xs ys:List V} {us:List Value},Vals xs us->Vals ys us->xs=ys
 | _,_,_,.nil,.nil=>rfl
 | _,_,_,.cons r t,.cons r' t'=>by rw[r.inj r',Vals.inj t t']
section
variable{X:Cx}{pins:List (Addr×Obj)}{σ:St}{H:Hp}{s:Shared}{a:Addr}{xs ys:List V}
theorem SqL.of{K:W.Frag}(h:H a=some (.lst xs)):SqL K H a xs:=.inl (.inl h)
theorem SqT.of{K:W.Frag}(h:H a=some (.tup xs)):SqT K H a xs:=.inl (.inl h)
theorem Inv.list(I:Inv X pins σ H s)(h:SqL X.K H a xs):∃its:List Value,Vals xs its/\PlainL s.heap a its.toArray/\xs.length<=sizeLine:=by
 rcases h with h | ⟨o,its,n,hk,hc,hd,hs,hz,r⟩
 ·obtain⟨z,its,n,r,e⟩:=h.ok I.hok;exact⟨its,r,⟨_,n,e,rfl,rfl,rfl⟩,z⟩
 ·refine⟨its.toList,r,⟨o,n,I.kIn a o hk,hc,hd,by simpa using hs⟩,?_⟩;have e:=r.length;simp only[Array.length_toList]at e;omega
theorem Inv.tuple(I:Inv X pins σ H s)(h:SqT X.K H a xs):∃its:List Value,Vals xs its/\IsTup s.heap a its.toArray/\xs.length<=sizeLine:=by
 rcases h with h | ⟨o,its,n,hk,hc,hs,hz,r⟩
 ·obtain⟨z,its,r,p⟩:=h.ok I.hok;exact⟨its,r,p,z⟩
 ·refine⟨its.toList,r,⟨o,I.kIn a o hk,hc,n,by simpa using hs⟩,?_⟩;have e:=r.length;simp only[Array.length_toList]at e;omega
theorem Inv.list_inj(I:Inv X pins σ H s)(h:SqL X.K H a xs)(h':SqL X.K H a ys):xs=ys:=by
 obtain⟨its,r,⟨o,n,e,_,_,d⟩,_⟩:=I.list h;obtain⟨its',r',⟨o',n',e',_,_,d'⟩,_⟩:=I.list h';rw[e]at e';cases e';rw[d]at d';injection d' with d1 _
 have:its=its':=by simpa using xO Array.toList d1
 subst this;exact r.inj r'
end
abbrev Cx.wish(X:Cx)(E:Value->Shared->Prop):Cx:={X with xe:=E}
abbrev Cx.nox(X:Cx):Cx:=X.wish λ_ _=>False
theorem Cx.Ok.wish{X:Cx}(ok:X.Ok)(E:Value->Shared->Prop):(X.wish E).Ok :=
 ⟨ok.mod,ok.kind,ok.glob,ok.blt,ok.above,ok.inj,ok.has,ok.cab,ok.hd,ok.frames,ok.stk,ok.exf,ok.bs,ok.bsz,ok.noex,ok.exfs,ok.funs,ok.frf⟩
theorem Cx.Ok.unwish{X:Cx}{E:Value->Shared->Prop}(ok:(X.wish E).Ok):X.Ok :=
 ⟨ok.mod,ok.kind,ok.glob,ok.blt,ok.above,ok.inj,ok.has,ok.cab,ok.hd,ok.frames,ok.stk,ok.exf,ok.bs,ok.bsz,ok.noex,ok.exfs,ok.funs,ok.frf⟩
section
variable{X:Cx}{pins:List (Addr×Obj)}{σ:St}{H:Hp}{s:Shared}{E:Value->Shared->Prop}
theorem Inv.wish(I:Inv X pins σ H s)(E:Value->Shared->Prop):Inv (X.wish E) pins σ H s:=⟨I.ok.wish E,I.os,I.bare,I.base,I.loc,I.cell,I.free,I.freeC,I.pin,I.hok,I.len⟩
theorem Inv.unwish(I:Inv (X.wish E) pins σ H s):Inv X pins σ H s:=⟨I.ok.unwish,I.os,I.bare,I.base,I.loc,I.cell,I.free,I.freeC,I.pin,I.hok,I.len⟩
theorem SP.unwish{D:Ends}{f:Flow}{s':Shared}(h:SP (X.wish E) pins D f s'):SP X pins D f s':=by
 cases f with
 | next=>obtain⟨σ',H',I,q⟩:=h;exact⟨σ',H',I.unwish,q⟩
 | brk=>obtain⟨σ',H',I,q⟩:=h;exact⟨σ',H',I.unwish,q⟩
 | cont=>obtain⟨σ',H',I,q⟩:=h;exact⟨σ',H',I.unwish,q⟩
 | ret u=>obtain⟨v,σ',H',I,r,q⟩:=h;exact⟨v,σ',H',I.unwish,r,q⟩
theorem PSs.nox{st:List Stmt}{t:TS}(h:PSs X.nox st t):PSs X st t:=λpins s σ H D I hw =>
 xJ (h pins s σ H D (I.wish _) hw) (λ_ _ q=>q.unwish) λ_ _ z=>False.elim z
end
section
variable{X:Cx}{st:Stmt}{rest:List Stmt}{t u:TS}{e:Expr}{te:TE}{pos:Pos}
def tNext:TS:=λD σ H=>D.nx σ H
def tSeq(t u:TS):TS:=λD σ H=>t {D with nx:=u D} σ H
theorem pss_nil:PSs X [] tNext:=λ_ _ σ H _ I h=>vN ⟨σ,H,I,h⟩
theorem qab(h1:PS X st t)(h2:PSs X rest u):PSs X (st::rest) (tSeq t u):=by
 intro pins s σ H D I h;refine wpAny_execs_cons (thn (h1 pins s σ H {D with nx:=u D} I h) λf s1 q=>?_);cases f with
 | next =>
   obtain⟨σ',H',I',q⟩:=q
   exact h2 pins s1 σ' H' D I' q
 | ret v=>exact q
 | brk=>exact q
 | cont=>exact q
theorem qad(h1:PS X st t):PSs X [st] t:=by
 intro pins s σ H D I h;refine wpAny_execs_cons (thn (h1 pins s σ H D I h) λf s1 q=>?_);cases f with
 | next=>exact vN q
 | ret v=>exact q
 | brk=>exact q
 | cont=>exact q
theorem Inv.quiet{pins:List (Addr×Obj)}{σ:St}{H:Hp}{s:Shared}(I:Inv X pins σ H s):interactive X.env=false:=by simp[interactive,I.ok.kind]
def tDrop(te:TE):TS:=λD σ H=>te σ H λ_ H1=>D.nx σ H1
theorem qaS(he:PE X e te)(hs:swapsWith e none pos.line X.env=pure false:=by rfl):PS X (.Expr e pos) (tDrop te):=by
 intro pins s σ H D I h;exact wpAny_Expr_any (thn (he pins s σ H _ I h) λv s1 ⟨x,H1,I1,r1,q1⟩=>⟨σ,H1,I1,q1⟩) I.quiet hs
def tRet(te:TE):TS:=λD σ H=>te σ H D.rt
theorem qai(he:PE X e te):PS X (.Return (some e) pos) (tRet te):=by
 intro pins s σ H D I h;exact wpAny_Return_some (thn (he pins s σ H _ I h) λv s1 ⟨x,H1,I1,r1,q1⟩=>⟨x,σ,H1,I1,r1,q1⟩)
def tIfS(c:TT)(t u:TS):TS:=λD σ H=>c σ H λb H1=>if b=true then t D σ H1 else u D σ H1
theorem qaH{c:Expr}{a b:List Stmt}{tc:TT}(hc:PT X c tc)(ha:PSs X a t)(hb:PSs X b u):PS X (.If c a b pos) (tIfS tc t u):=by
 intro pins s σ H D I h;refine wpAny_If (thn (hc pins s σ H _ I h) λd s1 ⟨H1,I1,q1⟩=>?_);cases d with
 | true=>exact ha pins s1 σ H1 D I1 q1
 | false=>exact hb pins s1 σ H1 D I1 q1
end
abbrev TG:=V->St->Hp->(St->Hp->Prop)->Prop
abbrev TGs:=List V->St->Hp->(St->Hp->Prop)->Prop
def PG(X:Cx)(target:Expr)(t:TG):Prop :=
 ∀(pins:List (Addr×Obj)) (s:Shared) (σ:St) (H:Hp) (v:V) (u:Value) (Q:St->Hp->Prop),Inv X pins σ H s->RelV v u->t v σ H Q ->
  wpAny (model X.prog X.w) X.A (assign target X.env u) (λ_ s'=>∃σ' H',Inv X pins σ' H' s'/\Q σ' H') X.xe s
def PGs(X:Cx)(ts:List Expr)(t:TGs):Prop :=
 ∀(pins:List (Addr×Obj)) (s:Shared) (σ:St) (H:Hp) (vs:List V) (us:List Value) (Q:St->Hp->Prop),Inv X pins σ H s->Vals vs us->t vs σ H Q ->
  wpAny (model X.prog X.w) X.A (assignInOrder ((assignEach ts X.env).map (·.2)) us) (λ_ s'=>∃σ' H',Inv X pins σ' H' s'/\Q σ' H') X.xe s
abbrev TSet:=V->V->V->Hp->(Hp->Prop)->Prop
def PSet(X:Cx)(t:TSet):Prop :=
 ∀(pins:List (Addr×Obj)) (s:Shared) (σ:St) (H:Hp) (o i v:V) (ov iv u:Value) (Q:Hp->Prop),Inv X pins σ H s->RelV o ov->RelV i iv->RelV v u->t o i v H Q ->
  wpAny (model X.prog X.w) X.A (setItem ov iv u) (λ_ s'=>∃H',Inv X pins σ H' s'/\Q H') X.xe s
abbrev TIp:=V->V->Hp->VK->Prop
def PIp(X:Cx)(op:Operator)(t:TIp):Prop :=
 ∀(pins:List (Addr×Obj)) (s:Shared) (σ:St) (H:Hp) (x y:V) (v u:Value) (Q:VK),Inv X pins σ H s->RelV x v->RelV y u->t x y H Q ->
  wpAny (model X.prog X.w) X.A (inplaceOp op v u) (EP X pins σ Q) X.xe s
section
variable{X:Cx}{pos:Pos}
def qcq(i:Nat):TG:=λv σ H Q=>Q (σ.set i (some v)) H
theorem qaw{i:Nat}{x:Str}(hN:X.N.Nodup)(hi:X.N[i]?=some x)(hx:Loc X.env.scope x)(hf:X.fn x=true\/X.env.scope.names.lookup x=some .local:=by first | exact .inl rfl | exact .inr rfl | assumption):PG X (.Name x pos) (qcq i):=by
 intro pins s σ H v u Q I r h;exact wpAny_assign_Name (qe4 I hN hi hx r (λs' I'=>⟨_,H,I',h⟩) hf)
def gNil:TGs:=λvs σ H Q=>vs=[]/\Q σ H
def gCons(t:TG)(u:TGs):TGs:=λvs σ H Q=>∃v r,vs=v::r/\t v σ H λσ' H'=>u r σ' H' Q
theorem pgs_nil:PGs X [] gNil:=by
 intro pins s σ H vs us Q I r h;obtain⟨e,h⟩:=h;subst e;cases r;exact assignInOrder_nil ⟨σ,H,I,h⟩
theorem qa1{e:Expr}{es:List Expr}{t:TG}{u:TGs}(h1:PG X e t)(h2:PGs X es u)(hs:(assignEach (e::es) X.env).map (·.2)=assign e X.env::(assignEach es X.env).map (·.2):=by rfl):PGs X (e::es) (gCons t u):=by
 intro pins s σ H vs us Q I r h;obtain⟨v,vr,e1,h⟩:=h;subst e1;cases r with
 | cons r rr =>
   rw[hs]
   refine assignInOrder_cons (thn (h1 pins s σ H _ _ _ I r h) λ_ s1 ⟨σ1,H1,I1,q1⟩=>?_)
   exact h2 pins s1 σ1 H1 _ _ Q I1 rr q1
def gTup(K:W.Frag)(n:Nat)(t:TGs):TG:=λv σ H Q=>∃a xs,v=.ref a/\SqT K H a xs/\xs.length=n/\t xs σ H Q
theorem qdj{es:List Expr}{k:Nat}{t:TGs}{n:Nat}(hc:X.calm=true)(h:PGs X es t)(hn:(assignEach es X.env).length=n:=by rfl)(hst:(assignEach es X.env).findIdx? (·.1)=none:=by rfl):PG X (.Tuple es k pos) (gTup X.K n t):=by
 intro pins s σ H v u Q I r hw;obtain⟨a,xs,e1,hq,hl,hw⟩:=hw;subst e1;cases r;obtain⟨its,rv,ht,hz⟩:=I.tuple hq;refine assign_Tuple_tuple (I.ok.hd hc) ht (by simp[hn,<-hl,rv.length]) hst λh' hx=>?_
 have I1:Inv X pins σ H {s with heap:=h'}:=I.kept (t':=s.toks) λb o e=>hx b o (rP (qU e)) e
 exact h pins _ σ H xs _ Q I1 (by simpa using rv) hw
def gSub(to ti:TE)(t:TSet):TG:=λv σ H Q=>to σ H λo H1=>ti σ H1 λi H2=>t o i v H2 λH3=>Q σ H3
theorem qiz{o i:Expr}{to ti:TE}{t:TSet}(ho:PE X o to)(hi:PE X i ti)(hs:PSet X t)(ha:∀ v,assign (.Subscript o i pos) X.env v=(do
   let ov <- holding [v] (eval o X.env)
   let iv <- holding [v,ov] (eval i X.env)
   standAt pos
   holding [v,ov,iv] (setItem ov iv v)
   release [v,ov,iv] []):=by intro _; rfl):PG X (.Subscript o i pos) (gSub to ti t):=by
 intro pins s σ H v u Q I r h
 rw [ha]
 refine qF (yX (thn (ho pins s σ H _ I h) λov s1 ⟨x,H1,I1,r1,q1⟩=>?_))
 refine qF (yX (thn (hi pins s1 σ H1 _ I1 q1) λiv s2 ⟨y,H2,I2,r2,q2⟩=>?_))
 refine qF (wpAny_standAt (qF (yX (thn (hs pins s2 σ H2 x y v ov iv u _ I2 r1 r2 r q2) λ_ s3 ⟨H3,I3,q3⟩=>?_))))
 exact wpAny_release ⟨σ,H3,I3,q3⟩
def tAsg(te:TE)(g:TG):TS:=λD σ H=>te σ H λx H1=>g x σ H1 D.nx
theorem qh0{tg e:Expr}{te:TE}{g:TG}(he:PE X e te)(hg:PG X tg g)(hs:swapsWithSole [tg] e pos.line X.env=pure false:=by rfl)(hw:swappedStores [tg] e X.env=pure none:=by rfl)(h1:(assignEach [tg] X.env).map (·.2)=[assign tg X.env]:=by rfl):PS X (.Assign [tg] e pos) (tAsg te g):=by
 intro pins s σ H D I h;refine wpAny_Assign_stores (thn (he pins s σ H _ I h) λv s1 ⟨x,H1,I1,r1,q1⟩=>?_) hs hw;rw[h1];exact thn (hg pins s1 σ H1 x v _ I1 r1 q1) λ_ s2 q=>q
theorem qau{i:Nat}{x:Str}{e:Expr}{te:TE}{pos':Pos}(hN:X.N.Nodup)(hi:X.N[i]?=some x)(hx:Loc X.env.scope x)(he:PE X e te)(hs:swapsWith e (some (.Name x pos')) pos.line X.env=pure false:=by rfl)(hf:X.fn x=true\/X.env.scope.names.lookup x=some .local:=by first | exact .inl rfl | exact .inr rfl | assumption) :
  PS X (.Assign [.Name x pos'] e pos) (tAsg te (qcq i)):=by
 intro pins s σ H D I h;refine wpAny_Assign_Name (thn (he pins s σ H _ I h) λv s1 ⟨y,H1,I1,r1,q1⟩=>?_) hs;exact qe4 I1 hN hi hx r1 (λs2 I2=>⟨_,H1,I2,q1⟩) hf
def tAug(i:Nat)(te:TE)(ti:TIp):TS:=λD σ H=>∃x,σ[i]?=some (some x)/\te σ H λy H1=>ti x y H1 λz H2=>D.nx (σ.set i (some z)) H2
theorem qhV{i:Nat}{x:Str}{e:Expr}{te:TE}{op:Operator}{ti:TIp}{pos':Pos}(hN:X.N.Nodup)(hi:X.N[i]?=some x)(hx:Loc X.env.scope x)(he:PE X e te)(ho:PIp X op ti)(hf:X.fn x=true\/X.env.scope.names.lookup x=some .local:=by first | exact .inl rfl | exact .inr rfl | assumption) :
  PS X (.AugAssign (.Name x pos') op e pos) (tAug i te ti):=by
 intro pins s σ H D I h;obtain⟨v,e1,h⟩:=h;obtain⟨m,hn,hl⟩:=I.loc;have vis:Vis X.env.scope x:=by rcases hx with k | k;exact .inl k;exact .inr (.inl k)
 obtain⟨u,r,l⟩:=hl i x v hi e1 vis;refine wpAny_AugAssign_Name ?_;have go:wpAny (model X.prog X.w) X.A (eval e X.env) (λw s₂=>wpAny (model X.prog X.w) X.A (inplaceOp op u w) (λr s₃=>wpAny (model X.prog X.w) X.A (storeName X.env x r) (λ_=>SP X pins D .next) X.xe s₃) X.xe s₂) X.xe s:=by
  refine thn (he pins s σ H _ I h) λw s1 ⟨y,H1,I1,r1,q1⟩=>?_
  refine thn (ho pins s1 σ H1 v y u w _ I1 r r1 q1) λz s2 ⟨zv,H2,I2,r2,q2⟩=>?_
  exact qe4 I2 hN hi hx r2 (λs3 I3=>⟨_,H2,I3,q2⟩) hf
 rcases l with⟨hk,hm⟩ | ⟨hk,c,hc,hcell⟩
 ·exact wpAny_loadName_local I.ok.kind hk hn hm go
 ·rcases hk with hk | hk
  ·exact wpAny_loadName_cell I.ok.kind hk hc hcell go
  ·rcases hx with k | k
   ·have:X.env.scope.names.lookup x=some .free:=hk;rw[k]at this;cases this
   ·have:X.env.scope.names.lookup x=some .free:=hk;rw[k]at this;cases this
def ipI(f:Int->Int->Int):TIp:=λx y H Q=>∃i j,x=.int i/\y=.int j/\Q (.int (f i j)) H
theorem ip_add:PIp X .Add (ipI λi j=>i+j):=by
 intro pins s σ H x y v u Q I r1 r2 h;obtain⟨i,j,e1,e2,q⟩:=h;subst e1;subst e2;obtain⟨t,rfl⟩:=r1;obtain⟨t',rfl⟩:=r2;exact iadd_int ⟨.int _,H,I.tok _,⟨_,rfl⟩,q⟩
def tWhile(c:TT)(tb:TS):TS:=λD σ H=>∃W:Nat->St->Hp->Prop,(∃m,W m σ H)/\∀m σ H,W m σ H ->
 c σ H λb H1=>if b=true then∃N:St->Hp->Prop,(∀σ' H',N σ' H'->∃m',m'<m/\W m' σ' H')/\tb {D with nx:=N,ct:=N,bk:=D.nx} σ H1 else D.nx σ H1
theorem qfq{c:Expr}{body:List Stmt}{tc:TT}{tb:TS}(hp:PassesOwn (model X.prog X.w) X.A X.env X.xe)(hc:PT X c tc)(hb:PSs X body tb):PS X (.While c body [] pos) (tWhile tc tb):=by
 intro pins s σ H D I h;obtain⟨W,⟨m0,w0⟩,turn⟩:=h;refine wpAny_While (codeAny_whileLoop (λn s'=>∃σ' H',Inv X pins σ' H' s'/\W n σ' H') ?_ m0 ⟨σ,H,I,w0⟩);rintro n s1 ⟨σ1,H1,I1,w1⟩;refine uB hp (thn (hc pins s1 σ1 H1 _ I1 (turn n σ1 H1 w1)) λb s2 ⟨H2,I2,q2⟩=>?_);cases b with
 | true =>
   obtain⟨N,hN,q2⟩:=q2
   rw[if_pos rfl]
   refine uB hp (thn (hb pins s2 σ1 H2 _ I2 q2) λf s3 q3=>?_)
   cases f with
   | next =>
     obtain⟨σ3,H3,I3,n3⟩:=q3
     obtain⟨m',hm,w3⟩:=hN σ3 H3 n3
     exact⟨m',hm,σ3,H3,I3,w3⟩
   | cont =>
     obtain⟨σ3,H3,I3,n3⟩:=q3
     obtain⟨m',hm,w3⟩:=hN σ3 H3 n3
     exact⟨m',hm,σ3,H3,I3,w3⟩
   | brk=>exact q3
   | ret v=>exact q3
 | false =>
   rw[if_neg qL]
   exact vN ⟨σ1,H2,I2,q2⟩
end
structure It where
 go:Nat->Hp->Prop
 yld:Nat->Hp->V->Hp->Prop
 stop:Nat->Hp->Prop
def FpOk(X:Cx)(pins:List (Addr×Obj))(H:Hp)(b:Addr):Prop :=
 H b=none/\b≠X.env.locals/\b∉X.fs/\(b∈X.ex\/X.s₀.heap.objs.size<=b)/\(∀x c,X.env.cells.lookup x=some c->c≠b)/\∀p∈X.pn++pins,p.1≠b
theorem Inv.fpOk{X:Cx}{pins:List (Addr×Obj)}{σ:St}{H H':Hp}{s:Shared}{b:Addr}(I:Inv X pins σ H s)(hb:s.heap.objs.size<=b)(hn:H' b=none):FpOk X pins H' b:=by
 refine⟨hn,uG (qX I.lt hb),I.nofs hb,.inr (qR I.sz hb),λx c e z=>?_,λp hp z=>?_⟩
 ·obtain⟨v,q⟩:=I.cell x c e;exact absurd (qX q.lt (by rw[z];exact hb)) (rX _)
 ·exact absurd (qX (qU (I.pin p hp).1) (by rw[z];exact hb)) (rX _)
structure Turn(P:Program)(w:World)(K:W.Frag)(tg:Expr)(J:It)(fp:List Addr)(it:Addr)(tn:Nat->Heap->Prop):Prop where
 mem:it∈fp
 obj:∀i h,tn i h->∀b∈fp,∃o,h.get? b=some o/\∀v,o.data≠.cell v
 keep:∀i h h',tn i h->(∀b∈fp,∀o,h.get? b=some o->h'.get? b=some o)->tn i h'
 item:∀(X:Cx),X.prog=P->X.w=w->X.K=K->X.calm=true->∀(i:Nat) (pins:List (Addr×Obj)) (s:Shared) (σ:St) (H:Hp) (E:Value->Shared->Prop),Inv X pins σ H s->(∀b∈fp,FpOk X pins H b)->tn i s.heap->J.go i H ->
  wpAny (model P w) X.A (pyNext (.ref it)) (λr s1=>∃u,r=some u /\
   wpAny (model P w) X.A (letOwnedTupleGo tg (.ref it) u) (λ_ s2=>∃x H',Inv X pins σ H' s2/\RelV x u/\J.yld i H x H'/\tn (i+1) s2.heap/\∀b∈fp,H' b=none) E s1) E s
 done:∀(X:Cx),X.prog=P->X.w=w->X.K=K->X.calm=true->∀(i:Nat) (pins:List (Addr×Obj)) (s:Shared) (σ:St) (H:Hp) (E:Value->Shared->Prop),Inv X pins σ H s->(∀b∈fp,FpOk X pins H b)->tn i s.heap->J.stop i H ->
  wpAny (model P w) X.A (pyNext (.ref it)) (λr s1=>r=none/\Inv X pins σ H s1) E s
 self:∀(A:Around) (i:Nat) (s:Shared) (Q:Value->Shared->Prop) (E:Value->Shared->Prop),tn i s.heap->Q (.ref it) s->wpAny (model P w) A (pyIter (.ref it)) Q E s
abbrev TI:=St->Hp->(It->Hp->Prop)->Prop
def PIE(X:Cx)(pins:List (Addr×Obj))(σ:St)(tg:Expr)(R:It->Hp->Prop)(itv:Value)(s2:Shared):Prop :=
 ∃(it:Addr) (fp:List Addr) (tn:Nat->Heap->Prop) (J:It) (H':Hp),itv=.ref it/\Inv X pins σ H' s2/\Turn X.prog X.w X.K tg J fp it tn/\tn 0 s2.heap/\(∀b∈fp,FpOk X pins H' b)/\R J H'
def PI(X:Cx)(tg iter:Expr)(wi:TI):Prop :=
 ∀(pins:List (Addr×Obj)) (s:Shared) (σ:St) (H:Hp) (R:It->Hp->Prop),Inv X pins σ H s->wi σ H R ->
  wpAny (model X.prog X.w) X.A (eval iter X.env) (λv s1=>wpAny (model X.prog X.w) X.A (pyIter v) (PIE X pins σ tg R) X.xe s1) X.xe s
theorem qh9{M:Model}{A:Around}{E:Value->Shared->Prop}{s:Shared}{tg:Expr}{it:Addr}{u:Value}{o:Obj}{n:String}{vs:Array Value}{Q:Unit->Shared->Prop}(ho:s.heap.get? it=some o)(hc:o.cls=.type n)(hd:o.data=.fields vs)(hn:["enumerate", "zip", "dict_itemiterator", "dict_reverseitemiterator", "odict_iterator", "itertools.zip_longest", "itertools.pairwise"].contains n=false)(hQ:Q () s):wpAny M A (letOwnedTupleGo tg (.ref it) u) Q E s:=by
 unfold letOwnedTupleGo;cases tg<;>first
  | exact qQ hQ
  | (cases u<;>first
    | exact qQ hQ
    | (refine qF (wpAny_load ho ?_)
       rw[hc,hd]
       show wpAny M A (if(["enumerate", "zip", "dict_itemiterator", "dict_reverseitemiterator", "odict_iterator", "itertools.zip_longest", "itertools.pairwise"].contains n && vs[0]? == some (rawInt _))=true then _ else _) Q E s
       rw[if_neg (by intro h;rw[hn,uL]at h;cases h)]
       exact qQ hQ))
def Itl(K:W.Frag)(a:Addr):It :=
 ⟨λi H=>∃xs x,SqL K H a xs/\xs[i]?=some x,λi H x H'=>H'=H/\∀xs,SqL K H a xs->xs[i]?=some x,λi H=>∃xs,SqL K H a xs/\xs.length<=i⟩
def Itr(lo:Int)(n:Nat):It:=⟨λi _=>i<n,λi H x H'=>H'=H/\x=.int (lo+i),λi _=>n<=i⟩
theorem turn_list{P:Program}{w:World}{K:W.Frag}{tg:Expr}(a it:Addr):Turn P w K tg (Itl K a) [it] it (λi h=>h.IsListIter it a i) where
 mem:=by simp
 obj:=λi h st b hb=>by
  have e:b=it:=by simpa using hb
  subst e;obtain⟨o,e,c,d⟩:=st;exact⟨o,e,λv z=>by rw[d]at z;cases z⟩
 keep:=λi h h' st k=>st.at λo e=>k it (by simp) o e
 item:=by
  intro X hP hw hK hc i pins s σ H E I hf st hg;subst hP hw hK;obtain⟨xs,x,hq,hx⟩:=hg;obtain⟨its,rv,p,hz⟩:=I.list hq;obtain⟨u,hu,ru⟩:=rv.get hx;obtain⟨f0,f1,f2,f3,f4,f5⟩:=hf it (by simp);refine wpAny_pyNext_list_item st p.isList (x:=u) (by simpa using hu) λh' st' sb=>?_
  have I1:Inv X pins σ H {s with heap:=h'}:=I.turned (t':=s.toks) (λb o hb e=>(sb.2 b hb).trans e) f0 f1 f3 f4 f5;obtain⟨o,e,c,d⟩:=id st';exact⟨u,rfl,qh9 (s:={s with heap:=h'}) e c d (by decide) ⟨x,H,I1,ru,⟨rfl,λys hy=>by rw[I.list_inj hy hq];exact hx⟩,st',λb hb=>(hf b hb).1⟩⟩
 done:=by
  intro X hP hw hK hc i pins s σ H E I hf st hg;subst hP hw hK;obtain⟨xs,hq,hx⟩:=hg;obtain⟨its,rv,p,hz⟩:=I.list hq;obtain⟨f0,f1,f2,f3,f4,f5⟩:=hf it (by simp);have hl:=rv.length;exact wpAny_pyNext_list_end (I.ok.hd hc) st p.isList (by simp;omega) λh' eb=>⟨rfl,I.turned (t':=s.toks) (λb o hb e=>eb b o hb e) f0 f1 f3 f4 f5⟩
 self:=λ_ _ _ _ _ st h=>wpAny_pyIter_listiter st h
theorem turn_range{P:Program}{w:World}{K:W.Frag}{tg:Expr}(it:Addr)(lo:Int)(n:Nat):Turn P w K tg (Itr lo n) [it] it (λi h=>IsRangeIter h it (lo+(i:Nat)*1) ((n:Int)-(i:Nat)) 1) where
 mem:=by simp
 obj:=λi h st b hb=>by
  have e:b=it:=by simpa using hb
  subst e;exact⟨_,st,λv z=>by
   have z':Data.fields _=Data.cell v:=z;cases z'⟩
 keep:=λi h h' st k=>k it (by simp) _ st
 item:=by
  intro X hP hw hK hc i pins s σ H E I hf st hg;subst hP hw hK;obtain⟨f0,f1,f2,f3,f4,f5⟩:=hf it (by simp);have W:=Walks.range (prog:=X.prog) (w:=X.w) (I.ok.hd hc) it lo 1 n;refine W.item i s _ _ hg st λv h' tk hv st' kk=>?_
  obtain⟨t,rfl⟩:=hv;have I1:Inv X pins σ H {s with heap:=h',toks:=tk}:=I.turned (λb o hb e=>kk b o (by simpa using hb) e) f0 f1 f3 f4 f5;refine⟨_,rfl,qh9 (s:={s with heap:=h',toks:=tk}) (n := "range_iterator") st' rfl rfl (by decide) ⟨.int (lo+i),H,I1,⟨t,?_⟩,⟨rfl,rfl⟩,st',λb hb=>(hf b hb).1⟩⟩;rw[Int.mul_one]
 done:=by
  intro X hP hw hK hc i pins s σ H E I hf st hg;subst hP hw hK;obtain⟨f0,f1,f2,f3,f4,f5⟩:=hf it (by simp);exact wpAny_pyNext_range_end (I.ok.hd hc) st (by have:n<=i:=hg;omega) λh' eb=>⟨rfl,I.turned (t':=s.toks) (λb o hb e=>eb b o hb e) f0 f1 f3 f4 f5⟩
 self:=λ_ _ _ _ _ st h=>wpAny_pyIter_rangeiter st h
section
variable{X:Cx}{tg:Expr}
def iList(K:W.Frag)(tl:TE):TI:=λσ H R=>tl σ H λx H1=>∃a,x=.ref a/\(∃xs,SqL K H1 a xs)/\R (Itl K a) H1
theorem qbb{l:Expr}{tl:TE}(hl:PE X l tl):PI X tg l (iList X.K tl):=by
 intro pins s σ H R I h;refine thn (hl pins s σ H _ I h) λv s1 ⟨x,H1,I1,r1,q1⟩=>?_
 obtain⟨a,e,⟨xs,hq⟩,q⟩:=q1;subst e;cases r1;obtain⟨its,rv,p,hz⟩:=I1.list hq;refine wD p.isList ?_;refine⟨s1.heap.objs.size,[s1.heap.objs.size],_,_,H1,rfl,I1.kept (t':=s1.toks) λb o e=>qI _ e,turn_list a _,⟨_,rB _ rfl,rfl,rfl⟩,λb hb=>?_,q⟩;have e:b=s1.heap.objs.size:=by simpa using hb
 subst e;exact I1.fpOk (qG _) (I1.hok.fresh (qG _))
theorem range_it{pins:List (Addr×Obj)}{σ:St}{H:Hp}{s:Shared}{R:It->Hp->Prop}{E:Value->Shared->Prop}{lo hi:Int}{t u v:Tok}{tk:Nat}(I:Inv X pins σ H s)(h1:-(2 ^ 62)<=lo)(h2:lo<2 ^ 62)(h3:-(2 ^ 62)<=hi)(h4:hi<2 ^ 62)(q:R (Itr lo (hi-lo).toNat) H):wpAny (model X.prog X.w) X.A (pyIter (.ref s.heap.objs.size)) (PIE X pins σ tg R) E {s with heap:=s.heap.push {cls:=.type "range",data:=.fields #[.int lo t,.int hi u,.int 1 v]},toks:=tk}:=by
 refine wpAny_pyIter_range (IsRange.new ..) (small_one h1 h2 h3 h4) ?_;have I1:Inv X pins σ H {s with heap:=s.heap.push {cls:=.type "range",data:=.fields #[.int lo t,.int hi u,.int 1 v]},toks:=tk}:=I.kept λb o e=>qI _ e
 refine⟨(s.heap.push {cls:=.type "range",data:=.fields #[.int lo t,.int hi u,.int 1 v]}).objs.size,[(s.heap.push {cls:=.type "range",data:=.fields #[.int lo t,.int hi u,.int 1 v]}).objs.size],_,_,H,rfl,
  I1.kept (t':=tk) λb o e=>qI _ e,turn_range _ lo (hi-lo).toNat,?_,λb hb=>?_,q⟩
 ·have e1:lo+((0:Nat):Int)*1=lo:=by simp
  have e2:(((hi-lo).toNat:Nat):Int)-((0:Nat):Int)=Builtin.Range.rangeSize lo hi 1:=by rw[rangeSize_one];split<;>omega
  show IsRangeIter _ _ (lo+((0:Nat):Int)*1) ((((hi-lo).toNat:Nat):Int)-((0:Nat):Int)) 1;rw[e1,e2];exact rB _ rfl
 ·have e:b=(s.heap.push {cls:=.type "range",data:=.fields #[.int lo t,.int hi u,.int 1 v]}).objs.size:=by simpa using hb
  subst e;exact I1.fpOk (qG _) (I1.hok.fresh (qG _))
def iRng1(ta:TA):TI:=λσ H R=>ta σ H λvs H1=>∃j:Int,vs=[.int j]/\-(2 ^ 62)<=j/\j<2 ^ 62/\R (Itr 0 j.toNat) H1
theorem qb6{a:Expr}{ta:TA}{p pos:Pos}(hg:Gl X "range")(hm:X.mg "range" = none)(ha:PA X [a] ta)(hs:starEach [a] X.env=[(false,eval a X.env)]:=by rfl):PI X tg (.Call (.Name "range" p) [a] [] pos) (iRng1 ta):=by
 intro pins s σ H R I h;refine Call_ (qdR I hg hm boot_range (xT (thn (ha pos pins s σ H _ I h) λus s1 ⟨vs,H1,I1,r1,q1⟩=>?_) hs rfl));obtain⟨j,e,q1,q2,q⟩:=q1;subst e;cases r1 with
 | cons r rr =>
   cases rr
   obtain⟨t,rfl⟩:=r
   exact call_range_1 (range_it I1 (by omega) (by omega) q1 q2 (by simpa using q))
def tFor(wi:TI)(g:TG)(tb:TS):TS:=λD σ H=>wi σ H λJ H1=>∃W:Nat->Nat->St->Hp->Prop,(∃m,W 0 m σ H1)/\∀i m σ H,W i m σ H ->
 (J.stop i H/\D.nx σ H)\/(J.go i H/\∃N:St->Hp->Prop,(∀σ' H',N σ' H'->∃m',m'<m/\W (i+1) m' σ' H')/\∀x H',J.yld i H x H'->g x σ H' λσ2 H2=>tb {D with nx:=N,ct:=N,bk:=D.nx} σ2 H2)
def qeB(fp:List Addr)(h:Heap):List (Addr×Obj):=fp.filterMap λb=>(h.get? b).map λo=>(b,o)
theorem qb2{fp:List Addr}{h:Heap}{b:Addr}{o:Obj}(hb:b∈fp)(e:h.get? b=some o):(b,o)∈qeB fp h:=uP.mpr ⟨b,hb,by rw[e];rfl⟩
theorem qfA{fp:List Addr}{h:Heap}{p:Addr×Obj}(hp:p∈qeB fp h):p.1∈fp/\h.get? p.1=some p.2:=by
 obtain⟨b,hb,e⟩:=uP.mp hp;cases q:h.get? b with
 | none=>rw[q]at e;cases e
 | some o =>
   rw[q]at e
   have e':(b,o)=p:=rD e
   subst e'
   exact⟨hb,q⟩
theorem Inv.pinned{pins:List (Addr×Obj)}{σ:St}{H:Hp}{s:Shared}{fp:List Addr}(I:Inv X pins σ H s)(hf:∀b∈fp,FpOk X pins H b)(ho:∀b∈fp,∃o,s.heap.get? b=some o/\∀v,o.data≠.cell v):Inv X (pins++qeB fp s.heap) σ H s :=
 I.pins_of λp hp=>(qW.mp hp).elim (λz=>I.pin p (qZ _ z)) λz=>by
  obtain⟨hb,e⟩:=qfA z;obtain⟨f0,f1,f2,_⟩:=hf p.1 hb;obtain⟨o,e',d⟩:=ho p.1 hb;rw[e]at e';cases e';exact⟨e,f0,f1,f2,d⟩
theorem Inv.unpinned{pins pl:List (Addr×Obj)}{σ:St}{H:Hp}{s:Shared}(I:Inv X (pins++pl) σ H s):Inv X pins σ H s:=I.pins_of λp hp=>I.pin p (qZ _ (xX _ hp))
theorem qcl{iter:Expr}{body:List Stmt}{wi:TI}{g:TG}{tb:TS}{pos:Pos}(hp:PassesOwn (model X.prog X.w) X.A X.env X.xe)(hc:X.calm=true)(hi:PI X tg iter wi)(hg:PG X tg g)(hb:PSs X body tb)(hs:∀x,foldedSetIterable iter X.env x=pure x:=by intro _;rfl):PS X (.For tg iter body [] pos) (tFor wi g tb):=by
 intro pins s σ H D I h;refine wpAny_For (thn (hi pins s σ H _ I h) λv s1 h1=>thn h1 λitv s2 h2=>?_) hs;obtain⟨it,fp,tn,J,H2,e,I2,T,st2,f2,W,⟨m0,w0⟩,turn⟩:=h2;subst e;have stat:∀{H':Hp},(∀b∈fp,H' b=none)->∀b∈fp,FpOk X pins H' b:=λhn b hb=>⟨hn b hb,(f2 b hb).2⟩
 refine codeAny_forLoop_any (λn s'=>∃i σ' H',Inv X pins σ' H' s'/\tn i s'.heap/\(∀b∈fp,H' b=none)/\W i n σ' H') ?_ m0 ⟨0,σ,H2,I2,st2,λb hb=>(f2 b hb).1,w0⟩;rintro n s3 ⟨i,σ3,H3,I3,st3,fr3,w3⟩;rcases turn i n σ3 H3 w3 with⟨stop,qn⟩ | ⟨go,N,hN,step⟩
 ·refine uB hp (thn (T.done X rfl rfl rfl hc i pins s3 σ3 H3 X.xe I3 (stat fr3) st3 stop) λr s4 ⟨hr,I4⟩=>?_);subst hr;exact vN ⟨σ3,H3,I4,qn⟩
 ·refine uB hp (thn (T.item X rfl rfl rfl hc i pins s3 σ3 H3 X.xe I3 (stat fr3) st3 go) λr s4 ⟨u,hr,h4⟩=>?_);subst hr;refine uB hp (thn h4 λ_ s5 ⟨x,H5,I5,r5,y5,st5,fr5⟩=>?_);have I5':=I5.pinned (stat fr5) (T.obj _ _ st5);refine uB hp (thn (hg _ s5 σ3 H5 x u _ I5' r5 (step x H5 y5)) λ_ s6 ⟨σ6,H6,I6,q6⟩=>?_);refine uB hp (thn (hb _ s6 σ6 H6 _ I6 q6) λf s7 q7=>?_);have again:∀{σ7:St} {H7:Hp},Inv X (pins++qeB fp s5.heap) σ7 H7 s7->N σ7 H7->∃m,m<n/\∃i σ' H',Inv X pins σ' H' s7/\tn i s7.heap/\(∀b∈fp,H' b=none)/\W i m σ' H':=λ{σ7 H7} I7 n7=>by
   obtain⟨m',hm,w7⟩:=hN σ7 H7 n7;refine⟨m',hm,i+1,σ7,H7,I7.unpinned,T.keep _ _ _ st5 λb hb o e=>(I7.pin (b,o) (qZ _ (qZ _ (qb2 hb e)))).1,λb hb=>?_,w7⟩;obtain⟨o,e,d⟩:=T.obj _ _ st5 b hb;exact(I7.pin (b,o) (qZ _ (qZ _ (qb2 hb e)))).2.1
  cases f with
  | next=>obtain⟨σ7,H7,I7,n7⟩:=q7;exact again I7 n7
  | cont=>obtain⟨σ7,H7,I7,n7⟩:=q7;exact again I7 n7
  | brk=>obtain⟨σ7,H7,I7,q7⟩:=q7;exact⟨σ7,H7,I7.unpinned,q7⟩
  | ret v=>obtain⟨x7,σ7,H7,I7,r7,q7⟩:=q7;exact⟨x7,σ7,H7,I7.unpinned,r7,q7⟩
end
theorem qgO{K:W.Frag}{a:Addr}{xs:List V}{g:TG}{tb:TS}{D:Ends}{σ:St}{H:Hp}(Pv:Nat->St->Hp->Prop)(h0:Pv 0 σ H)(hl:∀i σ H,i<=xs.length->Pv i σ H->SqL K H a xs)(hs:∀i x σ H,xs[i]?=some x->Pv i σ H->g x σ H λσ2 H2=>tb {D with nx:=Pv (i+1),ct:=Pv (i+1),bk:=D.nx} σ2 H2)(hd:∀σ H,Pv xs.length σ H->D.nx σ H) :
  ∃W:Nat->Nat->St->Hp->Prop,(∃m,W 0 m σ H)/\∀i m σ H,W i m σ H ->
   ((Itl K a).stop i H/\D.nx σ H)\/((Itl K a).go i H/\∃N:St->Hp->Prop,(∀σ' H',N σ' H'->∃m',m'<m/\W (i+1) m' σ' H')/\∀x H',(Itl K a).yld i H x H'->g x σ H' λσ2 H2=>tb {D with nx:=N,ct:=N,bk:=D.nx} σ2 H2):=by
 refine⟨λi m σ H=>m=xs.length-i/\i<=xs.length/\Pv i σ H,⟨xs.length,by simp,r8 _,h0⟩,?_⟩;rintro i m σ H ⟨rfl,hi,p⟩;have q:=hl i σ H hi p
 by_cases hlt:i<xs.length
 ·refine .inr ⟨⟨xs,xs[i],q,by simp[hlt]⟩,Pv (i+1),λσ' H' p'=>⟨xs.length-(i+1),by omega,rfl,hlt,p'⟩,λx H' y=>?_⟩;obtain⟨e,y⟩:=y;subst e;exact hs i x σ _ (y xs q) p
 ·have e:i=xs.length:=by omega
  subst e;exact .inl ⟨⟨xs,q,qG _⟩,hd σ H p⟩
theorem qcU{lo:Int}{n:Nat}{g:TG}{tb:TS}{D:Ends}{σ:St}{H:Hp}(Pv:Nat->St->Hp->Prop)(h0:Pv 0 σ H)(hs:∀i σ H,i<n->Pv i σ H->g (.int (lo+i)) σ H λσ2 H2=>tb {D with nx:=Pv (i+1),ct:=Pv (i+1),bk:=D.nx} σ2 H2)(hd:∀σ H,Pv n σ H->D.nx σ H) :
  ∃W:Nat->Nat->St->Hp->Prop,(∃m,W 0 m σ H)/\∀i m σ H,W i m σ H ->
   ((Itr lo n).stop i H/\D.nx σ H)\/((Itr lo n).go i H/\∃N:St->Hp->Prop,(∀σ' H',N σ' H'->∃m',m'<m/\W (i+1) m' σ' H')/\∀x H',(Itr lo n).yld i H x H'->g x σ H' λσ2 H2=>tb {D with nx:=N,ct:=N,bk:=D.nx} σ2 H2):=by
 refine⟨λi m σ H=>m=n-i/\i<=n/\Pv i σ H,⟨n,by simp,r8 _,h0⟩,?_⟩;rintro i m σ H ⟨rfl,hi,p⟩
 by_cases hlt:i<n
 ·refine .inr ⟨hlt,Pv (i+1),λσ' H' p'=>⟨n-(i+1),by omega,rfl,hlt,p'⟩,λx H' y=>?_⟩;obtain⟨e,y⟩:=y;subst e y;exact hs i σ _ hlt p
 ·have e:i=n:=by omega
  subst e;exact .inl ⟨qG _,hd σ H p⟩
abbrev R2:=V->V->Hp->VK->Prop
def OpR(X:Cx)(f:Value->Value->Sem Value)(r:R2):Prop :=
 ∀(pins:List (Addr×Obj)) (s:Shared) (σ:St) (H:Hp) (x y:V) (v u:Value) (Q:VK),Inv X pins σ H s->RelV x v->RelV y u->r x y H Q ->
  wpAny (model X.prog X.w) X.A (f v u) (EP X pins σ Q) X.xe s
def UnR(X:Cx)(f:Value->Sem Value)(r:V->Hp->VK->Prop):Prop :=
 ∀(pins:List (Addr×Obj)) (s:Shared) (σ:St) (H:Hp) (x:V) (v:Value) (Q:VK),Inv X pins σ H s->RelV x v->r x H Q ->
  wpAny (model X.prog X.w) X.A (f v) (EP X pins σ Q) X.xe s
def qc8(X:Cx)(f:Value)(r:List V->Hp->VK->Prop):Prop :=
 ∀(pins:List (Addr×Obj)) (s:Shared) (σ:St) (H:Hp) (xs:List V) (us:List Value) (Q:VK),Inv X pins σ H s->Vals xs us->r xs H Q ->
  wpAny (model X.prog X.w) X.A (call f us) (EP X pins σ Q) X.xe s
def tOp(r:R2)(ta tb:TE):TE:=λσ H Q=>ta σ H λx H1=>tb σ H1 λy H2=>r x y H2 Q
def tUn(r:V->Hp->VK->Prop)(ta:TE):TE:=λσ H Q=>ta σ H λx H1=>r x H1 Q
def rI(C:Int->Int->Prop)(g:Int->Int->V):R2:=λx y H Q=>∃i j,x=.int i/\y=.int j/\C i j/\Q (g i j) H
def rI0(g:Int->Int->V):R2:=λx y H Q=>∃i j,x=.int i/\y=.int j/\Q (g i j) H
def rU(g:Int->V):V->Hp->VK->Prop:=λx H Q=>∃i,x=.int i/\Q (g i) H
section
variable{X:Cx}{a b c:Expr}{ta tb tc:TE}{pos:Pos}
theorem binT(ha:PE X a ta)(hb:PE X b tb){pins:List (Addr×Obj)}{s:Shared}{σ:St}{H:Hp}{R:V->V->Hp->Prop}(I:Inv X pins σ H s)(h:ta σ H λx H1=>tb σ H1 λy H2=>R x y H2){Q:Value->Shared->Prop}{f:Value->Value->Sem Value}(hf:∀v u s2 x y H2,Inv X pins σ H2 s2->RelV x v->RelV y u->R x y H2->wpAny (model X.prog X.w) X.A (f v u) Q X.xe s2) :
  wpAny (model X.prog X.w) X.A (eval a X.env) (λv s₁=>wpAny (model X.prog X.w) X.A (eval b X.env) (λu s₂=>wpAny (model X.prog X.w) X.A (f v u) Q X.xe s₂) X.xe s₁) X.xe s:=by
 refine thn (ha pins s σ H _ I h) λv s1 ⟨x,H1,I1,r1,q1⟩=>?_
 refine thn (hb pins s1 σ H1 _ I1 q1) λu s2 ⟨y,H2,I2,r2,q2⟩=>?_
 exact hf v u s2 x y H2 I2 r1 r2 q2
theorem qaM{op:Operator}{r:R2}(ho:OpR X (binaryOp op) r)(ha:PE X a ta)(hb:PE X b tb):PE X (.BinOp a op b pos) (tOp r ta tb):=by
 intro pins s σ H Q I h;exact wpAny_BinOp (binT ha hb I h λv u s2 x y H2 I2 rx ry q=>ho pins s2 σ H2 x y v u Q I2 rx ry q)
theorem qen{op:UnaryOp}{r:V->Hp->VK->Prop}(ho:UnR X (unaryOp op) r)(ha:PE X a ta):PE X (.UnaryOp op a pos) (tUn r ta):=by
 intro pins s σ H Q I h;exact UnaryOp_ (thn (ha pins s σ H _ I h) λv s1 ⟨x,H1,I1,r1,q1⟩=>ho pins s1 σ H1 x v Q I1 r1 q1)
theorem opI{f:Value->Value->Sem Value}{C:Int->Int->Prop}{g:Int->Int->Int}(rule:∀(i j:Int) (t u:Tok) (s:Shared) (Q:Value->Shared->Prop) (E:Value->Shared->Prop),C i j->Q (.int (g i j) s.toks) {s with toks:=s.toks+1}->wpAny (model X.prog X.w) X.A (f (.int i t) (.int j u)) Q E s) :
  OpR X f (rI C λi j=>.int (g i j)):=by
 intro pins s σ H x y v u Q I rx ry h;obtain⟨i,j,rfl,rfl,hc,q⟩:=h;obtain⟨t,rfl⟩:=rx;obtain⟨t',rfl⟩:=ry;exact rule i j t t' s _ _ hc ⟨.int (g i j),H,I.tok _,⟨_,rfl⟩,q⟩
theorem opI0{f:Value->Value->Sem Value}{g:Int->Int->Int}(rule:∀(i j:Int) (t u:Tok) (s:Shared) (Q:Value->Shared->Prop) (E:Value->Shared->Prop),Q (.int (g i j) s.toks) {s with toks:=s.toks+1}->wpAny (model X.prog X.w) X.A (f (.int i t) (.int j u)) Q E s) :
  OpR X f (rI0 λi j=>.int (g i j)):=by
 intro pins s σ H x y v u Q I rx ry h;obtain⟨i,j,rfl,rfl,q⟩:=h;obtain⟨t,rfl⟩:=rx;obtain⟨t',rfl⟩:=ry;exact rule i j t t' s _ _ ⟨.int (g i j),H,I.tok _,⟨_,rfl⟩,q⟩
theorem opB0{f:Value->Value->Sem Value}{g:Int->Int->Bool}(rule:∀(i j:Int) (t u:Tok) (s:Shared) (Q:Value->Shared->Prop) (E:Value->Shared->Prop),Q (.bool (g i j)) s->wpAny (model X.prog X.w) X.A (f (.int i t) (.int j u)) Q E s) :
  OpR X f (rI0 λi j=>.bl (g i j)):=by
 intro pins s σ H x y v u Q I rx ry h;obtain⟨i,j,rfl,rfl,q⟩:=h;obtain⟨t,rfl⟩:=rx;obtain⟨t',rfl⟩:=ry;exact rule i j t t' s _ _ ⟨.bl (g i j),H,I,rfl,q⟩
def CMul(i j:Int):Prop:=(-(2 ^ 64)<i/\i<2 ^ 64)\/(-(2 ^ 64)<j/\j<2 ^ 64)
theorem CMul.ok{i j:Int}(h:CMul i j):IntMulOk i j:=by
 rcases h with⟨h1,h2⟩ | ⟨h1,h2⟩
 ·exact .of_left (intBits_le_64 h1 h2)
 ·exact .of_right (intBits_le_64 h1 h2)
theorem op_add:OpR X (binaryOp .Add) (rI0 λi j=>.int (i+j)):=opI0 λ_ _ _ _ _ _ _ q=>add_int q
theorem op_sub:OpR X (binaryOp .Sub) (rI0 λi j=>.int (i-j)):=opI0 λ_ _ _ _ _ _ _ q=>sub_int q
theorem op_mul:OpR X (binaryOp .Mult) (rI CMul λi j=>.int (i*j)):=opI λ_ _ _ _ _ _ _ hc q=>mul_int q hc.ok
theorem op_mod:OpR X (binaryOp .Mod) (rI (λ_ j=>0<j) λi j=>.int (i % j)):=opI λi j _ _ _ _ _ hc q=>by
 have h1:(0:Int)<j:=hc;exact mod_int' (by omega) (by rw[Int.fmod_eq_emod_of_nonneg i (by omega)];exact q)
theorem unI{f:Value->Sem Value}{g:Int->Int}(rule:∀(i:Int) (t:Tok) (s:Shared) (Q:Value->Shared->Prop) (E:Value->Shared->Prop),Q (.int (g i) s.toks) {s with toks:=s.toks+1}->wpAny (model X.prog X.w) X.A (f (.int i t)) Q E s) :
  UnR X f (rU λi=>.int (g i)):=by
 intro pins s σ H x v Q I rx h;obtain⟨i,rfl,q⟩:=h;obtain⟨t,rfl⟩:=rx;exact rule i t s _ _ ⟨.int (g i),H,I.tok _,⟨_,rfl⟩,q⟩
theorem un_neg:UnR X (unaryOp .USub) (rU λi=>.int (-i)):=unI λ_ _ _ _ _ q=>neg_int q
def scal:V->V->Bool
 | .non,.non=>true | .non,.int _=>true | .int _,.non=>true | .non,.bl _=>true | .bl _,.non=>true | .non,.str _=>true | .str _,.non=>true
 | .int _,.int _=>true | .bl _,.bl _=>true | .str _,.str _=>true | .byt _,.byt _=>true
 | .int _,.str _=>true | .str _,.int _=>true | .bl _,.str _=>true | .str _,.bl _=>true
 | _,_=>false
def rEq:R2:=λx y H Q=>scal x y=true/\Q (.bl (decide (x=y))) H
def rNe:R2:=λx y H Q=>scal x y=true/\Q (.bl (!decide (x=y))) H
theorem qhs{i j:Int}:decide (V.int i=V.int j)=(i == j):=by
 rw[xD];simp
theorem qiD{i j:Bool}:decide (V.bl i=V.bl j)=(i == j):=by
 rw[xD];simp
theorem qhk{i j:Str}:decide (V.str i=V.str j)=(i == j):=by
 rw[xD];simp
theorem qhl{i j:Array UInt8}:decide (V.byt i=V.byt j)=(i.toList == j.toList):=by
 rw[xD];cases i;cases j;simp
theorem qa4{pins:List (Addr×Obj)}{σ:St}{H:Hp}{s:Shared}{Q:VK}{k k':Bool}(I:Inv X pins σ H s)(q:Q (.bl k) H)(e:k=k'):EP X pins σ Q (.bool k') s:=by
 subst e;exact⟨.bl k,H,I,rfl,q⟩
theorem op_eq:OpR X (compareOp .Eq) rEq:=by
 intro pins s σ H x y v u Q I rx ry h;obtain⟨hs,q⟩:=h;cases x with
 | non =>
   cases rx
   cases y with
   | non=>cases ry;exact PySem.EqNone.eq_none_none (qa4 I q (by simp))
   | bl j=>cases ry;exact PySem.EqNone.eq_none_bool (qa4 I q (by simp))
   | int j=>obtain⟨t',rfl⟩:=ry;exact PySem.EqNone.eq_none_int (qa4 I q (by simp))
   | str j=>obtain⟨t',rfl⟩:=ry;exact PySem.EqNone.eq_none_str (qa4 I q (by simp))
   | _=>exact absurd (show false=true from hs) qL
 | bl i =>
   cases rx
   cases y with
   | non=>cases ry;exact PySem.EqNone.eq_bool_none (qa4 I q (by simp))
   | bl j=>cases ry;exact eq_bool (qa4 I q qiD)
   | str j=>obtain⟨t',rfl⟩:=ry;exact PySem.EqMixed.eq_bool_str (qa4 I q (by simp))
   | _=>exact absurd (show false=true from hs) qL
 | int i =>
   obtain⟨t,rfl⟩:=rx
   cases y with
   | non=>cases ry;exact PySem.EqNone.eq_int_none (qa4 I q (by simp))
   | int j=>obtain⟨t',rfl⟩:=ry;exact eq_int (qa4 I q qhs)
   | str j=>obtain⟨t',rfl⟩:=ry;exact PySem.EqMixed.eq_int_str (qa4 I q (by simp))
   | _=>exact absurd (show false=true from hs) qL
 | str i =>
   obtain⟨t,rfl⟩:=rx
   cases y with
   | non=>cases ry;exact PySem.EqNone.eq_str_none (qa4 I q (by simp))
   | bl j=>cases ry;exact PySem.EqMixed.eq_str_bool (qa4 I q (by simp))
   | int j=>obtain⟨t',rfl⟩:=ry;exact PySem.EqMixed.eq_str_int (qa4 I q (by simp))
   | str j=>obtain⟨t',rfl⟩:=ry;exact eq_str (qa4 I q qhk)
   | _=>exact absurd (show false=true from hs) qL
 | byt i =>
   obtain⟨t,rfl⟩:=rx
   cases y with
   | byt j=>obtain⟨t',rfl⟩:=ry;exact PySem.W.eq_bytes (qa4 I q qhl)
   | _=>exact absurd (show false=true from hs) qL
 | _=>cases y<;>exact absurd (show false=true from hs) qL
theorem op_ne:OpR X (compareOp .NotEq) rNe:=by
 intro pins s σ H x y v u Q I rx ry h;obtain⟨hs,q⟩:=h;cases x with
 | non =>
   cases rx
   cases y with
   | non=>cases ry;exact PySem.EqNone.ne_none_none (qa4 I q (by simp))
   | bl j=>cases ry;exact PySem.EqNone.ne_none_bool (qa4 I q (by simp))
   | int j=>obtain⟨t',rfl⟩:=ry;exact PySem.EqNone.ne_none_int (qa4 I q (by simp))
   | str j=>obtain⟨t',rfl⟩:=ry;exact PySem.EqNone.ne_none_str (qa4 I q (by simp))
   | _=>exact absurd (show false=true from hs) qL
 | bl i =>
   cases rx
   cases y with
   | non=>cases ry;exact PySem.EqNone.ne_bool_none (qa4 I q (by simp))
   | bl j=>cases ry;exact ne_bool (qa4 I q (xO not qiD))
   | str j=>obtain⟨t',rfl⟩:=ry;exact PySem.EqMixed.ne_bool_str (qa4 I q (by simp))
   | _=>exact absurd (show false=true from hs) qL
 | int i =>
   obtain⟨t,rfl⟩:=rx
   cases y with
   | non=>cases ry;exact PySem.EqNone.ne_int_none (qa4 I q (by simp))
   | int j=>obtain⟨t',rfl⟩:=ry;exact ne_int (qa4 I q (xO not qhs))
   | str j=>obtain⟨t',rfl⟩:=ry;exact PySem.EqMixed.ne_int_str (qa4 I q (by simp))
   | _=>exact absurd (show false=true from hs) qL
 | str i =>
   obtain⟨t,rfl⟩:=rx
   cases y with
   | non=>cases ry;exact PySem.EqNone.ne_str_none (qa4 I q (by simp))
   | bl j=>cases ry;exact PySem.EqMixed.ne_str_bool (qa4 I q (by simp))
   | int j=>obtain⟨t',rfl⟩:=ry;exact PySem.EqMixed.ne_str_int (qa4 I q (by simp))
   | str j=>obtain⟨t',rfl⟩:=ry;exact ne_str (qa4 I q (xO not qhk))
   | _=>exact absurd (show false=true from hs) qL
 | byt i =>
   obtain⟨t,rfl⟩:=rx
   cases y with
   | byt j=>obtain⟨t',rfl⟩:=ry;exact PySem.W.ne_bytes (qa4 I q (xO not qhl))
   | _=>exact absurd (show false=true from hs) qL
 | _=>cases y<;>exact absurd (show false=true from hs) qL
theorem op_lt:OpR X (compareOp .Lt) (rI0 λi j=>.bl (decide (i<j))):=opB0 λ_ _ _ _ _ _ _ q=>lt_int q
theorem op_le:OpR X (compareOp .LtE) (rI0 λi j=>.bl (decide (i<=j))):=opB0 λ_ _ _ _ _ _ _ q=>le_int q
theorem op_gt:OpR X (compareOp .Gt) (rI0 λi j=>.bl (decide (j<i))):=opB0 λ_ _ _ _ _ _ _ q=>gt_int q
theorem op_ge:OpR X (compareOp .GtE) (rI0 λi j=>.bl (decide (j<=i))):=opB0 λ_ _ _ _ _ _ _ q=>ge_int q
theorem op_in_str:OpR X (compareOp .In) (λx y H Q=>∃i j,x=.str i/\y=.str j/\Q (.bl (!(Builtin.Str.occurrences j i 0 j.length 1).isEmpty)) H):=by
 intro pins s σ H x y v u Q I rx ry h;obtain⟨i,j,rfl,rfl,q⟩:=h;obtain⟨t,rfl⟩:=rx;obtain⟨t',rfl⟩:=ry;exact in_str (qa4 I q rfl)
theorem qap(b:Expr){op:CmpOp}(h:op≠.In:=by decide)(h2:op≠.NotIn:=by decide):behindInMarks op b=false:=by
 have e1:(op == CmpOp.In)=false:=by cases op<;>first | rfl | exact absurd rfl h
 have e2:(op == CmpOp.NotIn)=false:=by cases op<;>first | rfl | exact absurd rfl h2
 cases b<;>simp[behindInMarks,e1,e2]
theorem qaW{op:CmpOp}{r:R2}(ho:OpR X (compareOp op) r)(ha:PE X a ta)(hb:PE X b tb)(hm:behindInMarks op b=false):PE X (.Compare a [op] [b] pos) (tOp r ta tb):=by
 intro pins s σ H Q I h;exact wpAny_Compare1 (binT ha hb I h λv u s2 x y H2 I2 rx ry q=>ho pins s2 σ H2 x y v u Q I2 rx ry q) hm
def qiZ(t:TE):TT:=λσ H Q=>t σ H λx H'=>∃k,x=.bl k/\Q k H'
theorem qak{op:CmpOp}{r:R2}(ho:OpR X (compareOp op) r)(ha:PE X a ta)(hb:PE X b tb)(hm:behindInMarks op b=false):PT X (.Compare a [op] [b] pos) (qiZ (tOp r ta tb)):=by
 intro pins s σ H Q I h;refine wpAny_isTrue_Compare1 (thn (ha pins s σ H _ I h) λv s1 ⟨x,H1,I1,r1,q1⟩=>thn (hb pins s1 σ H1 _ I1 q1) λu s2 ⟨y,H2,I2,r2,q2⟩ =>
  thn (ho pins s2 σ H2 x y v u _ I2 r1 r2 q2) λc s3 ⟨z,H3,I3,r3,k,e,q3⟩=>?_) hm
 subst e;cases r3;exact xV ⟨H3,I3,q3⟩
def qis(r r':R2)(ta tb tc:TE):TE:=λσ H Q=>ta σ H λx H1=>tb σ H1 λy H2=>r x y H2 λz H3=>∃k,z=.bl k /\
 (if k=true then tc σ H3 λw' H4=>r' y w' H4 Q else Q (.bl false) H3)
theorem pe_chain{op op':CmpOp}{r r':R2}(ho:OpR X (compareOp op) r)(ho':OpR X (compareOp op') r')(ha:PE X a ta)(hb:PE X b tb)(hc:PE X c tc)(hm:lastMarks [op,op'] [b,c]=false:=by with_unfolding_all rfl):PE X (.Compare a [op,op'] [b,c] pos) (qis r r' ta tb tc):=by
 intro pins s σ H Q I h;refine Compare_chain (thn (ha pins s σ H _ I h) λv s1 ⟨x,H1,I1,r1,q1⟩=>chain_link (thn (hb pins s1 σ H1 _ I1 q1) λu s2 ⟨y,H2,I2,r2,q2⟩ =>
  thn (ho pins s2 σ H2 x y v u _ I2 r1 r2 q2) λd s3 ⟨z,H3,I3,r3,k,e,q3⟩=>?_)) hm
 subst e;cases r3;refine xV ?_;cases k with
 | false=>exact ite_ff ⟨.bl false,H3,I3,rfl,q3⟩
 | true=>exact ite_tt (chain_last (thn (hc pins s3 σ H3 _ I3 q3) λw' s4 ⟨z',H4,I4,r4,q4⟩=>ho' pins s4 σ H4 y z' u w' Q I4 r2 r4 q4))
theorem qcF{op op':CmpOp}{r r':R2}(ho:OpR X (compareOp op) r)(ho':OpR X (compareOp op') r')(ha:PE X a ta)(hb:PE X b tb)(hc:PE X c tc)(hm:lastMarks [op,op'] [b,c]=false:=by with_unfolding_all rfl):PT X (.Compare a [op,op'] [b,c] pos) (qiZ (qis r r' ta tb tc)):=by
 intro pins s σ H Q I h;refine isTrue_chain (thn (ha pins s σ H _ I h) λv s1 ⟨x,H1,I1,r1,q1⟩=>test_link (thn (hb pins s1 σ H1 _ I1 q1) λu s2 ⟨y,H2,I2,r2,q2⟩ =>
  thn (ho pins s2 σ H2 x y v u _ I2 r1 r2 q2) λd s3 ⟨z,H3,I3,r3,k,e,q3⟩=>?_)) hm
 subst e;cases r3;refine xV ?_;cases k with
 | false =>
   obtain⟨k',e',q'⟩:=q3
   cases e'
   exact ite_ff ⟨H3,I3,q'⟩
 | true =>
   refine ite_tt (test_last (thn (hc pins s3 σ H3 _ I3 q3) λw' s4 ⟨z',H4,I4,r4,q4⟩=>thn (ho' pins s4 σ H4 y z' u w' _ I4 r2 r4 q4) λd' s5 ⟨z2,H5,I5,r5,k2,e2,q5⟩=>?_))
   subst e2
   cases r5
   exact xV ⟨H5,I5,q5⟩
theorem line63:(sizeLine:Nat)<2 ^ 63:=by rw[sizeLine_eq];decide
theorem op_add_str:OpR X (binaryOp .Add) (λx y H Q=>∃i j,x=.str i/\y=.str j/\i.length+j.length<=sizeLine/\Q (.str (i++j)) H):=by
 intro pins s σ H x y v u Q I rx ry h;obtain⟨i,j,rfl,rfl,hz,q⟩:=h;obtain⟨t,rfl⟩:=rx;obtain⟨t',rfl⟩:=ry;exact add_str (λt' tk=>⟨.str (i++j),H,I.tok _,⟨_,rfl⟩,q⟩) hz
theorem qd2{x:V}{us:List Value}(r:Vals [x] us):∃u,us=[u]/\RelV x u:=by
 cases r with
 | cons r1 r2=>cases r2;exact⟨_,rfl,r1⟩
theorem qiP{x y:V}{us:List Value}(r:Vals [x,y] us):∃u w',us=[u,w']/\RelV x u/\RelV y w':=by
 cases r with
 | cons r1 r2 =>
   cases r2 with
   | cons r3 r4=>cases r4;exact⟨_,_,rfl,r1,r3⟩
theorem call_max2(hc:X.calm=true):qc8 X (.builtin "max") (λxs H Q=>∃i j,xs=[.int i,.int j]/\Q (.int (if j>i then j else i)) H):=by
 intro pins s σ H xs us Q I r h;obtain⟨i,j,rfl,q⟩:=h;obtain⟨u,w',rfl,⟨t,rfl⟩,⟨t',rfl⟩⟩:=qiP r;refine max_two_ints (I.ok.hd hc) λh' tk k=>⟨_,H,I.kept k,?_,q⟩
 by_cases hj:j>i
 ·rw[if_pos hj,if_pos hj];exact⟨_,rfl⟩
 ·rw[if_neg hj,if_neg hj];exact⟨_,rfl⟩
theorem call_min2(hc:X.calm=true):qc8 X (.builtin "min") (λxs H Q=>∃i j,xs=[.int i,.int j]/\Q (.int (if j<i then j else i)) H):=by
 intro pins s σ H xs us Q I r h;obtain⟨i,j,rfl,q⟩:=h;obtain⟨u,w',rfl,⟨t,rfl⟩,⟨t',rfl⟩⟩:=qiP r;refine min_two_ints (I.ok.hd hc) λh' tk k=>⟨_,H,I.kept k,?_,q⟩
 by_cases hj:j<i
 ·rw[if_pos hj,if_pos hj];exact⟨_,rfl⟩
 ·rw[if_neg hj,if_neg hj];exact⟨_,rfl⟩
theorem call_str_int:qc8 X (.type "str") (λxs H Q=>∃i,xs=[.int i]/\i.natAbs.log2<1920/\Q (.str (toString i)) H):=by
 intro pins s σ H xs us Q I r h;obtain⟨i,rfl,hz,q⟩:=h;obtain⟨u,rfl,t,rfl⟩:=qd2 r;exact PySem.P.str_of_int hz ⟨.str _,H,I.tok _,⟨_,rfl⟩,q⟩
end
structure ObjM(h:Heap)(x dx C:Addr)(mA:Str->Option Value):Prop where
 obj:h.get? x=some (PySem.W.instObj C dx)
 ns:h.Ns1 dx mA
 ne:dx≠x
theorem lookIn_ns{h:Heap}{dx:Addr}{mA:Str->Option Value}(n:h.Ns1 dx mA):∃od,h.get? dx=some od/\∀name,PySem.W.lookIn name od=some (mA name):=by
 obtain⟨o,es,ep,ho,hd,hk,_,hm⟩:=n;refine⟨o,ho,λname=>?_⟩;have e:=hm name;unfold nsFind findBy at e;rw[<-Array.find?_toList]at e;unfold PySem.W.lookIn;rw[hd];dsimp only
 split
 ·rename_i y q;rw[q]at e;exact xO some e
 ·rename_i q;rw[q]at e;have a:es.toList.any (·.refKey)=false:=by
   rw[v0];intro y hy;obtain⟨z,t,hkey⟩:=hk y (Array.mem_toList_iff.mp hy);simp[DictEntry.refKey,hkey]
  have a':¬es.toList.any (·.refKey)=true:=by rw[a];exact qL
  rw[if_neg a'];exact xO some e
theorem ObjM.look{h:Heap}{x dx C:Addr}{mA:Str->Option Value}(I:ObjM h x dx C mA):∃od,PySem.W.InstAt h x (PySem.W.instObj C dx) C (some od)/\∀name,PySem.W.lookIn name od=some (mA name) :=
 let⟨od,ho,hl⟩:=lookIn_ns I.ns
 ⟨od,⟨I.obj,rfl,rfl,ho⟩,hl⟩
theorem RelO.some_of{v:V}{o:Option Value}(r:RelO (some v) o):∃u,o=some u/\RelV v u:=by
 cases o with
 | none=>exact(show False from r).elim
 | some u=>exact⟨u,rfl,r⟩
section
variable{P:Program}{w:World}{H H':Hp}{h h':Heap}{a C dx:Addr}{fs fs':List (Str×V)}
theorem ins_get(hok:HOk P w H h)(e:H a=some (.ins C dx fs)):∃mA,ObjM h a dx C mA/\(∀f,RelO (fs.lookup f) (mA f))/\PySem.Within mA (fs.map (·.1))/\fs.length<=1000/\H dx=some (.own a):=by
 obtain⟨d,z,ne,ob,mA,n,r,q⟩:=(show ObjOk P w H h a (.ins C dx fs)from hok a _ e);exact⟨mA,⟨ob,n,ne⟩,r,q,z,d⟩
end
structure Cls(K:W.Frag)(C:Addr):Prop where
 pg:PySem.W.plainGet K C Str.empty=true
 hd:PySem.W.hasDictIn K C=true
 po:PySem.W.plainOver K C=true
 sa:PySem.W.findIn K (.ref C) "__setattr__" = some (some (.builtin "object.__setattr__"))
theorem Cls.get{K:W.Frag}{C:Addr}(c:Cls K C)(f:Str):PySem.W.plainGet K C f=true:=c.pg
section
variable{X:Cx}{pins:List (Addr×Obj)}{σ:St}{H:Hp}{s:Shared}{A:Around}{E:Value->Shared->Prop}{Q:Value->Shared->Prop}{c:Value}{b:Bool}
inductive TyOf(K:W.Frag)(H:Hp):V->Value->Prop where
 | non:TyOf K H .non (.type "NoneType")
 | bl (x:Bool):TyOf K H (.bl x) (.type "bool")
 | int (i:Int):TyOf K H (.int i) (.type "int")
 | str (x:Str):TyOf K H (.str x) (.type "str")
 | flt (x:UInt64):TyOf K H (.flt x) (.type "float")
 | lst {a:Addr} {xs:List V} (e:H a=some (.lst xs)):TyOf K H (.ref a) (.type "list")
 | frz {a:Addr} {o:Obj} {xs:List V} (e:H a=some (.frz o (.lst xs))):TyOf K H (.ref a) (.type "list")
 | tup {a:Addr} {xs:List V} (e:H a=some (.tup xs)):TyOf K H (.ref a) (.type "tuple")
 | dK {a:Addr} {kvs:List (Key×V)} (e:H a=some (.dK kvs)):TyOf K H (.ref a) (.type "dict")
 | dT {a:Addr} {kvs:List (List Key×V)} (e:H a=some (.dT kvs)):TyOf K H (.ref a) (.type "dict")
 | ins {a C dx:Addr} {fs:List (Str×V)} (e:H a=some (.ins C dx fs)) (cl:Cls K C) (ha:PySem.W.findIn K (.ref C) "__class__" = some (some (.builtin "object.__class__")))
   (hn:PySem.W.specialIn K (.builtin "object.__class__") "__get__" = some (some (.builtin "getset_descriptor.__get__"))) (htk:PySem.W.takesIn K (.builtin "object.__class__")=some true)
   (hm:PySem.W.mroIn K C (.type "object")=some true):TyOf K H (.ref a) (.ref C)
theorem isinst_ok{x:V}{u t:Value}(I:Inv X pins σ H s)(rx:RelV x u)(ty:TyOf X.K H x t)(e:PySem.W.kitOne X.K t c=some b)(h:∀tk,Q (.bool b) {s with toks:=tk}) :
  wpAny (model X.prog X.w) A (call (.builtin "isinstance") [u,c]) Q E s:=by
 cases ty with
 | non=>cases(show u=Value.none from rx);exact xZ PySem.W.kitx_none I.kIn True.intro e (λz=>nomatch z) h
 | bl y=>cases(show u=Value.bool y from rx);exact xZ PySem.W.kitx_bool I.kIn True.intro e (λz=>nomatch z) h
 | int i=>obtain⟨t,q⟩:=(show∃t,u=Value.int i t from rx);cases q;exact xZ PySem.W.kitx_int I.kIn True.intro e (λz=>nomatch z) h
 | str y=>obtain⟨t,q⟩:=(show∃t,u=Value.str y t from rx);cases q;exact xZ PySem.W.kitx_str I.kIn True.intro e (λz=>nomatch z) h
 | flt y=>obtain⟨t,q⟩:=(show∃t,u=Value.float y t from rx);cases q;exact xZ PySem.W.kitx_float I.kIn True.intro e (λz=>nomatch z) h
 | @lst a xs ea =>
   cases(show u=Value.ref a from rx)
   obtain⟨_,_,n,_,h1⟩:=(show ObjOk X.prog X.w H s.heap a (.lst xs)from I.hok a _ ea)
   exact xZ PySem.W.kitx_list I.kIn ⟨_,h1,rfl⟩ e (λz=>nomatch z) h
 | @frz a ob xs ea =>
   cases(show u=Value.ref a from rx)
   obtain⟨_,_,_,n,_,h1⟩:=(show ObjOk X.prog X.w H s.heap a (.frz ob (.lst xs))from I.hok a _ ea)
   exact xZ PySem.W.kitx_list I.kIn ⟨_,h1,rfl⟩ e (λz=>nomatch z) h
 | @tup a xs ea =>
   cases(show u=Value.ref a from rx)
   obtain⟨_,_,_,p⟩:=(show ObjOk X.prog X.w H s.heap a (.tup xs)from I.hok a _ ea)
   obtain⟨o,h1,h2,_⟩:=p
   exact xZ PySem.W.kitx_tuple I.kIn ⟨o,h1,h2⟩ e (λz=>nomatch z) h
 | @dK a kvs ea =>
   cases(show u=Value.ref a from rx)
   obtain⟨_,_,vs,_,p⟩:=(show ObjOk X.prog X.w H s.heap a (.dK kvs)from I.hok a _ ea)
   obtain⟨o,es,ep,h1,h2,_⟩:=p
   exact xZ PySem.W.kitx_dict I.kIn ⟨o,h1,h2.1⟩ e (λz=>nomatch z) h
 | @dT a kvs ea =>
   cases(show u=Value.ref a from rx)
   obtain⟨_,_,xs,_,o,es,ep,h1,h2,_⟩:=(show ObjOk X.prog X.w H s.heap a (.dT kvs)from I.hok a _ ea)
   exact xZ PySem.W.kitx_dict I.kIn ⟨o,h1,h2.1⟩ e (λz=>nomatch z) h
 | @ins a C dx fs ea cl ha hn htk hm =>
   cases(show u=Value.ref a from rx)
   obtain⟨mA,O,_⟩:=ins_get I.hok ea
   obtain⟨od,J,_⟩:=O.look
   exact xZ (PySem.W.kitx_own (cl.get _) cl.hd ha hn htk hm) I.kIn J e (λz=>nomatch z) h
end
structure Room(k:Nat)(A:Around):Prop where
 hd:A.handled=none
 dp:A.depth+3*k+5<recursionLimit
 un:A.units+16*k+200<cLine
theorem Room.mono{j k:Nat}{A:Around}(r:Room k A)(h:j<=k):Room j A:=⟨r.hd,by have:=r.dp;omega,by have:=r.un;omega⟩
theorem Room.deeper{k:Nat}{A:Around}(r:Room (k+1) A)(env:Env):Room k (A.deeper env) :=
 ⟨r.hd,by have:=r.dp;show A.depth+1+3*k+5<_;omega,by have:=r.un;show A.units+3+16*k+200<_;omega⟩
theorem Room.depth{k:Nat}{A:Around}(r:Room k A):A.depth<recursionLimit:=by have:=r.dp;omega
theorem Room.units{k:Nat}{A:Around}(r:Room k A):A.units+64<cLine:=by have:=r.un;omega
def tNil:TA:=λ_ H Q=>Q [] H
def qg7(ta:TE)(tr:TA):TA:=λσ H Q=>ta σ H λx H1=>tr σ H1 λxs H2=>Q (x::xs) H2
section
variable{X:Cx}{e:Expr}{es:List Expr}{te:TE}{t:TA}{pos:Pos}
theorem pa_nil:PA X [] tNil:=λ_ _ _ _ H Q I h=>Calls.spliced_nil ⟨[],H,I,.nil,h⟩
theorem qaa(ha:PE X e te)(hr:PA X es t)(hs:starEach (e::es) X.env=(false,eval e X.env)::starEach es X.env:=by rfl):PA X (e::es) (qg7 te t):=by
 intro pos pins s σ H Q I h;rw[hs];show wpAny _ _ (spliced ((false,eval e X.env)::backTo pos (starEach es X.env))) _ _ s;refine Calls.spliced_cons (thn (ha pins s σ H _ I h) λu s1 ⟨x,H1,I1,r1,q1⟩=>?_);exact thn (hr pos pins s1 σ H1 _ I1 q1) λus s2 ⟨xs,H2,I2,r2,q2⟩=>⟨x::xs,H2,I2,.cons r1 r2,q2⟩
def tTup(t:TA):TE:=λσ H Q=>t σ H λxs H1=>xs.length<=sizeLine/\∀p,H1 p=none->Q (.ref p) (upd H1 p (.tup xs))
def tLst(t:TA):TE:=λσ H Q=>t σ H λxs H1=>xs.length<=sizeLine/\∀p,H1 p=none->Q (.ref p) (upd H1 p (.lst xs))
theorem qbc{x1}(h:PA X es t):PE X (.Tuple es x1 pos) (tTup t):=by
 intro pins s σ H Q I hq;refine wpAny_Tuple_spliced (thn (h pos pins s σ H _ I hq) λus s1 ⟨xs,H1,I1,r,z,q⟩=>⟨by rw[<-r.length];exact z,?_⟩);have hf:H1 s1.heap.objs.size=none:=I1.hok.fresh (qG _);refine⟨.ref s1.heap.objs.size,upd H1 s1.heap.objs.size (.tup xs),I1.laid (t':=s1.toks) (λb u e=>qI _ e) (qG _) ?_,rfl,q _ hf⟩;exact⟨z,us,r,⟨_,rB _ rfl,rfl,_,rfl⟩⟩
theorem qaR(h:PA X es t):PE X (.List es pos) (tLst t):=by
 intro pins s σ H Q I hq;refine wpAny_List_spliced (thn (h pos pins s σ H _ I hq) λus s1 ⟨xs,H1,I1,r,z,q⟩=>⟨by rw[<-r.length];exact z,?_⟩);have hf:H1 s1.heap.objs.size=none:=I1.hok.fresh (qG _);refine⟨.ref s1.heap.objs.size,upd H1 s1.heap.objs.size (.lst xs),I1.laid (t':=s1.toks) (λb u e=>qI _ e) (qG _) ?_,rfl,q _ hf⟩;exact⟨z,us,0,r,rB _ rfl⟩
end
abbrev Sp:=List V->Hp->VK->XK->Prop
abbrev CXT:=List Env->Hp->Shared->XK->Value->Shared->Prop
structure Env0(P:Program)(w:World)(K:W.Frag)(mg:Str->Option Value)(base:Heap)(A:Around)(outer:List Env)(s:Shared)(H:Hp):Prop where
 frames:A.frames=some outer
 mod:Mod K mg base
 bs:∀b o,base.get? b=some o->s.heap.get? b=some o/\H b=none
 bsz:base.objs.size<=s.heap.objs.size
 funs:s.heap.FunFrames base outer
 frf:∀b∈frs outer,H b=none
 hok:HOk P w H s.heap
 bare:AllBare s.gens
def CE(outer:List Env)(P:Program)(w:World)(H:Hp)(s:Shared)(Q:VK)(u:Value)(s':Shared):Prop :=
 ∃v H',s'.os=s.os/\AllBare s'.gens/\Un (frs outer) [] H H' s.heap s'.heap/\HOk P w H' s'.heap/\RelV v u/\Q v H'
def CR(CX:CXT)(outer:List Env)(P:Program)(w:World)(H:Hp)(s:Shared)(Q:VK)(E:XK)(r:Result)(s':Shared):Prop :=
 match r with
 | .ok (.ret u)=>CE outer P w H s Q u s'
 | .ok _=>False
 | .error e=>CX outer H s E e s'
structure FnOk(P:Program)(w:World)(K:W.Frag)(mg:Str->Option Value)(base:Heap)(CX:CXT)(k:Nat)(f:Addr)(fd:FuncData)(ps:List Str)(sp:Sp):Prop where
 len:∀vs H Q E,sp vs H Q E->vs.length=ps.length
 run:∀(A:Around) (outer:List Env) (s:Shared) (H:Hp) (args:Args) (us:List Value) (vs:List V) (Q:VK) (E:XK),Room k A->Env0 P w K mg base A outer s H->BindsTo s fd args (ps.zip us)->Vals vs us->sp vs H Q E ->
  codeAny (model P w) A (.call (.ref f) args) (CR CX outer P w H s Q E) s
section
variable{X:Cx}{pins:List (Addr×Obj)}{σ:St}{H:Hp}{s s':Shared}
theorem Inv.env0(I:Inv X pins σ H s):Env0 X.prog X.w X.K X.mg X.base X.A X.stack s H :=
 ⟨I.ok.frames,I.ok.mod,I.bs,qR I.ok.bsz I.sz,I.stack,I.stkFree,I.hok,I.bare⟩
theorem Inv.after{Q:VK}{u:Value}(I:Inv X pins σ H s)(h:CE X.stack X.prog X.w H s Q u s'):EP X pins σ Q u s':=by
 obtain⟨v,H',os,bare,un,hok,r,q⟩:=h;obtain⟨hh,g,d,t,os'⟩:=s';obtain rfl:os'=s.os:=os;exact⟨v,H',I.call (h':=hh) (g':=g) (d':=d) (t':=t) (ch:=[]) un hok bare (λb z=>absurd z (by simp)),r,q⟩
end
def qie(sp:Sp)(dvs:List V)(E:XK)(t:TA):TE:=λσ H Q=>t σ H λvs H1=>sp (vs++dvs) H1 Q E
def Binds(K:W.Frag)(fd:FuncData)(ps:List Str)(ds:List Value):Prop :=
 ∀(s:Shared) (us:List Value),K.In s.heap->(us++ds).length=ps.length->BindsTo s fd ⟨us,[]⟩ (ps.zip (us++ds))
theorem Binds.all{K:W.Frag}{fd:FuncData}{ps:List Str}(h:∀us:List Value,us.length=ps.length->bindArgs fd ⟨us,[]⟩=pure (ps.zip us)):Binds K fd ps []:=λs us _ hl=>by
 rw[rC]at hl⊢;exact .of_eq (h us hl)
def qdV(CX:CXT)(X:Cx)(E:XK):Prop:=∀(pins:List (Addr×Obj)) (σ:St) (H:Hp) (s:Shared) (e:Value) (s':Shared),Inv X pins σ H s->CX X.stack H s E e s'->X.xe e s'
section
variable{X:Cx}{CX:CXT}{k:Nat}{f C:Addr}{fd:FuncData}{ps:List Str}{sp:Sp}{dvs:List V}{ds:List Value}{E:XK}{x m:Str}{p pos apos:Pos}{e o:Expr}{es:List Expr}{ta:TE}{t:TA}
theorem qiq{pins:List (Addr×Obj)}{σ:St}{H:Hp}{s:Shared}{Q:VK}{us:List Value}{vs:List V}(F:FnOk X.prog X.w X.K X.mg X.base CX k f fd ps sp)(hr:Room k X.A)(hb:Binds X.K fd ps ds)(hd:Vals dvs ds)(hx:qdV CX X E)(I:Inv X pins σ H s)(r:Vals vs us)(h:sp (vs++dvs) H Q E):wpAny (model X.prog X.w) X.A (call (.ref f) us) (EP X pins σ Q) X.xe s:=by
 have r2:Vals (vs++dvs) (us++ds):=r.append hd;have hl:(us++ds).length=ps.length:=by rw[<-r2.length];exact F.len _ _ _ _ h
 refine wpAny_call (vA (F.run X.A X.stack s H ⟨us,[]⟩ (us++ds) (vs++dvs) Q E hr I.env0 (hb s us I.kIn hl) r2 h) λr s' hq=>?_);cases r with
 | error e=>exact hx pins σ H s e s' I hq
 | ok fl =>
   cases fl with
   | ret u=>exact I.after hq
   | next=>exact False.elim hq
   | brk=>exact False.elim hq
   | cont=>exact False.elim hq
theorem pe_call(F:FnOk X.prog X.w X.K X.mg X.base CX k f fd ps sp)(hr:Room k X.A)(hg:Gl X x)(hm:X.mg x=some (.ref f))(hk:PySem.W.keepIn X.K (.ref f)=true)(hb:Binds X.K fd ps ds)(hd:Vals dvs ds)(hx:qdV CX X E)(ha:PA X (e::es) t)(hdb:(x == ("__debug__" : Str))=false:=by decide)(he:starEach (e::es) X.env=(false,eval e X.env)::starEach es X.env:=by rfl)(hpl:(backTo pos (starEach es X.env)).any (·.1)=false:=by rfl) :
  PE X (.Call (.Name x p) (e::es) [] pos) (qie sp dvs E t):=by
 intro pins s σ H Q I h;refine y3 (qfp I hg hm ?_ hdb);refine PySem.W.callWith_K (h₀:=X.base) I.ok.mod.kin hk (thn (ha pos pins s σ H _ I h) λus s1 ⟨vs,H1,I1,r,q⟩=>⟨I1.kIn,?_⟩) he hpl;exact qiq F hr hb hd hx I1 r q
theorem pe_call0(F:FnOk X.prog X.w X.K X.mg X.base CX k f fd ps sp)(hr:Room k X.A)(hg:Gl X x)(hm:X.mg x=some (.ref f))(hk:PySem.W.keepIn X.K (.ref f)=true)(hb:Binds X.K fd ps ds)(hd:Vals dvs ds)(hx:qdV CX X E)(hdb:(x == ("__debug__" : Str))=false:=by decide):PE X (.Call (.Name x p) [] [] pos) (qie sp dvs E tNil):=by
 intro pins s σ H Q I h;refine y3 (qfp I hg hm ?_ hdb);exact PySem.W.callWith_K0 I.kIn hk (qiq (us:=[]) F hr hb hd hx I .nil h)
end
structure FnScope(N P:List Str)(sc:Scope):Prop where
 kind:sc.kind=.function
 co:sc.isCoroutine=false
 gen:sc.isGenerator=false
 nd:N.Nodup
 pre:N.take P.length=P
 par:∀x∈P,sc.names.lookup x=some .local\/sc.names.lookup x=some .cell
 nofree:∀y∈sc.names,y.2≠.free
theorem qfK{kindOf:Str->Option NameKind}{x:Str}:∀{binds:List (Str×Value)} {m:Str->Option Value},(∀v,(x,v)∉binds)->bindL kindOf binds m x=m x
 | [],_,_=>rfl
 | (n, v) :: r, m, h => by
   unfold bindL
   rw[qfK λw hw=>h w (qN _ hw)]
   split
   · have:x≠n:=by rintro rfl;exact h v qJ
     simp[this]
   · rfl
theorem qfx{kindOf:Str->Option NameKind}{x:Str}:∀{binds:List (Str×Value)} {m:Str->Option Value},(∀v,(x,v)∉binds)->bindC kindOf binds m x=m x
 | [],_,_=>rfl
 | (n, v) :: r, m, h => by
   unfold bindC
   rw[qfx λw hw=>h w (qN _ hw)]
   split
   · rfl
   · have:x≠n:=by rintro rfl;exact h v qJ
     simp[this]
theorem qgf{kindOf:Str->Option NameKind}{x:Str}{v:Value}:∀{P:List Str} {vs:List Value} {i:Nat} {m:Str->Option Value},P.Nodup->P[i]?=some x->vs[i]?=some v->kindOf x=some .local ->
  bindL kindOf (P.zip vs) m x=some v
 | [],_,_,_,_,h,_,_=>by simp at h
 | _::_,[],_,_,_,_,h,_=>by simp at h
 | p :: P, w :: vs, 0, m, nd, h1, h2, hk => by
   simp at h1 h2;subst h1;subst h2
   show bindL kindOf ((p,w)::P.zip vs) m p=_
   unfold bindL
   rw[qfK λv hv=>(uR.mp nd).1 (wO hv).1,if_pos hk]
   simp
 | p :: P, w :: vs, i + 1, m, nd, h1, h2, hk => by
   show bindL kindOf ((p,w)::P.zip vs) m x=_
   unfold bindL
   exact qgf (i:=i) (uR.mp nd).2 (by simpa using h1) (by simpa using h2) hk
theorem qfF{kindOf:Str->Option NameKind}{x:Str}{v:Value}:∀{P:List Str} {vs:List Value} {i:Nat} {m:Str->Option Value},P.Nodup->P[i]?=some x->vs[i]?=some v->kindOf x≠some .local ->
  bindC kindOf (P.zip vs) m x=some v
 | [],_,_,_,_,h,_,_=>by simp at h
 | _::_,[],_,_,_,_,h,_=>by simp at h
 | p :: P, w :: vs, 0, m, nd, h1, h2, hk => by
   simp at h1 h2;subst h1;subst h2
   show bindC kindOf ((p,w)::P.zip vs) m p=_
   unfold bindC
   rw[qfx λv hv=>(uR.mp nd).1 (wO hv).1,if_neg hk]
   simp
 | p :: P, w :: vs, i + 1, m, nd, h1, h2, hk => by
   show bindC kindOf ((p,w)::P.zip vs) m x=_
   unfold bindC
   exact qfF (i:=i) (uR.mp nd).2 (by simpa using h1) (by simpa using h2) hk
def qfh(N:List Str)(vs:List V):St:=vs.map some++List.replicate (N.length-vs.length) none
def cxOf(CX:CXT)(P:Program)(w:World)(K:W.Frag)(mg:Str->Option Value)(base:Heap)(N:List Str)(qual:Str)(scope:Scope)(f:Addr)(cd:Value)(A:Around)(outer:List Env)(s:Shared)(H:Hp)(E:XK):Cx where
 prog:=P
 w:=w
 K:=K
 mg:=mg
 base:=base
 A:=A.deeper (envOfC qual scope s.heap.objs.size f cd)
 N:=N
 s₀:=s
 H₀:=H
 env:=envOfC qual scope s.heap.objs.size f cd
 outer:=outer
 stack:=envOfC qual scope s.heap.objs.size f cd::outer
 ex:=[]
 calm:=true
 fn:=λ_=>true
 pn:=[]
 xe:=λe s'=>wpAny (model P w) (A.deeper (envOfC qual scope s.heap.objs.size f cd)) (leaving (envOfC qual scope s.heap.objs.size f cd) e) (λ_ s''=>CX outer H s E e s'') (λe' s''=>CX outer H s E e' s'') s'
theorem qgR{sc:Scope}{n:Nat}{x:Str}(h:sc.names.lookup x=some .cell):∃c,(cellsFrom n sc.names []).lookup x=some c:=by
 have q:=PySem.W.cellsFrom_some sc.names n [] (.inl h);exact Option.isSome_iff_exists.mp q
theorem inv_start{CX:CXT}{P:Program}{w:World}{K:W.Frag}{mg:Str->Option Value}{base:Heap}{N ps:List Str}{qual:Str}{scope:Scope}{f:Addr}{cd:Value}{A:Around}{outer:List Env}{s s1:Shared}{H:Hp}{E:XK}{us:List Value}{vs:List V}(S:FnScope N ps scope)(hd:A.handled=none)(e0:Env0 P w K mg base A outer s H)(hl:vs.length=ps.length)(r:Vals vs us)(x:InCallC s s.heap.objs.size (bindL (envOfC qual scope s.heap.objs.size f cd).kindOf (ps.zip us) λ_=>none) (cellsFrom (s.heap.objs.size+1) scope.names []) (bindC (envOfC qual scope s.heap.objs.size f cd).kindOf (ps.zip us) λ_=>none) s1) :
  Inv (cxOf CX P w K mg base N qual scope f cd A outer s H E) [] (qfh N vs) H s1:=by
 have hpl:ps.length<=N.length:=by have:=xO List.length S.pre;rw[rN]at this;omega
 obtain⟨h1,tk,rfl,hk⟩:=x.done;have noA:∀b:Addr,b∉(cxOf CX P w K mg base N qual scope f cd A outer s H E).ex:=λb z=>absurd (show b∈([]:List Addr)from z) (by simp)
 refine⟨⟨e0.mod,S.kind,rfl,rfl,qG _,λy z c h1 h2=>?_,λy hy=>?_,λy c _ h=>?_,λ_=>hd,Around.frames_deeper e0.frames,.inr ⟨rfl,rfl⟩,λb z=>absurd z (noA b),e0.bs,e0.bsz,λb _ _=>noA b,λb z=>absurd z (noA b),e0.funs,e0.frf⟩,
  rfl,e0.bare,Un.kept hk,⟨_,x.toInCall.ns,λi y v h1 h2 h3=>?_⟩,λy c h=>⟨_,x.cell y c h⟩,e0.hok.fresh (qG _),λy c h=>?_,λp hp=>absurd (show p∈([]:List (Addr×Obj))from hp) (by simp),e0.hok.kept hk,?_⟩
 ·exact name_of_addr x.apart (uK h1) (uK h2)
 ·have hy:scope.names.lookup y=some .cell\/scope.names.lookup y=some .free:=hy;rcases hy with hy | hy
  ·exact qgR hy
  ·exact absurd rfl (S.nofree _ (uK hy))
 ·exact yF (x.above y c (uK h))
 ·have hi:i<vs.length:=by
   unfold qfh at h2
   by_cases hi:i<vs.length
   ·exact hi
   ·rw[rY (by simpa using hi)]at h2;rw[List.getElem?_replicate]at h2
    split at h2<;>cases h2
  have ha:vs[i]?=some v:=by
   unfold qfh at h2;rw[rV (by simpa using hi),qP]at h2;cases e:vs[i]? with
   | none=>rw[e]at h2;cases h2
   | some a=>rw[e]at h2;cases h2;rfl
  obtain⟨u,hu,rv⟩:=r.get ha;have hp:ps[i]?=some y:=by
   rw[<-S.pre,List.getElem?_take_of_lt (by omega)];exact h1
  have ndP:ps.Nodup:=by rw[<-S.pre];exact S.nd.sublist (List.take_sublist _ _)
  refine⟨u,rv,?_⟩;rcases S.par y (qK hp)with k | k
  ·exact .inl ⟨k,qgf ndP hp hu k⟩
  ·obtain⟨c,e⟩:=qgR (n:=s.heap.objs.size+1) k;refine .inr ⟨.inl k,c,e,?_⟩;have q:=x.cell y c e;rw[qfF ndP hp hu (by show scope.names.lookup y≠_;rw[k];decide)]at q;exact q
 ·exact e0.hok.fresh (yF (x.above y c (uK h)))
 ·unfold qfh;show _=N.length;rw[qH,qA,yP];omega
theorem qi0{CX:CXT}{P:Program}{w:World}{K:W.Frag}{mg:Str->Option Value}{base:Heap}{k:Nat}{f:Addr}{name qual:Str}{params:Arguments}{body:List Stmt}{scope:Scope}{dV kV doc pm cdv ct oc:Value}{an od:Option Addr}{osl:Array (Option Value)}{N ps:List Str}{sp:Sp}(lk:K.lookup f=some ⟨oc,od,.func (PySem.W.fnOf name qual params body scope dV kV doc pm an cdv ct),osl⟩)(hcd:PySem.W.codeIn K cdv qual=true)(S:FnScope N ps scope)(len:∀vs H Q E,sp vs H Q E->vs.length=ps.length)(hbody:∀(A:Around) (outer:List Env) (s:Shared) (H:Hp) (vs:List V) (Q:VK) (E:XK),Room k (A.deeper (envOfC qual scope s.heap.objs.size f cdv))->sp vs H Q E ->
   ∃t,PSs (cxOf CX P w K mg base N qual scope f cdv A outer s H E) body t/\t {nx:=λ_ H'=>Q .non H',rt:=Q} (qfh N vs) H) :
  FnOk P w K mg base CX (k+1) f (PySem.W.fnOf name qual params body scope dV kV doc pm an cdv ct) ps sp:=by
 refine⟨len,λA outer s H args us vs Q E hr e0 hb r hsp=>?_⟩;have hl:=len _ _ _ _ hsp;have KX:K.In s.heap:=e0.mod.kin.keeps λb o e=>(e0.bs b o e).1
 have lim:s.heap.NoLimit:=e0.mod.nolimit.keeps λb o e=>(e0.bs b o e).1
 have hkind:∀y∈ps.zip us,scope.names.lookup y.1=some .local\/(scope.names.lookup y.1=some .cell/\((cellsFrom (s.heap.objs.size+1) scope.names []).lookup y.1).isSome=true):=λ⟨n,v⟩ hy=>by
  rcases S.par n (wO hy).1 with q | q
  ·exact .inl q
  ·exact .inr ⟨q,PySem.W.cellsFrom_some _ _ _ (.inl q)⟩
 refine codeAny_call_function hr.depth (KX _ _ lk) rfl S.co S.gen rfl (PySem.W.codeRec_of KX hcd) (hb _ _ _ _ ?_);refine wpAny_newFunctionEnv_cells S.kind hkind λenv he s1 x=>?_
 subst he;refine⟨lim.keeps x.toInCall.keep,codeAny_func ?_⟩;obtain⟨t,ht,hq⟩:=hbody A outer s H vs Q E (hr.deeper _) hsp;have I:Inv (cxOf CX P w K mg base N qual scope f cdv A outer s H E) [] (qfh N vs) H s1:=inv_start S hr.hd e0 hl r x;refine xJ (ht [] s1 (qfh N vs) H _ I hq) (λfl s' hs=>?_) λe s' hs=>hs
 have fin:∀{σ':St} {H':Hp} {v:V} {u:Value},Inv (cxOf CX P w K mg base N qual scope f cdv A outer s H E) [] σ' H' s'->RelV v u->Q v H'->CE outer P w H s Q u s' :=
  λ{σ' H' v u} J rv q=>⟨v,H',J.os,J.bare,J.base,J.hok,rv,q⟩
 cases fl with
 | ret u =>
   obtain⟨v,σ',H',J,rv,q⟩:=hs
   exact fin J rv q
 | next =>
   obtain⟨σ',H',J,q⟩:=hs
   exact fin (v:=V.non) (u:=Value.none) J rfl q
 | brk =>
   obtain⟨_,_,_,q⟩:=hs
   exact False.elim q
 | cont =>
   obtain⟨_,_,_,q⟩:=hs
   exact False.elim q
section
variable{X:Cx}{x:Str}{p pos:Pos}{e:Expr}{es:List Expr}{t:TA}{id T:String}{r:List V->Hp->VK->Prop}
def tCB(r:List V->Hp->VK->Prop)(t:TA):TE:=λσ H Q=>t σ H λvs H1=>r vs H1 Q
theorem qal(hc:qc8 X (.builtin id) r)(hg:Gl X x)(hm:X.mg x=none)(hv:bootBuiltins x=some (.builtin id))(ha:PA X (e::es) t)(hn:x ≠ "__name__":=by decide)(hdb:(x == ("__debug__" : Str))=false:=by decide)(he:starEach (e::es) X.env=(false,eval e X.env)::starEach es X.env:=by rfl)(hpl:(backTo pos (starEach es X.env)).any (·.1)=false:=by rfl):PE X (.Call (.Name x p) (e::es) [] pos) (tCB r t):=by
 intro pins s σ H Q I h;refine y3 (qdR I hg hm hv ?_ hn hdb);exact PyProof.Rows.callWith_builtin1 (thn (ha pos pins s σ H _ I h) λus s1 ⟨vs,H1,I1,r1,q1⟩=>hc pins s1 σ H1 vs us Q I1 r1 q1) he hpl
theorem qbq(hc:qc8 X (.type T) r)(hg:Gl X x)(hm:X.mg x=none)(hv:bootBuiltins x=some (.type T))(ha:PA X (e::es) t)(hn:x ≠ "__name__":=by decide)(hdb:(x == ("__debug__" : Str))=false:=by decide)(he:starEach (e::es) X.env=(false,eval e X.env)::starEach es X.env:=by rfl)(hpl:(backTo pos (starEach es X.env)).any (·.1)=false:=by rfl):PE X (.Call (.Name x p) (e::es) [] pos) (tCB r t):=by
 intro pins s σ H Q I h;refine y3 (qdR I hg hm hv ?_ hn hdb);exact xT (thn (ha pos pins s σ H _ I h) λus s1 ⟨vs,H1,I1,r1,q1⟩=>hc pins s1 σ H1 vs us Q I1 r1 q1) he hpl
end
end L2
namespace HT
open PySem PyProof.Rows
section
variable{prog:Program}{w:World}{A:Around}{E:Value->Shared->Prop}{s:Shared}
def sIx(n d:Nat):Option Int->Nat
 | none=>d
 | some v=>if v<0 then(v+(n:Int)).toNat else min v.toNat n
theorem sIx_none(n d:Nat):sIx n d none=d:=rfl
theorem sIx_nat(n d k:Nat):sIx n d (some (k:Int))=min k n:=by
 show(if(k:Int)<0 then((k:Int)+(n:Int)).toNat else min (k:Int).toNat n)=min k n;rw[if_neg (by omega),rM]
end
end HT
namespace L2
open PySem PySem.Spec PyProof.Rows
abbrev TO:=St->Hp->(Option Int->Hp->Prop)->Prop
def PO(X:Cx)(e:Option Expr)(t:TO):Prop :=
 ∀(pins:List (Addr×Obj)) (s:Shared) (σ:St) (H:Hp) (Q:Option Int->Hp->Prop),Inv X pins σ H s->t σ H Q ->
  wpAny (model X.prog X.w) X.A (evalPart e X.env) (λu s'=>∃o H',Inv X pins σ H' s'/\IsPart u o/\Q o H') X.xe s
def tNoPart:TO:=λ_ H Q=>Q none H
def tPart(t:TE):TO:=λσ H Q=>t σ H λx H1=>∃i,x=.int i/\Q (some i) H1
section
variable{X:Cx}{e:Expr}{te:TE}{lo hi:Option Expr}{tl th:TO}{pos p2:Pos}
theorem po_none:PO X none tNoPart:=by
 intro pins s σ H Q I h;rw[evalPart_none];exact qQ ⟨none,H,I,.none,h⟩
theorem qaY(h:PE X e te):PO X (some e) (tPart te):=by
 intro pins s σ H Q I hw;rw[evalPart_some];refine thn (h pins s σ H _ I hw) λu s1 ⟨x,H1,I1,r1,q1⟩=>?_
 obtain⟨i,rfl,q⟩:=q1;obtain⟨t,rfl⟩:=r1;exact⟨some i,H1,I1,.int i t,q⟩
def SlR(X:Cx)(r:V->Option Int->Option Int->Hp->VK->Prop):Prop :=
 ∀(pins:List (Addr×Obj)) (s:Shared) (σ:St) (H:Hp) (x:V) (v vl vu:Value) (lo hi:Option Int) (sl:Addr) (Q:VK),Inv X pins σ H s->RelV x v->s.heap.IsSliceOf sl vl vu .none->IsPart vl lo->IsPart vu hi->r x lo hi H Q ->
  ∃T id,typeLookup (.type T) "__getitem__" = pure (some (.builtin id))/\s.TypeIs v T/\wpAny (model X.prog X.w) X.A (getItem v (.ref sl)) (EP X pins σ Q) X.xe s
def tSl(r:V->Option Int->Option Int->Hp->VK->Prop)(te:TE)(tl th:TO):TE:=λσ H Q=>te σ H λx H1=>tl σ H1 λl H2=>th σ H2 λu H3=>r x l u H3 Q
theorem qaX{r:V->Option Int->Option Int->Hp->VK->Prop}(hr:SlR X r)(he:PE X e te)(hl:PO X lo tl)(hu:PO X hi th):PE X (.Subscript e (.Slice lo hi none p2) pos) (tSl r te tl th):=by
 intro pins s σ H Q I h;refine Subscript_ (thn (he pins s σ H _ I h) λv s1 ⟨x,H1,I1,r1,q1⟩=>?_);refine wpAny_Slice (thn (hl pins s1 σ H1 _ I1 q1) λvl s2 ⟨l,H2,I2,pl,q2⟩=>thn (hu pins s2 σ H2 _ I2 q2) λvu s3 ⟨u,H3,I3,pu,q3⟩=>?_);rw[evalPart_none];refine qQ ?_;have I4:Inv X pins σ H3 {s3 with heap:=s3.heap.push {cls:=.type "slice",data:=.fields #[vl,vu,.none]}}:=I3.kept (t':=s3.toks) λb ob q=>qI _ q
 obtain⟨T,id,hT,ht,hg⟩:=hr pins {s3 with heap:=s3.heap.push {cls:=.type "slice",data:=.fields #[vl,vu,.none]}} σ H3 x v vl vu l u s3.heap.objs.size Q I4 r1 (Heap.IsSliceOf.new ..) pl pu q3;show wpAny (model X.prog X.w) X.A (subscriptTail e (.Slice lo hi none p2) v (.ref s3.heap.objs.size)) (EP X pins σ Q) X.xe {s3 with heap:=s3.heap.push {cls:=.type "slice",data:=.fields #[vl,vu,.none]}};exact tail_any (ops:=[.ref s3.heap.objs.size,v]) ht hT hg (by with_unfolding_all rfl)
def cutV(xs:List V)(lo hi:Option Int):List V:=(xs.drop (HT.sIx xs.length 0 lo)).take (HT.sIx xs.length xs.length hi-HT.sIx xs.length 0 lo)
theorem cutV_length(xs:List V)(lo hi:Option Int):(cutV xs lo hi).length<=xs.length:=by
 unfold cutV;rw[rN,rW];omega
end
def ixN(n:Nat)(i:Int):Option Nat:=if 0<=i then(if i<n then some i.toNat else none)else if -(n:Int)<=i then some (i+n).toNat else none
def atI{α:Type}(xs:List α)(i:Int):Option α:=(ixN xs.length i).bind λj=>xs[j]?
theorem qhE{n:Nat}{i:Int}{j:Nat}(h:ixN n i=some j):seqIndex? i n=some j/\j<n/\-(n:Int)<=i/\i<n:=by
 unfold ixN at h
 by_cases h0:0<=i
 ·rw[if_pos h0]at h
  by_cases h1:i<n
  ·rw[if_pos h1]at h;have e:i.toNat=j:=rD h;exact⟨by rw[seqIndex_of h0 h1,e],by omega,by omega,h1⟩
  ·rw[if_neg h1]at h;cases h
 ·rw[if_neg h0]at h
  by_cases h1:-(n:Int)<=i
  ·rw[if_pos h1]at h;have e:(i+n).toNat=j:=rD h;exact⟨by rw[seqIndex_neg (by omega) h1,e],by omega,h1,by omega⟩
  ·rw[if_neg h1]at h;cases h
theorem qgi{α:Type}{xs:List α}{i:Int}{v:α}(h:atI xs i=some v):∃j,seqIndex? i xs.length=some j/\xs[j]?=some v/\j<xs.length/\-(xs.length:Int)<=i/\i<xs.length:=by
 unfold atI at h;cases e:ixN xs.length i with
 | none=>rw[e]at h;cases h
 | some j =>
   rw[e]at h
   obtain⟨h1,h2,h3,h4⟩:=qhE e
   exact⟨j,h1,h,h2,h3,h4⟩
theorem qbV{α:Type}{xs:List α}{j:Nat}{v:α}(h:xs[j]?=some v):atI xs (j:Int)=some v:=by
 have hj:j<xs.length:=(qD.mp h).1;have e:ixN xs.length (j:Int)=some j:=by
  unfold ixN;rw[if_pos (by omega),if_pos (by omega)];simp
 unfold atI;rw[e];exact h
def PlainIx(b:Expr):Prop:=∀o i,subscripted b false o i=operate [o,i] (getItem o i)
def IxR(X:Cx)(r:R2):Prop :=
 ∀(value slice:Expr) (pins:List (Addr×Obj)) (s:Shared) (σ:St) (H:Hp) (x y:V) (v u:Value) (Q:VK),Inv X pins σ H s->RelV x v->RelV y u->r x y H Q ->
  subscripted slice false v u=operate [v,u] (getItem v u)->wpAny (model X.prog X.w) X.A (subscriptTail value slice v u) (EP X pins σ Q) X.xe s
def MtR(X:Cx)(id:String)(r:V->List V->Hp->VK->Prop):Prop :=
 ∀(pins:List (Addr×Obj)) (s:Shared) (σ:St) (H:Hp) (x:V) (xs:List V) (v:Value) (us:List Value) (Q:VK),Inv X pins σ H s->RelV x v->Vals xs us->r x xs H Q ->
  wpAny (model X.prog X.w) X.A (call (.builtin id) (v::us)) (EP X pins σ Q) X.xe s
section
variable{X:Cx}{a b:Expr}{ta tb:TE}{pos:Pos}
theorem qan{r:R2}(hr:IxR X r)(ha:PE X a ta)(hb:PE X b tb)(hs:PlainIx b):PE X (.Subscript a b pos) (tOp r ta tb):=by
 intro pins s σ H Q I h;exact Subscript_ (binT ha hb I h λv u s2 x y H2 I2 rx ry q=>hr a b pins s2 σ H2 x y v u Q I2 rx ry q (hs _ _))
def rIxL(K:W.Frag):R2:=λx y H Q=>∃p xs i v,x=.ref p/\y=.int i/\SqL K H p xs/\atI xs i=some v/\Q v H
def rIxT(K:W.Frag):R2:=λx y H Q=>∃p xs i v,x=.ref p/\y=.int i/\SqT K H p xs/\atI xs i=some v/\Q v H
def rIxS:R2:=λx y H Q=>∃z i c,x=.str z/\y=.int i/\z.length<=sizeLine/\atI z.cps.toList i=some c/\Q (.str ⟨#[c]⟩) H
theorem ix_list:IxR X (rIxL X.K):=by
 intro value slice pins s σ H x y v u Q I rx ry h hs;obtain⟨p,xs,i,z,rfl,rfl,hq,he,q⟩:=h;cases rx;obtain⟨t,rfl⟩:=ry;obtain⟨its,r,pl,hz⟩:=I.list hq;obtain⟨j,h1,h2,h3,h4,h5⟩:=qgi he;obtain⟨w,ew,rw'⟩:=r.get h2;have hl:=r.length;have hn:=line63;have fin:EP X pins σ Q w s:=⟨z,H,I,rw',q⟩
 by_cases h0:0<=i
 ·have hj:i.toNat=j:=by
   rw[seqIndex_of h0 h5]at h1;exact rD h1
  exact item_listR pl.isList h0 (by omega) (by rw[hj];simpa using ew) fin hs
 ·have hj:(i+(its.toArray.size:Int)).toNat=j:=by
   rw[seqIndex_neg (by omega) h4]at h1;rw[rK,<-hl];exact rD h1
  exact vH (x:=w) pl.isList.typeIs slot_list_getitem.lookup
   (wpAny_getItem_list_neg (Q:=λr s'=>r=w/\EP X pins σ Q r s') pl.isList (by omega) (by rw[rK]<;>omega) (by omega) (by rw[hj];simpa using ew) ⟨rfl,fin⟩) hs
theorem ix_tup:IxR X (rIxT X.K):=by
 intro value slice pins s σ H x y v u Q I rx ry h hs;obtain⟨p,xs,i,z,rfl,rfl,hq,he,q⟩:=h;cases rx;obtain⟨t,rfl⟩:=ry;obtain⟨its,r,pl,hz⟩:=I.tuple hq;obtain⟨j,h1,h2,h3,h4,h5⟩:=qgi he;obtain⟨w,ew,rw'⟩:=r.get h2;have hl:=r.length;have hn:=line63;have fin:EP X pins σ Q w s:=⟨z,H,I,rw',q⟩;exact vH (x:=w) pl.typeIs slot_tuple_getitem.lookup
  (getItem_tuple (j:=j) (Q:=λr s'=>r=w/\EP X pins σ Q r s') pl (by omega) (by omega) (by rw[rK,<-hl];exact h1) (by simpa using ew) ⟨rfl,fin⟩) hs
theorem ix_str:IxR X rIxS:=by
 intro value slice pins s σ H x y v u Q I rx ry h hs;obtain⟨z,i,c,rfl,rfl,hz,he,q⟩:=h;obtain⟨t,rfl⟩:=rx;obtain⟨t',rfl⟩:=ry;obtain⟨j,h1,h2,h3,h4,h5⟩:=qgi he;have hl:z.cps.toList.length=z.length:=by simp[Str.length]
 rw[hl]at h1 h4 h5;have hn:=line63;exact tail_any (u5 s z t) slot_str_getitem.lookup (getItem_str (c:=c) (by
  have e1:decide (i < -(2 ^ 63:Int))=false:=qC (by omega);have e2:decide (i≥2 ^ 63)=false:=qC (by omega);rw[e1,e2,Bool.or_false]) (by rw[h1];simpa using h2) ⟨.str ⟨#[c]⟩,H,I.tok _,⟨_,rfl⟩,q⟩) hs
theorem mapSeq_set(its:List Value)(n j:Nat)(u:Value):Obj.mapSeq (·.setIfInBounds j u) {cls:=.type "list",data:=.seq its.toArray n}={cls:=.type "list",data:=.seq (its.set j u).toArray n}:=by
 simp[Obj.mapSeq]
theorem Inv.lst{pins:List (Addr×Obj)}{σ:St}{H:Hp}{s:Shared}{p:Addr}{xs:List V}(I:Inv X pins σ H s)(h:H p=some (.lst xs)) :
  ∃(its:List Value) (n:Nat),Vals xs its/\s.heap.get? p=some {cls:=.type "list",data:=.seq its.toArray n}/\xs.length<=sizeLine:=by
 obtain⟨z,its,n,r,e⟩:=I.hok p _ h;exact⟨its,n,r,e,z⟩
theorem Inv.lstUpd{pins:List (Addr×Obj)}{σ:St}{H:Hp}{s:Shared}{p:Addr}{xs ys:List V}{its its':List Value}{n n':Nat}{f:Obj->Obj}(I:Inv X pins σ H s)(h:H p=some (.lst xs))(ho:s.heap.get? p=some {cls:=.type "list",data:=.seq its.toArray n})(hf:f {cls:=.type "list",data:=.seq its.toArray n}={cls:=.type "list",data:=.seq its'.toArray n'})(r:Vals ys its')(hz:ys.length<=sizeLine)(t:Nat) :
  Inv X pins σ (upd H p (.lst ys)) {s with heap:=s.heap.update p f,toks:=t}:=by
 have e:(s.heap.update p f).get? p=some {cls:=.type "list",data:=.seq its'.toArray n'}:=by
  rw[yO f ho (by rw[hf]<;>rfl),hf]
 refine I.write (x:=p) (e:=p) (by rw[h];trivial) (.inl rfl) (λb u hb q=>(uO _ _ (Ne.symm hb)).trans q) ⟨_,e⟩ ?_;exact⟨hz,its',n',r,e⟩
def rSetL:V->V->V->Hp->(Hp->Prop)->Prop:=λo i v H Q=>∃p xs k j,o=.ref p/\i=.int k/\H p=some (.lst xs)/\ixN xs.length k=some j/\Q (upd H p (.lst (xs.set j v)))
theorem set_list:PSet X rSetL:=by
 intro pins s σ H o i v ov iv u Q I ro ri rv h;obtain⟨p,xs,k,j,rfl,rfl,hp,hj,q⟩:=h;cases ro;obtain⟨t,rfl⟩:=ri;obtain⟨its,n,r,ho,hz⟩:=I.lst hp;obtain⟨h1,h2,h3,h4⟩:=qhE hj;have hl:=r.length;have hn:=line63;have I':Inv X pins σ (upd H p (.lst (xs.set j v))) {s with heap:=s.heap.update p (Obj.mapSeq (·.setIfInBounds j u))} :=
  I.lstUpd hp ho (mapSeq_set its n j u) (r.set rv j) (by rw[List.length_set];exact hz) s.toks
 by_cases h0:0<=k
 ·have hk:k.toNat=j:=by
   rw[seqIndex_of h0 h4]at h1;exact rD h1
  exact PySem.W.ki_setAt ho h0 (by omega) (by rw[rK,<-hl];exact h4) (by rw[hk];exact⟨_,I',q⟩)
 ·have hk:(k+(its.toArray.size:Int)).toNat=j:=by
   rw[seqIndex_neg (by omega) h3]at h1;rw[rK,<-hl];exact rD h1
  exact PySem.W.ki_setBack ho (by omega) (by rw[rK,<-hl];exact h3) (by omega) (by rw[hk];exact⟨_,I',q⟩)
theorem slice_bounds(lo hi:Option Int)(n:Nat):(sliceBounds lo hi none n).1=((HT.sIx n 0 lo:Nat):Int)/\(sliceBounds lo hi none n).2.1=((HT.sIx n n hi:Nat):Int)/\(sliceBounds lo hi none n).2.2=1:=by
 refine⟨?_,?_,rfl⟩
 ·cases lo with
  | none=>simp[sliceBounds,HT.sIx]
  | some i =>
    simp only[sliceBounds,HT.sIx,Option.getD_none,show(1:Int)>0 by decide,if_true]
    by_cases h:i<0
    · simp only[h,if_true]<;>omega
    · simp only[h,if_false]<;>omega
 ·cases hi with
  | none=>simp[sliceBounds,HT.sIx]
  | some i =>
    simp only[sliceBounds,HT.sIx,Option.getD_none,show(1:Int)>0 by decide,if_true]
    by_cases h:i<0
    · simp only[h,if_true]<;>omega
    · simp only[h,if_false]<;>omega
theorem slicePick_cut(its:List Value)(lo hi:Option Int):slicePick its.toArray lo hi none=((its.drop (HT.sIx its.length 0 lo)).take (HT.sIx its.length its.length hi-HT.sIx its.length 0 lo)).toArray:=by
 obtain⟨h1,h2,h3⟩:=slice_bounds lo hi its.toArray.size;unfold slicePick;rw[h1,h2,h3];simp only[sliceRange_one,pick_run,List.size_toArray]<;>rfl
def rSlL(K:W.Frag):V->Option Int->Option Int->Hp->VK->Prop:=λx lo hi H Q=>∃a xs,x=.ref a/\SqL K H a xs/\∀p,H p=none->Q (.ref p) (upd H p (.lst (cutV xs lo hi)))
theorem sl_list:SlR X (rSlL X.K):=by
 intro pins s σ H x v vl vu lo hi sl Q I rx hs pl pu h;obtain⟨a,xs,rfl,hx,q⟩:=h;cases rx;obtain⟨its,r,ht,hz⟩:=I.list hx;have hlen:=r.length;refine⟨"list",_,slot_list_getitem.lookup,ht.isList.typeIs,?_⟩;refine wpAny_getItem_list_slice ht.isList hs pl pu .none (by simp) ?_ (by rw[List.size_toArray]<;>omega);rw[slicePick_cut,<-hlen];refine⟨.ref s.heap.objs.size,_,I.laid (t':=s.toks) (o:=.lst (cutV xs lo hi)) (λb ob q=>qI _ q) (qG _) ?_,rfl,q _ (I.hok.fresh (qG _))⟩;exact⟨qR (cutV_length xs lo hi) hz,_,0,(r.drop (HT.sIx xs.length 0 lo)).take (HT.sIx xs.length xs.length hi-HT.sIx xs.length 0 lo),rB _ rfl⟩
def flatV:V->Bool
 | .non=>true
 | .bl _=>true
 | .int _=>true
 | .str _=>true
 | _=>false
def eqV:V->V->Bool
 | .non,.non=>true
 | .bl a,.bl b=>a == b
 | .bl a,.int b=>(if a then 1 else 0) == b
 | .int a,.bl b=>a == (if b then 1 else 0)
 | .int a,.int b=>a == b
 | .str a,.str b=>a == b
 | _,_=>false
theorem eqAt_V{A:Around}{s:Shared}{y x:V}{u v:Value}(ry:RelV y u)(rx:RelV x v)(fy:flatV y=true)(fx:flatV x=true):SeqAt.EqAt A s u v (eqV y x):=by
 cases y with
 | non =>
   cases ry
   cases x with
   | non=>cases rx;exact SeqAt.EqAt.same _
   | bl b=>cases rx;exact SeqAt.EqAt.none_bool b
   | int b=>obtain⟨t,rfl⟩:=rx;exact SeqAt.EqAt.none_int b t
   | str b=>obtain⟨t,rfl⟩:=rx;exact SeqAt.EqAt.none_str b t
   | _=>exact absurd (show false=true from fx) qL
 | bl a =>
   cases ry
   cases x with
   | non=>cases rx;exact SeqAt.EqAt.bool_none a
   | bl b=>cases rx;exact SeqAt.EqAt.bool_bool a b
   | int b=>obtain⟨t,rfl⟩:=rx;exact SeqAt.EqAt.bool_int a b t
   | str b=>obtain⟨t,rfl⟩:=rx;exact SeqAt.EqAt.bool_str a b t
   | _=>exact absurd (show false=true from fx) qL
 | int a =>
   obtain⟨t',rfl⟩:=ry
   cases x with
   | non=>cases rx;exact SeqAt.EqAt.int_none a t'
   | bl b=>cases rx;exact SeqAt.EqAt.int_bool a t' b
   | int b=>obtain⟨t,rfl⟩:=rx;exact SeqAt.EqAt.int_int a t' b t
   | str b=>obtain⟨t,rfl⟩:=rx;exact SeqAt.EqAt.int_str a t' b t
   | _=>exact absurd (show false=true from fx) qL
 | str a =>
   obtain⟨t',rfl⟩:=ry
   cases x with
   | non=>cases rx;exact SeqAt.EqAt.str_none a t'
   | bl b=>cases rx;exact SeqAt.EqAt.str_bool a t' b
   | int b=>obtain⟨t,rfl⟩:=rx;exact SeqAt.EqAt.str_int a t' b t
   | str b=>obtain⟨t,rfl⟩:=rx;exact SeqAt.EqAt.str_str a t' b t
   | _=>exact absurd (show false=true from fx) qL
 | _=>exact absurd (show false=true from fy) qL
def eqU(x:V)(u:Value):Bool:=match u with
 | .none=>eqV .non x
 | .bool b=>eqV (.bl b) x
 | .int i _=>eqV (.int i) x
 | .str z _=>eqV (.str z) x
 | _=>false
theorem qin{x y:V}{u:Value}(r:RelV y u)(f:flatV y=true):eqU x u=eqV y x:=by
 cases y with
 | non=>cases r;rfl
 | bl b=>cases r;rfl
 | int i=>obtain⟨t,rfl⟩:=r;rfl
 | str z=>obtain⟨t,rfl⟩:=r;rfl
 | _=>exact absurd (show false=true from f) qL
theorem qep{x:V}:∀{xs:List V} {us:List Value},Vals xs us->xs.all flatV=true->us.any (eqU x)=xs.any λy=>eqV y x
 | _,_,.nil,_=>rfl
 | y :: xs, u :: us, .cons r t, f => by
   rw[wU,rG]at f
   rw[xQ,xQ,qin r f.1,qep t f.2]
theorem qdC{A:Around}{s:Shared}{x:V}{v:Value}(rx:RelV x v)(fx:flatV x=true):∀{xs:List V} {us:List Value},Vals xs us->xs.all flatV=true->∀u∈us,SeqAt.EqAt A s u v (eqU x u)
 | _,_,.nil,_=>λu hu=>by cases hu
 | y :: xs, u :: us, .cons r t, f => λu' hu => by
   rw[wU,rG]at f
   rcases qO.mp hu with rfl | hu
   · rw[qin r f.1];exact eqAt_V r rx f.1 fx
   · exact qdC rx fx t f.2 u' hu
def inV(x:V)(xs:List V):Bool:=xs.any λy=>eqV y x
def rIn(K:W.Frag)(neg:Bool):R2:=λx y H Q=>∃p xs,y=.ref p/\(SqL K H p xs\/SqT K H p xs)/\flatV x=true/\xs.all flatV=true/\Q (.bl (if neg then !inV x xs else inV x xs)) H
theorem op_in_seq:OpR X (compareOp .In) (rIn X.K false):=by
 intro pins s σ H x y v u Q I rx ry h;obtain⟨p,xs,rfl,hq,fx,fs,q⟩:=h;cases ry;rcases hq with hq | hq
 ·obtain⟨its,r,pl,hz⟩:=I.list hq;refine SeqAt.in_listAt (eqU x) pl.isList (λw hw=>qdC rx fx r fs w (by simpa using hw)) ⟨.bl _,H,I,rfl,?_⟩;rw[show its.toArray.any (eqU x)=its.any (eqU x) by simp,qep r fs];exact q
 ·obtain⟨its,r,pl,hz⟩:=I.tuple hq;refine SeqAt.in_tupleAt (eqU x) pl (λw hw=>qdC rx fx r fs w (by simpa using hw)) ⟨.bl _,H,I,rfl,?_⟩;rw[show its.toArray.any (eqU x)=its.any (eqU x) by simp,qep r fs];exact q
theorem op_notIn_seq:OpR X (compareOp .NotIn) (rIn X.K true):=by
 intro pins s σ H x y v u Q I rx ry h;obtain⟨p,xs,rfl,hq,fx,fs,q⟩:=h;cases ry;rcases hq with hq | hq
 ·obtain⟨its,r,pl,hz⟩:=I.list hq;refine SeqAt.notIn_listAt (eqU x) pl.isList (λw hw=>qdC rx fx r fs w (by simpa using hw)) ⟨.bl _,H,I,rfl,?_⟩;rw[show its.toArray.any (eqU x)=its.any (eqU x) by simp,qep r fs];exact q
 ·obtain⟨its,r,pl,hz⟩:=I.tuple hq;refine SeqAt.notIn_tupleAt (eqU x) pl (λw hw=>qdC rx fx r fs w (by simpa using hw)) ⟨.bl _,H,I,rfl,?_⟩;rw[show its.toArray.any (eqU x)=its.any (eqU x) by simp,qep r fs];exact q
theorem call_len_seq:qc8 X (.builtin "len") (λxs H Q=>∃p ys,xs=[.ref p]/\(SqL X.K H p ys\/SqT X.K H p ys)/\Q (.int ys.length) H):=by
 intro pins s σ H xs us Q I r h;obtain⟨p,ys,rfl,hq,q⟩:=h;obtain⟨u,rfl,rx⟩:=qd2 r;cases rx;have hn:=line63;rcases hq with hq | hq
 ·obtain⟨its,r',pl,hz⟩:=I.list hq;have hlen:=r'.length;exact Calls.call_len_list pl.isList (by simp only[List.size_toArray]<;>omega) ⟨.int ys.length,H,I.tok _,⟨s.toks+1,by rw[rK,hlen]⟩,q⟩
 ·obtain⟨its,r',pl,hz⟩:=I.tuple hq;have hlen:=r'.length;exact len_tuple pl (by simp only[List.size_toArray]<;>omega) ⟨.int ys.length,H,I.tok _,⟨s.toks+1,by rw[rK,hlen]⟩,q⟩
theorem call_len_str:qc8 X (.builtin "len") (λxs H Q=>∃z,xs=[.str z]/\z.length<=sizeLine/\Q (.int z.length) H):=by
 intro pins s σ H xs us Q I r h;obtain⟨z,rfl,hz,q⟩:=h;obtain⟨u,rfl,t,rfl⟩:=qd2 r;have hn:=line63;exact len_str (by omega) ⟨.int z.length,H,I.tok _,⟨_,rfl⟩,q⟩
theorem call_list_of:qc8 X (.type "list") (λxs H Q=>∃p ys,xs=[.ref p]/\(SqL X.K H p ys\/SqT X.K H p ys)/\∀l,H l=none->Q (.ref l) (upd H l (.lst ys))):=by
 intro pins s σ H xs us Q I r h;obtain⟨p,ys,rfl,hq,q⟩:=h;obtain⟨u,rfl,rx⟩:=qd2 r;cases rx;have fin:∀(its:List Value),Vals ys its->ys.length<=sizeLine->∀(h':Heap) (c':Nat),(∀b o',s.heap.get? b=some o'->h'.get? b=some o') ->
   h'.get? s.heap.objs.size=some {cls:=.type "list",dict:=none,data:=.seq its.toArray c',slots:=#[]}->EP X pins σ Q (.ref s.heap.objs.size) {s with heap:=h'}:=λits r' hz h' c' kp e =>
  ⟨.ref s.heap.objs.size,_,I.laid (t':=s.toks) kp (qG _) (show ObjOk X.prog X.w _ h' _ (.lst ys)from⟨hz,its,c',r',e⟩),rfl,q _ (I.hok.fresh (qG _))⟩
 rcases hq with hq | hq
 ·obtain⟨its,r',pl,hz⟩:=I.list hq;have hlen:=r'.length;obtain⟨o,ho,hc,n,hd⟩:=pl.isList;exact call_list_seq p (.inl rfl) ho hc hd (λh' c' kp e=>fin its r' hz h' c' kp e) (by simp only[List.size_toArray]<;>omega)
 ·obtain⟨its,r',pl,hz⟩:=I.tuple hq;have hlen:=r'.length;obtain⟨o,ho,hc,n,hd⟩:=pl;exact call_list_seq p (.inr rfl) ho hc hd (λh' c' kp e=>fin its r' hz h' c' kp e) (by simp only[List.size_toArray]<;>omega)
def tyV(K:W.Frag)(T:String)(x:V)(H:Hp):Prop:=match x with
 | .str _=>T = "str"
 | .int _=>T = "int"
 | .ref p=>(T = "list" /\ ∃xs,SqL K H p xs)\/(T = "tuple" /\ ∃o,K.lookup p=some o/\o.cls=.type "tuple" /\ o.dict=none) \/
   (T = "dict" /\ ((∃kvs,H p=some (.dK kvs))\/∃kvs,H p=some (.dT kvs)))\/(T = "set" /\ ∃S n,H p=some (.set S n))
 | _=>False
theorem tyV_is{pins:List (Addr×Obj)}{σ:St}{H:Hp}{s:Shared}{T:String}{x:V}{v:Value}(I:Inv X pins σ H s)(r:RelV x v)(ty:tyV X.K T x H) :
  s.TypeIs v T/\∀a,v=.ref a->∃ob,s.heap.get? a=some ob/\ob.dict=none:=by
 cases x with
 | str z =>
   obtain⟨t,rfl⟩:=r
   cases(show T = "str" from ty)
   exact⟨u5 s z t,λ_ e=>nomatch e⟩
 | int i =>
   obtain⟨t,rfl⟩:=r
   cases(show T = "int" from ty)
   exact⟨typeIs_int s i t,λ_ e=>nomatch e⟩
 | ref p =>
   cases r
   rcases ty with⟨rfl,xs,hq⟩ | ⟨rfl,o,hk,hc,hd⟩ | ⟨rfl,hk⟩ | ⟨rfl,S,n,hk⟩
   · obtain⟨its,_,pl,_⟩:=I.list hq
     refine⟨pl.isList.typeIs,λa e=>?_⟩
     cases e
     obtain⟨o,n,e,c,hd,_⟩:=pl
     exact⟨o,e,hd⟩
   · refine⟨⟨o,I.kIn p o hk,hc⟩,λa e=>?_⟩
     cases e
     exact⟨o,I.kIn _ o hk,hd⟩
   · have z:∃o,s.heap.get? p=some o/\o.ExactDict:=by
       rcases hk with⟨kvs,hk⟩ | ⟨kvs,hk⟩
       · obtain⟨_,_,_,_,o,_,_,e,ex,_⟩:=I.hok p _ hk
         exact⟨o,e,ex⟩
       · obtain⟨_,_,_,_,o,_,_,e,ex,_⟩:=I.hok p _ hk
         exact⟨o,e,ex⟩
     obtain⟨o,e,ex⟩:=z
     refine⟨⟨o,e,ex.1⟩,λa e2=>?_⟩
     cases e2
     exact⟨o,e,ex.2.1⟩
   · obtain⟨o,_,_,_,e,ex,_⟩:=I.hok p _ hk
     refine⟨⟨o,e,ex.1⟩,λa e2=>?_⟩
     cases e2
     exact⟨o,e,ex.2.1⟩
 | _=>exact False.elim ty
def tBM(K:W.Frag)(T:String)(r:V->List V->Hp->VK->Prop)(to:TE)(t:TA):TE:=λσ H Q=>to σ H λx H1=>tyV K T x H1/\t σ H1 λxs H2=>r x xs H2 Q
variable{o e:Expr}{es:List Expr}{to:TE}{t:TA}{name:Str}{apos cpos:Pos}{T id:String}{r:V->List V->Hp->VK->Prop}
theorem qbp(pa:PlainAttrs T)(slot:Slot T name id)(hty:typeOf (.builtin id)=pure (.type "method_descriptor"))(hm:MtR X id r)(ho:PE X o to)(ha:PA X (e::es) t)(hbase:attributeBase o name X.env (eval o X.env)=eval o X.env:=by rfl)(hfew:((backTo cpos (starEach (e::es) X.env)).all (λx=>!x.1) && (backToKw cpos (keywordEach [] X.env)).all (λx=>x.1.isSome)
   && decide ((e::es).length+([]:List Keyword).length+(if([]:List Keyword).isEmpty then 0 else 1)<30))=true:=by rfl)(hline:(apos.endLine == cpos.line)=true:=by rfl)(hs:starEach (e::es) X.env=(false,eval e X.env)::starEach es X.env:=by rfl)(hplain:(backTo cpos (starEach es X.env)).any (·.1)=false:=by rfl) :
  PE X (.Call (.Attribute o name apos) (e::es) [] cpos) (tBM X.K T r to t):=by
 intro pins s σ H Q I h;refine wpAny_Call_method_late hbase hfew hline rfl (thn (ho pins s σ H _ I h) λv s1 ⟨x,H1,I1,r1,ty,q1⟩=>?_);obtain⟨h1,h2⟩:=tyV_is I1 r1 ty;refine⟨T,id,pa,slot,hty,h1,h2,?_⟩;have hA:=ha cpos pins s1 σ H1 _ I1 q1;rw[hs]at hA⊢;refine Calls.callWith_builtin (by show(false || (backTo cpos (starEach es X.env)).any (·.1))=false;rw[hplain]<;>rfl) (Calls.evalArgs_plain ?_);exact thn hA λus s2 ⟨vs,H2,I2,r2,q2⟩=>hm pins s2 σ H2 x vs v us Q I2 r1 r2 q2
end
def MtM(X:Cx)(id:String)(r:V->List V->Hp->VK->Prop):Prop :=
 ∀(pins:List (Addr×Obj)) (s:Shared) (σ:St) (H:Hp) (x:V) (xs:List V) (v:Value) (us:List Value) (Q:VK),Inv X pins σ H s->RelV x v->Vals xs us->r x xs H Q ->
  wpAny (model X.prog X.w) X.A (call (.builtin id) (v::us)) (EP X pins σ Q) X.xe s
theorem Vals.one:∀{x:V} {us:List Value},Vals [x] us->∃u,us=[u]/\RelV x u
 | _,_,.cons r .nil=>⟨_,rfl,r⟩
section
variable{X:Cx}{pins:List (Addr×Obj)}{σ:St}{H:Hp}{s:Shared}{l b:Addr}{xs ys zs:List V}
theorem Inv.lset{its its':List Value}{n:Nat}{f:Array Value->Array Value}{t':Nat}(I:Inv X pins σ H s)(hH:H l=some (.lst xs))(e:s.heap.get? l=some {cls:=.type "list",data:=.seq its.toArray n})(hf:f its.toArray=its'.toArray)(hv:Vals ys its')(hz:ys.length<=sizeLine) :
  Inv X pins σ (upd H l (.lst ys)) {s with heap:=s.heap.update l (Obj.mapSeq f),toks:=t'}:=by
 have q:=PySem.IsL.update e f;rw[hf]at q;refine I.write (x:=l) (e:=l) (by rw[hH];exact trivial) (.inl rfl) (λb' u hb hu=>(uO s.heap (Obj.mapSeq f) (Ne.symm hb)).trans hu) ⟨_,q⟩ ?_;exact⟨hz,its',_,hv,q⟩
theorem Inv.lnew{its:List Value}{t':Nat}(I:Inv X pins σ H s)(hv:Vals ys its)(hz:ys.length<=sizeLine) :
  Inv X pins σ (upd H s.heap.objs.size (.lst ys)) {s with heap:=s.heap.push {cls:=.type "list",data:=.seq its.toArray},toks:=t'} :=
 I.laid (λ_ _ q=>qI _ q) (qG _) ⟨hz,its,0,hv,rB _ rfl⟩
theorem Inv.fresh(I:Inv X pins σ H s):H s.heap.objs.size=none:=I.hok.fresh (qG _)
theorem Inv.lstM(I:Inv X pins σ H s)(hH:H l=some (.lst xs)):xs.length<=sizeLine/\∃(its:List Value) (n:Nat),Vals xs its/\xs.length=its.length/\s.heap.get? l=some {cls:=.type "list",data:=.seq its.toArray n}:=by
 obtain⟨z,its,n,r,e⟩:=I.hok l _ hH;exact⟨z,its,n,r,r.length,e⟩
theorem notLongL{n:Nat}(h:n<=sizeLine):Builtin.List.listTooLong n=false:=by
 unfold Builtin.List.listTooLong;exact qC (by omega)
end
section
variable{X:Cx}
def rAppend:V->List V->Hp->VK->Prop:=λx vs H Q=>∃l xs y,x=.ref l/\vs=[y]/\H l=some (.lst xs)/\xs.length<sizeLine/\Q .non (upd H l (.lst (xs++[y])))
theorem mt_append:MtM X "list.append" rAppend:=by
 intro pins s σ H x vs v us Q I rx rv h;obtain⟨l,xs,y,rfl,rfl,hH,hz,q⟩:=h;cases rx;obtain⟨u,rfl,ru⟩:=rv.one;obtain⟨z,its,n,r,hl,e⟩:=I.lstM hH;refine vY F.slot_list_append ⟨_,e,rfl⟩ F.entry_list_append (F.args_list_append_2 _ _) (PySem.list_append l its.toArray n u (by rw[rK];omega)) ⟨e,?_⟩;refine⟨.non,_,I.lset (its':=its++[u]) hH e (by simp) (r.append (.cons ru .nil)) ?_,rfl,q⟩;rw[qH,y4];omega
def rExtend:V->List V->Hp->VK->Prop:=λx vs H Q=>∃l b xs zs,x=.ref l/\vs=[.ref b]/\H l=some (.lst xs)/\H b=some (.lst zs)/\xs.length+zs.length<=sizeLine/\Q .non (upd H l (.lst (xs++zs)))
theorem mt_extend:MtM X "list.extend" rExtend:=by
 intro pins s σ H x vs v us Q I rx rv h;obtain⟨l,b,xs,zs,rfl,rfl,hH,hB,hz,q⟩:=h;cases rx;obtain⟨u,rfl,ru⟩:=rv.one;cases ru;obtain⟨z,its,n,r,hl,e⟩:=I.lstM hH;obtain⟨z2,its2,n2,r2,hl2,e2⟩:=I.lstM hB;have hsz:its.toArray.size+its2.toArray.size<=sizeLine:=by rw[rK,rK];omega
 have hlong:¬(!its.toArray.isEmpty && Builtin.List.listTooLong (its.toArray.size+its2.toArray.size))=true:=by
  rw[notLongL hsz,vE];exact qL
 refine vY F.slot_list_extend ⟨_,e,rfl⟩ F.entry_list_extend (F.args_list_extend_2 _ _)
  (AutoSeq1.list_extend_list_list_0 l its.toArray n b its2.toArray n2 hlong (by rw[rK];omega) (by omega)) ⟨e,e2,?_⟩
 refine⟨.non,_,I.lset (its':=its++its2) hH e (by simp) (r.append r2) ?_,rfl,q⟩;rw[qH];omega
def rCat:R2:=λx y H Q=>∃l b xs zs,x=.ref l/\y=.ref b/\H l=some (.lst xs)/\H b=some (.lst zs)/\xs.length+zs.length<=sizeLine/\∀p,H p=none->Q (.ref p) (upd H p (.lst (xs++zs)))
theorem op_cat:OpR X (binaryOp .Add) rCat:=by
 intro pins s σ H x y v u Q I rx ry h;obtain⟨l,b,xs,zs,rfl,rfl,hH,hB,hz,q⟩:=h;cases rx;cases ry;obtain⟨z,its,n,r,hl,e⟩:=I.lstM hH;obtain⟨z2,its2,n2,r2,hl2,e2⟩:=I.lstM hB;refine PySem.P.add_list e e2 ?_ (by rw[rK,rK];omega);have ea:its.toArray++its2.toArray=(its++its2).toArray:=by simp
 rw[ea];exact⟨.ref _,_,I.lnew (t':=s.toks) (r.append r2) (by rw[qH];omega),rfl,q _ I.fresh⟩
end
end L2
namespace Att
open PySem PySem.W PySem.Calls PyProof.Rows
theorem ints_of_wellAll{P:Params}{h:Heap}:∀(ns:List Int) (vs:List Value),WellAll P h vs (ns.map WData.int)->IntsAre vs ns:=by
 intro ns
 induction ns with
 | nil =>
   intro vs w
   rw[wK]at w
   cases w
   exact .nil
 | cons n ns ih =>
   intro vs w
   rw[rH]at w
   cases w with
   | cons a b =>
     cases a
     exact .cons _ _ (ih _ b)
theorem script_of{l:OpenLaw}{n:Nat}(hn:l.most=some n){P:Params}{h:Heap}{args:List WData}{vals:List Value}(hpre:l.row.toRowW.claim.pre args=true)(hwl:WellAll P h vals args) :
  ∃a vs ns,vals=[Value.ref a]/\args=[WData.list (ns.map WData.int)]/\h.get? a=some {cls:=.type "list",data:=.seq vs.toArray}/\IntsAre vs ns/\ns.length<=n:=by
 have hsh:WShape.hasAll [] args [.list .int]=true:=(pre_splitW hpre).1;have hc:l.pre.holds [] {args:=args}=true:=(pre_splitW hpre).2;obtain⟨d,r,rfl,h1,h2⟩:=hasAllW_cons hsh;obtain rfl:=hasAllW_nil h2;obtain⟨xs,rfl,h3⟩:=hasW_list h1;obtain⟨ns,rfl⟩:=items_int h3;have hlen:ns.length<=n:=by
  unfold OpenLaw.pre at hc;have h4:(WTm.not (.lt (.lit (.int (n:Int))) (.len (.arg 0)))).holds [] {args:=[.list (ns.map .int)]}=true:=by
   have h4:=(holds_andW hc).1;rw[hn]at h4;exact h4
  have h5:=condW_of h4 (w_not (w_lt w_lit (w_len_list (w_arg rfl))));rw[qA]at h5;refine u8 λq=>?_
  have q':(n:Int)<((ns.length:Nat):Int):=by omega
  first
   | (rw[qB q']at h5;exact absurd h5 (by decide))
   | (simp at h5;omega)
 cases hwl with
 | cons w1 w2 =>
   cases w2
   cases w1 with
   | list ho hall=>exact⟨_,_,ns,rfl,rfl,ho,ints_of_wellAll ns _ hall,hlen⟩
theorem post_true(l:OpenLaw)(args:List WData):l.row.toRowW.claim.post args (.bool true) args=true :=
 postW_of (r:=l.row.toRowW) (X:=(true == true))
  (show WShape.has [] (.bool true) .bool=true by first | rfl | decide | simp[WShape.has,WShape.arms,WShape.armsAll])
  (show(WTm.eq .res (.lit (.bool true))).value [] {args:=args,res:=some (.bool true),after:=args}=some (.bool (true == true))from w_eq_bool (w_res rfl) w_lit) rfl
theorem attach_call{l:OpenLaw}{n:Nat}{q:Program}{loose:List Str}{XP:(Str->Option Value)->Heap->Prop}{YP:World->Heap->Prop}{d:DefRec}(hn:l.most=some n)(hdf:d.params.defaults=[])(call:∀(w:World) (s₀ s₁:Shared) (mg mb:Str->Option Value) (fa:Addr) (o:Obj) (pm cd doc:Value) (a:Addr) (vs:List Value) (ns:List Int),
   Ground q loose [] XP w s₀ mg mb s₁.heap->YP w s₁.heap ->
   s₁.heap.get? fa=some o->o.data=.func (docDef d.name d.params d.body d.scope pm cd doc)->s₁.heap.CodeRec cd d.name->mg d.name=some (.ref fa) ->
   s₁.heap.get? a=some {cls:=.type "list",data:=.seq vs.toArray}->IntsAre vs ns->ns.length<=n->s₁.gens=#[] ->
   codeAny (model l.prog w) callerA (.call (.ref fa) ⟨[.ref a],[]⟩) (λr s'=>r=.ok (.ret (.bool true))/\OldK s₁.heap s'.heap/\s'.os=s₁.os/\AllBare s'.gens) s₁) :
  WalkO q loose XP YP l.row.toRowW d [] (λf vs=>PySem.call f vs):=by
 intro w s₀ s₁ mg mb G Y fa o pm cd doc dV kV ho hd hcd hD hmg hg args vals as hpre hlay hrd hwl hlo;obtain rfl:dV=.none:=Dflts.none hD hdf;obtain rfl:kV=.none:=Dflts.noKw hD;obtain⟨a,vs,ns,rfl,rfl,hobj,hints,hlen⟩:=script_of hn hpre hwl;refine enter_call (vA (call w s₀ s₁ mg mb fa o pm cd doc a vs ns G Y ho (fd_plain hd) hcd hmg hobj hints hlen hg) λr s' hq=>?_);obtain⟨rfl,h2,h3,h4⟩:=hq;exact⟨.inl ⟨.bool true,.bool true,[],rfl,λ_=>rfl,.bool true,post_true l _,λ_=>⟨List.Pairwise.nil,λ_ hm=>(nomatch hm)⟩⟩,h2,h3,h4⟩
end Att
namespace L2
open PySem PySem.Spec PyProof.Rows
theorem vals_ints:∀{vs:List Value} {ns:List Int},IntsAre vs ns->Vals (ns.map V.int) vs
 | _,_,.nil=>.nil
 | _,_,.cons n t h=>.cons ⟨t,rfl⟩ (vals_ints h)
def Only(H:Hp):Prop:=∀b,H b=none\/∃o xs,H b=some (.frz o (.lst xs))
theorem law_call{P:Program}{w:World}{K:W.Frag}{mg mb:Str->Option Value}{CX:CXT}{k:Nat}{fa a:Addr}{fd:FuncData}{x:Str}{sp:Sp}{s₁:Shared}{vs:List Value}{ns:List Int}(KX:K.In s₁.heap)(hns:s₁.heap.Ns mainGlobals mg)(hb:s₁.heap.Ns builtinsNs mb)(hbb:∀x:Str,x ≠ "__name__" -> mb x=bootBuiltins x)(hlim:s₁.heap.NoLimit)(hg:s₁.gens=#[])(ha:s₁.heap.get? a=some {cls:=.type "list",data:=.seq vs.toArray})(hi:IntsAre vs ns)(hl:ns.length<=sizeLine)(hr:Room k callerA)(F:∀base:Heap,K.In base->base.Ns mainGlobals mg->FnOk P w K mg base CX k fa fd [x] sp)(hbind:∀(s:Shared) (u:Value),BindsTo s fd ⟨[u],[]⟩ [(x,u)])(hsp:∀H:Hp,Only H->SqL K H a (ns.map V.int)->sp [.ref a] H (λv _=>v=.bl true) λ_ _ _=>False)(hCX:∀H e s',CX [] H s₁ (λ_ _ _=>False) e s'->False) :
  codeAny (model P w) callerA (.call (.ref fa) ⟨[.ref a],[]⟩) (λr s'=>r=.ok (.ret (.bool true))/\OldK s₁.heap s'.heap/\s'.os=s₁.os/\AllBare s'.gens) s₁:=by
 have rv:=vals_ints hi;have lenV:=hi.length;have core:∀H:Hp,Only H->SqL K H a (ns.map V.int)->HOk P w H s₁.heap->(∀b,H b≠none->b=a)->(H a≠none->K.lookup a=none) ->
   codeAny (model P w) callerA (.call (.ref fa) ⟨[.ref a],[]⟩) (λr s'=>r=.ok (.ret (.bool true))/\OldK s₁.heap s'.heap/\s'.os=s₁.os/\AllBare s'.gens) s₁:=by
  intro H hO hS hok hA hK;have base_of:∀{b:Addr} {o:Obj},s₁.heap.get? b=some o->H b=none->(hidT s₁.heap H).get? b=some o:=λe n=>hidT_get e n
  have noA:∀{b:Addr} {o:Obj} {es:Array DictEntry} {ep:Nat},s₁.heap.get? b=some o->o.data=.dict es ep->H b=none:=λ{b o es ep} e d=>by
   cases q:H b with
   | none=>rfl
   | some u =>
     have e':b=a:=hA b (by rw[q];simp)
     subst e'
     rw[ha]at e;cases e
     have d':Data.seq vs.toArray _=Data.dict es ep:=d
     cases d'
  have nsK:∀{b:Addr} {m:Str->Option Value},s₁.heap.Ns b m->(hidT s₁.heap H).Ns b m:=λ{b m} ⟨o,es,ep,e,d,r⟩=>⟨o,es,ep,base_of e (noA e d),d,r⟩
  have hKb:K.In (hidT s₁.heap H):=λb o e=>base_of (KX b o e) (by
   cases q:H b with
   | none=>rfl
   | some u =>
     have e':b=a:=hA b (by rw[q];simp)
     subst e'
     rw[hK (by rw[q];simp)]at e;cases e)
  have hM:Mod K mg (hidT s₁.heap H):=⟨hKb,nsK hns,⟨mb,nsK hb,hbb⟩,let⟨mc,h1,h2⟩:=hlim;⟨mc,nsK h1,h2⟩⟩;have e0:Env0 P w K mg (hidT s₁.heap H) callerA [] s₁ H:=⟨rfl,hM,λb o e=>of_hidT e,Nat.le_of_eq (hidT_size _ _),trivial,λb hb=>absurd (show b∈([]:List Addr)from hb) (by simp),hok,.of_eq hg⟩;refine vA ((F _ hKb (nsK hns)).run callerA [] s₁ H ⟨[.ref a],[]⟩ [.ref a] [.ref a] _ _ hr e0 (hbind s₁ (.ref a)) (.cons rfl .nil) (hsp H hO hS)) λr s' h=>?_
  cases r with
  | error e=>exact(hCX H e s' h).elim
  | ok fl =>
    cases fl with
    | next=>exact False.elim h
    | brk=>exact False.elim h
    | cont=>exact False.elim h
    | ret u =>
      obtain⟨v,H',os,bare,un,hok',r',q⟩:=h
      have q':v=.bl true:=q
      subst q'
      obtain rfl:u=Value.bool true:=r'
      refine⟨rfl,OldK.of_keep λb o e=>?_,os,bare⟩
      cases q:H b with
      | none=>exact un.keep b o e q (by intro z;exact absurd (show b∈([]:List Addr)from z) (by simp)) (by simp)
      | some u =>
        rcases hO b with z | ⟨ob,xs,z⟩
        · rw[q]at z;cases z
        · have z2:=un.frzs b ob _ z
          obtain⟨e1,_⟩:=hok b _ z
          obtain⟨e2,_⟩:=hok' b _ z2
          rw[e]at e1;cases e1
          exact e2
 cases hk:K.lookup a with
 | some o =>
   have e:=KX a o hk
   rw[ha]at e
   cases e
   refine core (λ_=>none) (λ_=>.inl rfl) (.inr ⟨_,vs.toArray,_,hk,rfl,rfl,rfl,by rw[rK,lenV];exact hl,by simpa using rv⟩) (λb u z=>by have z':(none:Option HO)=some u:=z;cases z') (λb z=>absurd rfl z) λz=>absurd rfl z
 | none =>
   refine core (λb=>if b=a then some (.frz {cls:=.type "list",data:=.seq vs.toArray} (.lst (ns.map V.int)))else none) (λb=>?_) (.inl (.inr ⟨{cls:=.type "list",data:=.seq vs.toArray},if_pos rfl⟩)) (λb u z=>?_) (λb z=>?_) λ_=>hk
   · by_cases hb:b=a
     · exact .inr ⟨_,_,if_pos hb⟩
     · exact .inl (if_neg hb)
   · by_cases hb:b=a
     · have z':=(if_pos hb).symm.trans z
       cases z'
       subst hb
       exact⟨ha,by rw[qA];exact hl,vs,_,rv,ha⟩
     · have z':=(if_neg hb).symm.trans z
       cases z'
   · by_cases hb:b=a
     · exact hb
     · exact absurd (if_neg hb) z
theorem walk_of{l:PySem.W.OpenLaw}{n k:Nat}{q:Program}{loose:List Str}{XP:(Str->Option Value)->Heap->Prop}{YP:World->Heap->Prop}{d:DefRec}{K:Params->PySem.W.Frag}{CX:World->CXT}{sp:World->Sp}{x:Str}(hn:l.most=some n)(hn2:n<=sizeLine)(hdf:d.params.defaults=[])(hr:Room k callerA)(hY:∀(w:World) (h:Heap),YP w h->(K w.params).In h)(F:∀(w:World) (mg:Str->Option Value) (fa:Addr) (h:Heap),(K w.params).In h->h.Ns mainGlobals mg->mg d.name=some (.ref fa) ->
   ∃fd:FuncData,(∀(s:Shared) (u:Value),BindsTo s fd ⟨[u],[]⟩ [(x,u)]) /\
    ∀base:Heap,(K w.params).In base->base.Ns mainGlobals mg->FnOk l.prog w (K w.params) mg base (CX w) k fa fd [x] (sp w))(hsp:∀(w:World) (H:Hp) (a:Addr) (ns:List Int),ns.length<=n->Only H->SqL (K w.params) H a (ns.map V.int)->sp w [.ref a] H (λv _=>v=.bl true) λ_ _ _=>False)(hCX:∀(w:World) (H:Hp) (s:Shared) (e:Value) (s':Shared),CX w [] H s (λ_ _ _=>False) e s'->False) :
  PySem.W.WalkO q loose XP YP l.row.toRowW d [] (λf vs=>PySem.call f vs):=by
 refine Att.attach_call hn hdf λw s₀ s₁ mg mb fa o pm cd doc a vs ns G Y ho hd hcd hmg hobj hints hlen hg=>?_
 have KX:=hY w _ Y;obtain⟨fd,hb,hF⟩:=F w mg fa _ KX G.T.g hmg;exact law_call KX G.T.g G.T.b G.T.builtins G.T.nolimit hg hobj hints (qR hlen hn2) hr hF hb (λH hO hS=>hsp w H a ns hlen hO hS) λH e s'=>hCX w H s₁ e s'
def qbG(s:Stmt):Arguments:=match s with
 | .FunctionDef _ a _ _ _ _ _ _ _ _=>a
 | _=>{posonlyargs:=[],args:=[],vararg:=none,kwonlyargs:=[],kw_defaults:=[],kwarg:=none,defaults:=[]}
def qbk(s:Stmt):List Stmt:=match s with
 | .FunctionDef _ _ b _ _ _ _ _ _ _=>b
 | _=>[]
def qaf(s:Stmt):Scope:=match s with
 | .FunctionDef _ _ _ _ _ _ sc _ _ _=>sc
 | _=>{kind:=.function,names:=[],isGenerator:=false,isCoroutine:=false}
abbrev CX0:CXT:=λ_ _ _ _ _ _=>False
abbrev E0:XK:=λ_ _ _=>False
theorem qay{X:Cx}:qdV CX0 X E0:=λ_ _ _ _ _ _ _ h=>h.elim
structure Fun(K:W.Frag)(x qual:Str)(st:Stmt)(f:Addr)(fd:FuncData):Prop where
 ex:∃(oc:Value) (od:Option Addr) (kV doc pm:Value) (an:Option Addr) (cdv ct:Value) (osl:Array (Option Value)),
  fd=PySem.W.fnOf x qual (qbG st) (qbk st) (qaf st) .none kV doc pm an cdv ct/\K.lookup f=some ⟨oc,od,.func fd,osl⟩/\PySem.W.codeIn K cdv qual=true
 kp:PySem.W.keepIn K (.ref f)=true
section
variable{P:Program}{w:World}{K:W.Frag}{mg:Str->Option Value}{base:Heap}
theorem Fun.ok{x qual:Str}{st:Stmt}{f:Addr}{fd:FuncData}{N ps:List Str}{k:Nat}{sp:Sp}(F:Fun K x qual st f fd)(S:FnScope N ps (qaf st))(len:∀vs H Q E,sp vs H Q E->vs.length=ps.length)(hbody:∀(cdv:Value) (A:Around) (outer:List Env) (s:Shared) (H:Hp) (vs:List V) (Q:VK) (E:XK),Room k (A.deeper (envOfC qual (qaf st) s.heap.objs.size f cdv))->sp vs H Q E ->
   ∃t,PSs (cxOf CX0 P w K mg base N qual (qaf st) f cdv A outer s H E).nox (qbk st) t/\t {nx:=λ_ H'=>Q .non H',rt:=Q} (qfh N vs) H):FnOk P w K mg base CX0 (k+1) f fd ps sp:=by
 obtain⟨oc,od,kV,doc,pm,an,cdv,ct,osl,rfl,lk,hcd⟩:=F.ex;refine qi0 lk hcd S len λA outer s H vs Q E hr hsp=>?_
 obtain⟨t,h,q⟩:=hbody cdv A outer s H vs Q E hr hsp;exact⟨t,h.nox,q⟩
theorem Fun.binds{x qual:Str}{st:Stmt}{f:Addr}{fd:FuncData}{ps:List Str}(F:Fun K x qual st f fd)(h:∀(kV doc pm:Value) (an:Option Addr) (cdv ct:Value) (us:List Value),us.length=ps.length->bindArgs (PySem.W.fnOf x qual (qbG st) (qbk st) (qaf st) .none kV doc pm an cdv ct) ⟨us,[]⟩=pure (ps.zip us)):Binds K fd ps []:=by
 obtain⟨oc,od,kV,doc,pm,an,cdv,ct,osl,rfl,lk,hcd⟩:=F.ex;exact .all (h kV doc pm an cdv ct)
theorem fun_mk{x qual:Str}{st:Stmt}{f:Addr}{oc:Value}{od an:Option Addr}{osl:Array (Option Value)}{kV doc pm cdv ct:Value}(l:K.lookup f=some ⟨oc,od,.func (PySem.W.fnOf x qual (qbG st) (qbk st) (qaf st) .none kV doc pm an cdv ct),osl⟩)(c:PySem.W.codeIn K cdv qual=true)(k:PySem.W.keepIn K (.ref f)=true):Fun K x qual st f (PySem.W.fnOf x qual (qbG st) (qbk st) (qaf st) .none kV doc pm an cdv ct):=⟨⟨oc,od,kV,doc,pm,an,cdv,ct,osl,rfl,l,c⟩,k⟩
end
theorem hu_of{A:Around}{k:Nat}(hr:Room k A):A.units+1<cLine:=uQ (Nat.add_le_add_left (by decide:1<=64) _) hr.units
theorem qaG{n:Nat}(h:n<=1000):n<sizeLine:=uQ h (by decide)
section
variable{X:Cx}
theorem pv(i:Nat){x:Str}{pos:Pos}(hN:X.N[i]?=some x:=by rfl)(hv:Vis X.env.scope x:=by first | exact Or.inl rfl | exact Or.inr (Or.inl rfl) | exact Or.inr (Or.inr rfl))(hd:(x == ("__debug__" : Str))=false:=by decide)(hcd:(x == ("__classdict__" : Str))=false:=by decide):PE X (.Name x pos) (tVar i):=pe_var hN hv hd hcd
end
theorem iteF{A B:Prop}(h:B):if false=true then A else B:=by
 rw[if_neg qL];exact h
theorem iteT{A B:Prop}(h:A):if true=true then A else B:=by
 rw[if_pos rfl];exact h
theorem ite2{c A B:Prop}[Decidable c](h1:c->A)(h2:¬c->B):if c then A else B:=by
 by_cases h:c
 ·rw[if_pos h];exact h1 h
 ·rw[if_neg h];exact h2 h
def Same(H H':Hp):Prop:=∀b o,H b=some o->H' b=some o
theorem Same.refl(H:Hp):Same H H:=λ_ _ h=>h
theorem Same.trans{H H1 H2:Hp}(a:Same H H1)(b:Same H1 H2):Same H H2:=λc o h=>b c o (a c o h)
theorem Same.free{H H':Hp}(e:Same H H'){l:Addr}(h:H' l=Option.none):H l=Option.none:=by
 cases q:H l with
 | none=>rfl
 | some o =>
   rw[e l o q]at h
   cases h
end L2
set_option maxHeartbeats 4000000
namespace L2
open PySem PySem.Spec PyProof.Rows
theorem qc3{β:Type}{x:Str}{c:β}:∀{l:List (Str×β)},l.lookup x=some c->(x,c)∈l
 | [],q=>by cases q
 | (k, v) :: r, q => by
   rw[y2]at q
   cases e:x == k with
   | true =>
     rw[e]at q
     have:x=k:=by simpa using e
     cases q
     rw[this]
     exact qJ
   | false =>
     rw[e]at q
     exact qN _ (qc3 q)
theorem qdm{β:Type}{x:Str}{c:β}:∀{l:List (Str×β)},(x,c)∈l->∃c',l.lookup x=some c'
 | [],q=>nomatch q
 | (k, v) :: r, q => by
   rw[y2]
   cases e:x == k with
   | true=>exact⟨v,rfl⟩
   | false =>
     rcases qO.mp q with z | z
     · have:x=k:=xO Prod.fst z
       rw[this]at e
       simp at e
     · exact qdm z
theorem qey{env:Env}{f:Str×NameKind->List (Str×Addr)->Sem (ForInStep (List (Str×Addr)))}:∀(l:List (Str×NameKind)) (acc:List (Str×Addr)),
  (∀x∈l,x.2=.free->∃c,env.cells.lookup x.1=some c/\∀r,f x r=pure (.yield ((x.1,c)::r)))->(∀x∈l,x.2≠.free->∀r,f x r=pure (.yield r)) ->
  ∃cl,forIn l acc f=pure cl/\(∀p∈acc,p∈cl)/\(∀p∈cl,p∈acc\/env.cells.lookup p.1=some p.2)/\∀x,(x,NameKind.free)∈l->∃c,(x,c)∈cl
 | [],acc,_,_=>⟨acc,rfl,λ_ q=>q,λ_ q=>.inl q,λ_ q=>nomatch q⟩
 | x :: l, acc, h1, h2 => by
   by_cases hx:x.2=.free
   · obtain⟨c,e,hf⟩:=h1 x qJ hx
     obtain⟨cl,q1,q2,q3,q4⟩:=qey l ((x.1,c)::acc) (λy hy=>h1 y (qN _ hy)) λy hy=>h2 y (qN _ hy)
     refine⟨cl,?_,λp hp=>q2 p (qN _ hp),λp hp=>?_,λy hy=>?_⟩
     · rw[vJ,hf,pure_bind]
       exact q1
     · rcases q3 p hp with z | z
       · rcases qO.mp z with z | z
         · subst z;exact .inr e
         · exact .inl z
       · exact .inr z
     · rcases qO.mp hy with z | z
       · exact⟨c,by have:=q2 _ (qJ (a:=(x.1,c)) (l:=acc));rw[<-z]at this;exact this⟩
       · exact q4 y z
   · obtain⟨cl,q1,q2,q3,q4⟩:=qey l acc (λy hy=>h1 y (qN _ hy)) λy hy=>h2 y (qN _ hy)
     refine⟨cl,?_,q2,q3,λy hy=>?_⟩
     · rw[vJ,h2 x qJ hx,pure_bind]
       exact q1
     · rcases qO.mp hy with z | z
       · exact absurd (by rw[<-z]) hx
       · exact q4 y z
theorem qhv{scope:Scope}{env:Env}(h:∀ x∈scope.names,x.2=.free->∃ c,env.cells.lookup x.1=some c) :
  ∃ cl,closureFor scope env=pure cl/\(∀ x c,cl.lookup x=some c->env.cells.lookup x=some c)/\∀ x,(x,NameKind.free)∈scope.names->∃ c,cl.lookup x=some c:=by
 have key:∀ f:Str × NameKind->List (Str × Addr)->Sem (ForInStep (List (Str × Addr))),(∀ x∈scope.names,x.2=.free->∃ c,env.cells.lookup x.1=some c/\∀ r,f x r=pure (.yield ((x.1,c) :: r)))->(∀ x∈scope.names,x.2≠.free->∀ r,f x r=pure (.yield r)) ->
   closureFor scope env=forIn scope.names [] f ->
   ∃ cl,closureFor scope env=pure cl/\(∀ x c,cl.lookup x=some c->env.cells.lookup x=some c)/\∀ x,(x,NameKind.free)∈scope.names->∃ c,cl.lookup x=some c:=by
  intro f h1 h2 e
  obtain ⟨cl,q1,_,q3,q4⟩:=qey (env:=env) (f:=f) scope.names [] h1 h2
  refine ⟨cl,e.trans q1,λx c z=>?_,λx hx=>?_⟩
  ·rcases q3 (x,c) (qc3 z) with k | k
   ·exact nomatch k
   ·exact k
  ·obtain ⟨c,z⟩:=q4 x hx
   exact qdm z
 refine key (λx r=>if x.2 == .free then (do let c <- cellOf env x.1; pure (.yield ((x.1,c) :: r))) else pure (.yield r)) (λx hx hf=>?_) (λx hx hf r=>?_) ?_
 ·obtain ⟨c,e⟩:=h x hx hf
  refine ⟨c,e,λr=>?_⟩
  have hk:(x.2 == NameKind.free)=true:=by rw [hf]; rfl
  simp only [hk,if_true,cellOf,e,pure_bind]
 ·have hk:(x.2 == NameKind.free)=false:=by
   cases q:x.2 == NameKind.free with
   | false=>rfl
   | true=>exact absurd (by simpa using q) hf
  simp only [hk,Bool.false_eq_true,if_false]
 ·simp only [closureFor]
  rw [bind_pure]
def qbt(X:Cx)(N':List Str)(scope:Scope)(cl:List (Str×Addr))(C:Addr)(s₂:Shared)(H₂:Hp)(fp:List Addr):Cx :=
 {X with N:=N',s₀:=s₂,H₀:=H₂,env:=compEnvC scope cl C X.env,outer:=X.stack,ex:=fp,fn:=λ_=>false,pn:=[],xe:=λ_ _=>False}
def qcV(own:Nat)(ix:List Nat)(σ:St):St:=List.replicate own none++ix.map λj=>(σ[j]?).join
def qdy(own:Nat)(ix:List Nat)(g:TG)(tt:TT)(te:TE)(J:It)(σ:St)(H:Hp)(Q:VK):Prop :=
 ∃W:Nat->Nat->List V->St->Hp->Prop,(∃m,W 0 m [] (qcV own ix σ) H) /\
  ∀i m ys σ' H',W i m ys σ' H'->ys.length<sizeLine /\
   ((J.stop i H'/\∀ D,H' D=none->Q (.ref D) (upd H' D (.lst ys))) \/
    (J.go i H'/\∃N:List V->St->Hp->Prop,(∀zs σ2 H2,N zs σ2 H2->∃m',m'<m/\W (i+1) m' zs σ2 H2)/\∀x H2,J.yld i H' x H2->g x σ' H2 λσ2 H3=>tt σ2 H3 λb H4 =>
       if b=true then te σ2 H4 λv H5=>N (ys++[v]) σ2 H5 else N ys σ2 H4))
def qi1(own:Nat)(ix:List Nat)(wi:TI)(g:TG)(tt:TT)(te:TE):TE:=λσ H Q=>wi σ H λJ H1=>qdy own ix g tt te J σ H1 Q
def qiU(ifs:List Expr)(env:Env):Sem Bool :=
 forIn ifs true λc r=>if r=true then do let ok <- isTrue c env (eval c env); pure (ForInStep.yield ok) else pure (ForInStep.yield r)
def PTs(X:Cx)(ifs:List Expr)(t:TT):Prop :=
 ∀(pins:List (Addr×Obj)) (s:Shared) (σ:St) (H:Hp) (Q:Bool->Hp->Prop),Inv X pins σ H s->t σ H Q->wpAny (model X.prog X.w) X.A (qiU ifs X.env) (TP X pins σ Q) X.xe s
def tYes:TT:=λ_ H Q=>Q true H
theorem qbn{X:Cx}:PTs X [] tYes:=λ_ _ _ H _ I h=>wpAny_tests_nil ⟨H,I,h⟩
theorem qcN{X:Cx}{c:Expr}{t:TT}(h:PT X c t):PTs X [c] t:=λpins s σ H Q I q=>wpAny_tests_one (h pins s σ H Q I q)
theorem comp_turns{prog:Program}{w:World}{A:Around}{R:Result->Shared->Prop}{s:Shared}{elt tg iter:Expr}{ifs:List Expr}{scope:Scope}{pos:Pos}{it acc:Value}{env:Env}(J:Nat->Shared->Prop)(turn:∀ n s,J n s->wpAny (model prog w) A (pyNext it) (λr s1=>match r with
   | none=>R (.ok .next) s1
   | some v=>wpAny (model prog w) A (letOwnedTupleGo tg it v) (λ_ s2=>wpAny (model prog w) A (assign tg env v) (λ_ s3=>wpAny (model prog w) A (qiU ifs env) (λok s4 =>
     if ok=true then wpAny (model prog w) A (eval elt env) (λx s5=>wpAny (model prog w) A (call (.builtin "list.append") [acc,x]) (λ_ s6=>∃ m,m < n/\J m s6) (λ_ _=>False) s5) (λ_ _=>False) s4
     else ∃ m,m < n/\J m s4) (λ_ _=>False) s3) (λ_ _=>False) s2) (λ_ _=>False) s1) (λ_ _=>False) s)(n:Nat)(h:J n s):codeAny (model prog w) A (.compLoop (.ListComp elt [⟨tg,iter,ifs,0⟩] scope pos) 0 it acc env) R s:=by
 refine codeAny_loop rfl J (λn s hI=>?_) n h
 show wpAny (model prog w) A ((compTurn (.ListComp elt [⟨tg,iter,ifs,0⟩] scope pos) 0 it acc env).onRaise (λz=>do noteFrame z env; theTreesLotGoes z)) _ _ s
 refine wpAny_noted ?_
 rw [compTurn_list]
 refine qF (wpAny_standAt (qF (xJ (turn n s hI) (λr s1 q1=>?_) λ_ _ z=>z.elim)))
 cases r with
 | none=>exact qQ q1
 | some v =>
   refine qF (xJ q1 (λ_ s2 q2=>?_) λ_ _ z=>z.elim)
   refine qF (xJ q2 (λ_ s3 q3=>?_) λ_ _ z=>z.elim)
   refine qF (xJ q3 (λok s4 q4=>?_) λ_ _ z=>z.elim)
   cases ok with
   | false=>exact qQ ⟨rfl,q4⟩
   | true =>
     refine qF (qF (xJ q4 (λx s5 q5=>?_) λ_ _ z=>z.elim))
     exact qF (xJ q5 (λ_ s6 q6=>qQ (qQ ⟨rfl,q6⟩)) λ_ _ z=>z.elim)
section
variable{fs ex:List Addr}{H H1:Hp}{h h1:Heap}{D:Addr}{o:HO}
theorem Un.track(u:Un fs ex H H1 h h1)(hD:h.objs.size<=D)(n0:H D=none):Un fs ex H (upd H1 D o) h h1 where
 keep:=u.keep
 slot:=u.slot
 free:=λb ob q n hx=>by rw[qax (rP (qX (qU q) hD))];exact u.free b ob q n hx
 there:=u.there
 tups:=λb xs q=>by rw[qax (qam q n0)];exact u.tups b xs q
 frzs:=λb ob xs q=>by rw[qax (qam q n0)];exact u.frzs b ob xs q
 tbls:=λb ps q=>by rw[qax (qam q n0)];exact u.tbls b ps q
theorem HOk.track{P:Program}{w:World}(x:HOk P w H h)(n0:H D=none)(new:ObjOk P w (upd H D o) h D o):HOk P w (upd H D o) h:=λa u e=>by
 by_cases z:a=D
 ·subst z;rw[upd_same]at e;cases e;exact new
 ·rw[qax z]at e;exact(x a u e).stay (λ_ _ _ q=>q) (λb q=>by rw[qax (qam q n0)];exact q) λb xs q=>by rw[qax (qam q n0)];exact q
end
abbrev lobj(its:List Value)(n:Nat):Obj:={cls:=.type "list",data:=.seq its.toArray n}
theorem Inv.letgo{X:Cx}{pins:List (Addr×Obj)}{σ:St}{H:Hp}{s:Shared}{C:Addr}{h':Heap}(I:Inv X pins σ H s)(f:FpOk X pins H C)(hs:Heap.SameBut C s.heap h'):Inv X pins σ H {s with heap:=h'} :=
 I.turned (t':=s.toks) (it:=C) (λb o hb e=>(hs.2 b hb).trans e) f.1 f.2.1 f.2.2.2.1 f.2.2.2.2.1 f.2.2.2.2.2
theorem qee{scope:Scope}{env:Env}{x:Str}{k:NameKind}(h:(relabel scope env).names.lookup x=some k):∃k0,(x,k0)∈scope.names/\(k0=k\/(k0=.free/\k=.cell)):=by
 have m:=qc3 h;obtain⟨⟨n,k0⟩,h1,h2⟩:=qV.mp (show(x,k)∈scope.names.map _ from m);dsimp only at h2
 by_cases c:(k0 == NameKind.free && env.scope.kind == .function && env.kindOf n == some .cell)=true
 ·rw[if_pos c]at h2;obtain⟨rfl,rfl⟩:=Prod.mk.inj h2;refine⟨k0,h1,.inr ⟨?_,rfl⟩⟩;rw[rG,rG]at c;simpa using c.1.1
 ·rw[if_neg c]at h2;obtain⟨rfl,rfl⟩:=Prod.mk.inj h2;exact⟨k0,h1,.inl rfl⟩
theorem relabel_free{scope:Scope}{env:Env}{x:Str}(h:scope.names.lookup x=some .free):(relabel scope env).names.lookup x=some .free\/(relabel scope env).names.lookup x=some .cell:=by
 have all:∀(l:List (Str×NameKind)),l.lookup x=some .free ->
   (l.map λ(n,k)=>if(k == NameKind.free && env.scope.kind == .function && env.kindOf n == some .cell)then(n,NameKind.cell)else(n,k)).lookup x=some .free \/
   (l.map λ(n,k)=>if(k == NameKind.free && env.scope.kind == .function && env.kindOf n == some .cell)then(n,NameKind.cell)else(n,k)).lookup x=some .cell:=by
  intro l
  induction l with
  | nil=>intro q;cases q
  | cons y r ih =>
    obtain⟨n,k⟩:=y
    intro q
    rw[y2]at q
    rw[rH]
    cases hx:x == n with
    | true =>
      rw[hx]at q
      cases q
      dsimp only
      split
      · right;rw[y2,hx]
      · left;rw[y2,hx]
    | false =>
      rw[hx]at q
      dsimp only
      split
      · rw[y2,hx];exact ih q
      · rw[y2,hx];exact ih q
 exact all scope.names h
section
variable{X:Cx}{elt tg iter:Expr}{ifs:List Expr}{scope:Scope}{pos:Pos}{g:TG}{tt:TT}{te:TE}{N' own frees:List Str}{ix:List Nat}{pins:List (Addr×Obj)}{σ:St}{H2:Hp}{s2:Shared}{it:Addr}{fp:List Addr}{tn:Nat->Heap->Prop}{J:It}{cl:List (Str×Addr)}{E:Value->Shared->Prop}
structure CompScope(X:Cx)(scope:Scope)(own frees:List Str)(ix:List Nat):Prop where
 kind:scope.kind=.function
 nocell:∀y∈scope.names,y.2≠.cell
 loc:∀y∈scope.names,y.2=.local->scope.names.lookup y.1=some .local
 fr:∀y∈scope.names,y.2=.free->X.env.scope.names.lookup y.1=some .cell\/X.env.scope.names.lookup y.1=some .free
 ixs:ix.map (λj=>X.N[j]?)=frees.map some
 isf:∀x∈frees,scope.names.lookup x=some .free
theorem comp_ok(S:CompScope X scope own frees ix)(I:Inv X pins σ H2 s2)(hcl1:∀x c,cl.lookup x=some c->X.env.cells.lookup x=some c)(hcl2:∀x,(x,NameKind.free)∈scope.names->∃c,cl.lookup x=some c)(T:Turn X.prog X.w X.K tg J fp it tn)(st:tn 0 s2.heap)(f2:∀b∈fp,FpOk X pins H2 b){C:Addr}(hC:s2.heap.objs.size<=C):(qbt X N' scope cl C s2 H2 fp).Ok:=by
 have lt:∀b∈fp,b<s2.heap.objs.size:=λb hb=>by
  obtain⟨o,e,_⟩:=T.obj 0 _ st b hb;exact qU e
 refine⟨I.ok.mod,S.kind,I.ok.glob,I.ok.blt,hC,λx y c h1 h2=>I.ok.inj x y c (hcl1 x c h1) (hcl1 y c h2),λx hx=>?_,(λx c q=>nomatch q),I.ok.hd,I.ok.frames,.inl rfl,λb hb=>?_,I.bs,qR I.ok.bsz I.sz,λb o e hb=>?_,λb hb z=>?_,I.stack,I.stkFree⟩
 ·have hx':(relabel scope X.env).names.lookup x=some .cell\/(relabel scope X.env).names.lookup x=some .free:=hx;have fin:(x,NameKind.free)∈scope.names:=by
   rcases hx' with q | q
   ·obtain⟨k0,m,z | ⟨z,_⟩⟩:=qee q
    ·exact absurd z (S.nocell _ m)
    ·rw[<-z];exact m
   ·obtain⟨k0,m,z | ⟨_,z⟩⟩:=qee q
    ·rw[<-z];exact m
    ·cases z
  exact hcl2 x fin
 ·refine⟨rP (qX (lt b hb) hC),λx c e=>(f2 b hb).2.2.2.2.1 x c (hcl1 x c e)⟩
 ·have q:=(f2 b hb).2.2.2.1;rcases q with q | q
  ·exact I.ok.noex b o e q
  ·exact absurd (qX (qX (qU e) I.ok.bsz) q) (rX _)
 ·rcases qO.mp (I.stkSub b z)with q | q
  ·exact(f2 b hb).2.1 q
  ·exact(f2 b hb).2.2.1 q
theorem qeO(hc:X.calm=true)(S:CompScope X scope own frees ix)(I:Inv X pins σ H2 s2)(hcl1:∀x c,cl.lookup x=some c->X.env.cells.lookup x=some c)(hcl2:∀x,(x,NameKind.free)∈scope.names->∃c,cl.lookup x=some c)(T:Turn X.prog X.w X.K tg J fp it tn)(st:tn 0 s2.heap)(f2:∀b∈fp,FpOk X pins H2 b)(hg:∀C,PG (qbt X (own++frees) scope cl C s2 H2 fp) tg g)(ht:∀C,PTs (qbt X (own++frees) scope cl C s2 H2 fp) ifs tt)(he:∀C,PE (qbt X (own++frees) scope cl C s2 H2 fp) elt te){Q:VK}{W:Nat->Nat->List V->St->Hp->Prop}(w0:∃m,W 0 m [] (qcV own.length ix σ) H2)(turn:∀i m ys σ' H',W i m ys σ' H'->ys.length<sizeLine /\
   ((J.stop i H'/\∀ D,H' D=none->Q (.ref D) (upd H' D (.lst ys))) \/
    (J.go i H'/\∃N:List V->St->Hp->Prop,(∀zs σ2 H2,N zs σ2 H2->∃m',m'<m/\W (i+1) m' zs σ2 H2)/\∀x H2,J.yld i H' x H2->g x σ' H2 λσ2 H3=>tt σ2 H3 λb H4 =>
       if b=true then te σ2 H4 λv H5=>N (ys++[v]) σ2 H5 else N ys σ2 H4))){RR:Value->Addr->Result->Shared->Prop}(hRR:∀D C H' s' m,Inv X pins σ H' s'->FpOk X pins H' C->s'.heap.Ns C m->Q (.ref D) H'->RR (.ref D) C (.ok .next) s') :
  wpAny (model X.prog X.w) X.A (newList []) (λacc s3=>wpAny (model X.prog X.w) X.A (newFunctionEnv scope X.env.globals cl [] X.env.qual none .none (some X.env)) (λcenv s4 =>
   codeAny (model X.prog X.w) X.A (.compStart (.ListComp elt [⟨tg,iter,ifs,0⟩] scope pos) 0 (.ref it) acc {cenv with scope:=relabel scope X.env}) (RR acc cenv.locals) s4) E s3) E s2:=by
 obtain⟨m0,w0⟩:=w0;refine yU (wpAny_newFunctionEnv S.nocell (by intro y hy;simp at hy) (λh1 ns1 sb1=>?_) S.kind);dsimp only at ns1 sb1⊢;generalize eH:s2.heap.push {cls:=.type "list",dict:=none,data:=.seq ([]:List Value).toArray}=G at ns1 sb1⊢;have szG:G.objs.size=s2.heap.objs.size+1:=by rw[<-eH,r9]
 have hC:s2.heap.objs.size<=G.objs.size:=by rw[szG];exact uE _
 have hDC:s2.heap.objs.size≠G.objs.size:=by rw[szG];exact rP (xS _)
 have below:∀b,b<s2.heap.objs.size->b≠G.objs.size/\b≠s2.heap.objs.size:=λb hb=>⟨rP (qX hb hC),rP hb⟩
 have old:∀b o,s2.heap.get? b=some o->h1.get? b=some o:=λb o e=>sb1.extBut b o (below b (qU e)).1 (qI _ (eH ▸ qI _ e))
 have accD:h1.get? s2.heap.objs.size=some (lobj [] 0):=sb1.extBut _ _ hDC (qI _ (eH ▸ rB _ rfl));have ltf:∀b∈fp,b<s2.heap.objs.size:=λb hb=>by
  obtain⟨o,e,_⟩:=T.obj 0 _ st b hb;exact qU e
 have okX:(qbt X (own++frees) scope cl G.objs.size s2 H2 fp).Ok:=comp_ok S I hcl1 hcl2 T st f2 hC;have ltc:∀x c,cl.lookup x=some c->c<s2.heap.objs.size:=λx c e=>by
  obtain⟨v,q⟩:=I.cell x c (hcl1 x c e);exact q.lt
 have notfs:∀b,s2.heap.objs.size<=b->b∉frs X.stack:=λb hb z=>by
  rcases qO.mp (I.stkSub b z)with q | q
  ·exact absurd (qX I.lt (by rw[<-q];exact hb)) (rX _)
  ·exact I.nofs hb q
 have lenix:ix.length=frees.length:=by have:=xO List.length S.ixs;simpa using this
 have I0:Inv (qbt X (own++frees) scope cl G.objs.size s2 H2 fp) [(s2.heap.objs.size,lobj [] 0)] (qcV own.length ix σ) H2 {s2 with heap:=h1,toks:=s2.toks+([]:List (Str×Value)).length}:=by
  obtain⟨m2,n2,l2⟩:=id I.loc;refine⟨okX,rfl,I.bare,Un.kept old,⟨_,ns1,λi x v e1 e2 e3=>?_⟩,λx c e=>?_,I.hok.fresh hC,λx c e=>I.freeC x c (hcl1 x c e),λp hp=>?_,I.hok.kept old,?_⟩
  ·have e1:(own++frees)[i]?=some x:=e1
   by_cases hi:i<own.length
   ·unfold qcV at e2;rw[rV (by simpa using hi),List.getElem?_replicate]at e2
    split at e2<;>cases e2
   ·have hi':own.length<=i:=u8 hi;unfold qcV at e2;rw[rY (by simpa using hi'),yP,qP]at e2;rw[rY hi']at e1;cases ej:ix[i-own.length]? with
    | none=>rw[ej]at e2;cases e2
    | some j =>
      rw[ej]at e2
      have e2':(σ[j]?).join=some v:=rD e2
      have ev:σ[j]?=some (some v):=by
        cases q:σ[j]? with
        | none=>rw[q]at e2';cases e2'
        | some y=>rw[q]at e2';exact xO some e2'
      have eN:X.N[j]?=some x:=by
        have q:=xO (λl=>l[i-own.length]?) S.ixs
        simp only[List.getElem?_map,ej,e1,Option.map_some]at q
        exact rD q
      have xf:x∈frees:=qK e1
      have xm:(x,NameKind.free)∈scope.names:=qc3 (S.isf x xf)
      have vis:Vis X.env.scope x:=by
        rcases S.fr _ xm rfl with q | q
        · exact .inr (.inl q)
        · exact .inr (.inr q)
      obtain⟨u,r,lk⟩:=l2 j x v eN ev vis
      refine⟨u,r,?_⟩
      rcases lk with⟨k,_⟩ | ⟨_,c,ec,z⟩
      · have k':X.env.scope.names.lookup x=some .local:=k
        rcases S.fr _ xm rfl with q | q
        · rw[k']at q;cases q
        · rw[k']at q;cases q
      · obtain⟨c',ec'⟩:=hcl2 x xm
        have:c=c':=rD (ec.symm.trans (hcl1 x c' ec'))
        subst this
        refine .inr ⟨?_,c,ec',z.keeps old⟩
        rcases relabel_free (env:=X.env) (S.isf x xf)with q | q
        · exact .inr q
        · exact .inl q
  ·obtain⟨v,z⟩:=I.cell x c (hcl1 x c e);exact⟨v,z.keeps old⟩
  ·have hp':p=(s2.heap.objs.size,lobj [] 0):=by simpa[qbt]using hp
   subst hp';exact⟨accD,I.hok.fresh (qG _),hDC,notfs _ (qG _),λv q=>nomatch q⟩
  ·show(qcV own.length ix σ).length=(own++frees).length;unfold qcV;rw[qH,yP,qA,qH,lenix]
 have st1:tn 0 h1:=T.keep 0 _ _ st λb hb o e=>old b o e
 have stat:∀{H':Hp} {pl:List (Addr×Obj)},(∀b∈fp,H' b=none)->(∀p∈pl,s2.heap.objs.size<=p.1)->∀b∈fp,FpOk (qbt X (own++frees) scope cl G.objs.size s2 H2 fp) pl H' b:=λ{H' pl} hn hp b hb =>
  ⟨hn b hb,(below b (ltf b hb)).1,λz=>okX.exfs b hb z,.inl hb,λx c e=>(f2 b hb).2.2.2.2.1 x c (hcl1 x c e),λp q z=>by
   have q':p∈pl:=by simpa[qbt]using q
   have:=hp p q';rw[z]at this;exact absurd (qX (ltf b hb) this) (rX _)⟩
 have loop:∀s3:Shared,s3={s2 with heap:=h1,toks:=s2.toks+([]:List (Str×Value)).length} ->
   codeAny (model X.prog X.w) X.A (.compLoop (.ListComp elt [⟨tg,iter,ifs,0⟩] scope pos) 0 (.ref it) (.ref s2.heap.objs.size) (compEnvC scope cl G.objs.size X.env)) (RR (.ref s2.heap.objs.size) G.objs.size) s3:=by
  rintro s3 rfl;refine comp_turns (λn s'=>∃i ys σ' H' its k,Inv (qbt X (own++frees) scope cl G.objs.size s2 H2 fp) [(s2.heap.objs.size,lobj its k)] σ' H' s'/\tn i s'.heap/\(∀b∈fp,H' b=none)/\Vals ys its/\W i n ys σ' H') ?_ m0
   ⟨0,[],_,H2,[],0,I0,st1,λb hb=>(f2 b hb).1,.nil,w0⟩
  rintro n s4 ⟨i,ys,σ4,H4,its,k,I4,st4,fr4,rv,w4⟩;obtain⟨hz,alt⟩:=turn i n ys σ4 H4 w4;have big:∀p∈[(s2.heap.objs.size,lobj its k)],s2.heap.objs.size<=p.1:=λp hp=>by
   have:p=(s2.heap.objs.size,lobj its k):=by simpa using hp
   rw[this];exact qG _
  rcases alt with⟨stop,fin⟩ | ⟨go,NN,hNN,step⟩
  ·refine xJ (T.done (qbt X (own++frees) scope cl G.objs.size s2 H2 fp) rfl rfl rfl hc i _ s4 σ4 H4 (λ_ _=>False) I4 (stat fr4 big) st4 stop) (λr s5 q5=>?_) λ_ _ z=>z
   obtain⟨hr,I5⟩:=q5;subst hr;have pD:=I5.pin (s2.heap.objs.size,lobj its k) (qZ _ qJ);obtain⟨m5,n5,_⟩:=id I5.loc;have okD:HOk X.prog X.w (upd H4 s2.heap.objs.size (.lst ys)) s5.heap:=HOk.track I5.hok pD.2.1 ⟨yF hz,its,k,rv,pD.1⟩;have un:Un (frs X.stack) fp H2 (upd H4 s2.heap.objs.size (.lst ys)) s2.heap s5.heap:=Un.track I5.base (qG _) (I.hok.fresh (qG _));have I6:Inv X pins σ (upd H4 s2.heap.objs.size (.lst ys)) s5:=I.call' (ch:=fp) I5.os un okD I5.bare λb hb=>⟨(f2 b hb).2.2.2.1,(f2 b hb).2.1,(f2 b hb).2.2.2.2.1,(f2 b hb).2.2.2.2.2⟩
   refine hRR _ _ _ _ m5 I6 ?_ n5 (fin _ pD.2.1);refine⟨?_,?_,?_,.inr (qR I.sz hC),λx c e z=>?_,λp hp z=>?_⟩
   ·rw[qax (Ne.symm hDC)];exact I5.free
   ·exact uG (qX I.lt hC)
   ·exact I.nofs hC
   ·obtain⟨v,q⟩:=I.cell x c e;exact absurd (qX q.lt (by rw[z];exact hC)) (rX _)
   ·exact absurd (qX (qU (I.pin p hp).1) (by rw[z];exact hC)) (rX _)
  ·refine xJ (T.item (qbt X (own++frees) scope cl G.objs.size s2 H2 fp) rfl rfl rfl hc i _ s4 σ4 H4 (λ_ _=>False) I4 (stat fr4 big) st4 go) (λr s5 q5=>?_) λ_ _ z=>z
   obtain⟨u,hr,q5⟩:=q5;subst hr;refine xJ q5 (λ_ s6 q6=>?_) λ_ _ z=>z
   obtain⟨x,H6,I6,r6,y6,st6,fr6⟩:=q6;have I6':=I6.pinned (stat fr6 big) (T.obj _ _ st6);refine xJ (hg _ _ s6 σ4 H6 x u _ I6' r6 (step x H6 y6)) (λ_ s7 q7=>?_) λ_ _ z=>z
   obtain⟨σ7,H7,I7,q7⟩:=q7;refine xJ (ht _ _ s7 σ7 H7 _ I7 q7) (λok s8 q8=>?_) λ_ _ z=>z
   obtain⟨H8,I8,q8⟩:=q8;cases ok with
   | false =>
     rw[if_neg qL]at q8⊢
     obtain⟨m',hm,w8⟩:=hNN _ _ _ q8
     refine⟨m',hm,i+1,ys,σ7,H8,its,k,I8.unpinned,T.keep _ _ _ st6 λb hb o e=>(I8.pin (b,o) (qZ _ (qZ _ (qb2 hb e)))).1,λb hb=>?_,rv,w8⟩
     obtain⟨o,e,d⟩:=T.obj _ _ st6 b hb
     exact(I8.pin (b,o) (qZ _ (qZ _ (qb2 hb e)))).2.1
   | true =>
     rw[if_pos rfl]at q8⊢
     refine xJ (he _ _ s8 σ7 H8 _ I8 q8) (λv s9 q9=>?_) λ_ _ z=>z
     obtain⟨y,H9,I9,ry,q9⟩:=q9
     obtain⟨m',hm,w9⟩:=hNN _ _ _ q9
     have pD:=I9.pin (s2.heap.objs.size,lobj its k) (qZ _ (xX _ qJ))
     have lenv:=rv.length
     refine wpAny_list_append_plain (items:=its.toArray) ⟨k,pD.1⟩ (λh' hp hs=>?_) (by rw[rK];omega)
     obtain⟨k',e'⟩:=hp
     have ne:∀b∈fp,b≠s2.heap.objs.size:=λb hb=>(below b (ltf b hb)).2
     have I10:Inv (qbt X (own++frees) scope cl G.objs.size s2 H2 fp) (qeB fp s6.heap) σ7 H9 s9:=I9.pins_of λp hp=>I9.pin p (qZ _ (qZ _ hp))
     have I11:Inv (qbt X (own++frees) scope cl G.objs.size s2 H2 fp) (qeB fp s6.heap) σ7 H9 {s9 with heap:=h',toks:=s9.toks} :=
       I10.turned (it:=s2.heap.objs.size) (λb o hb e=>(hs.2 b hb).trans e) pD.2.1 pD.2.2.1 (.inr (qG _)) (λx c e z=>absurd (ltc x c e) (by rw[z];exact rX _)) λp hp z=>by
         have hp':p∈qeB fp s6.heap:=by simpa[qbt]using hp
         exact ne p.1 (qfA hp').1 z
     have e'':h'.get? s2.heap.objs.size=some (lobj (its++[v]) k'):=by rw[e'];simp
     have I12:Inv (qbt X (own++frees) scope cl G.objs.size s2 H2 fp) [(s2.heap.objs.size,lobj (its++[v]) k')] σ7 H9 {s9 with heap:=h',toks:=s9.toks}:=I11.pins_of λp hp=>by
       have:p=(s2.heap.objs.size,lobj (its++[v]) k'):=by simpa using hp
       subst this
       exact⟨e'',pD.2.1,pD.2.2.1,pD.2.2.2.1,λv q=>nomatch q⟩
     refine⟨m',hm,i+1,ys++[y],σ7,H9,its++[v],k',I12,T.keep _ _ _ st6 λb hb o e=>(hs.2 b (ne b hb)).trans (I9.pin (b,o) (qZ _ (qZ _ (qb2 hb e)))).1,λb hb=>?_,rv.append (.cons ry .nil),w9⟩
     obtain⟨o,e,d⟩:=T.obj _ _ st6 b hb
     exact(I9.pin (b,o) (qZ _ (qZ _ (qb2 hb e)))).2.1
 exact codeAny_compStart_list (loop _ rfl) (T.self _ 0 _ _ _ st1 (loop _ rfl))
variable{wi:TI}
theorem qba(hc:X.calm=true)(S:CompScope X scope own frees ix)(hi:PI X tg iter wi)(hg:∀cl C s2 H2 fp,PG (qbt X (own++frees) scope cl C s2 H2 fp) tg g)(ht:∀cl C s2 H2 fp,PTs (qbt X (own++frees) scope cl C s2 H2 fp) ifs tt)(he:∀cl C s2 H2 fp,PE (qbt X (own++frees) scope cl C s2 H2 fp) elt te)(hs:∀x,foldedSetIterable iter X.env x=pure x:=by intro _;rfl) :
  PE X (.ListComp elt [⟨tg,iter,ifs,0⟩] scope pos) (qi1 own.length ix wi g tt te):=by
 intro pins s σ H Q I h;obtain⟨cl,hcl,hcl1,hcl2⟩:=qhv (scope:=scope) (env:=X.env) λx hx hf=>I.ok.has x.1 (S.fr x hx hf)
 rw[eval_ListComp];refine wpAny_comprehension_free (use:=none) rfl hs hcl S.kind S.loc ?_;refine thn (hi pins s σ H _ I h) λv s1 h1=>thn h1 λitv s2 h2=>?_
 obtain⟨it,fp,tn,J,H2,e,I2,T,st2,f2,W,w0,turn⟩:=h2;subst e;refine qeO (Q:=Q) (RR:=λacc C=>compPost (model X.prog X.w) X.A X.xe none (EP X pins σ Q) acc C) hc S I2 hcl1 hcl2 T st2 f2 (λC=>hg cl C s2 H2 fp) (λC=>ht cl C s2 H2 fp) (λC=>he cl C s2 H2 fp) w0 turn ?_;intro D C H' s' m I' fC nC q;exact⟨m,nC,λh' hs'=>⟨.ref D,H',I'.letgo fC hs',rfl,q⟩⟩
theorem qer{i:Nat}{y:Str}{py spos:Pos}(hc:X.calm=true)(hN:X.N.Nodup)(hiN:X.N[i]?=some y)(hy:Loc X.env.scope y)(S:CompScope X scope own frees ix)(hi:PI X tg iter wi)(hg:∀ cl C s2 H2 fp,PG (qbt X (own++frees) scope cl C s2 H2 fp) tg g)(ht:∀ cl C s2 H2 fp,PTs (qbt X (own++frees) scope cl C s2 H2 fp) ifs tt)(he:∀ cl C s2 H2 fp,PE (qbt X (own++frees) scope cl C s2 H2 fp) elt te)(hf:X.fn y=true\/X.env.scope.names.lookup y=some .local:=by first | exact .inl rfl | exact .inr rfl | assumption)(hsw:swapsWith (.ListComp elt [⟨tg,iter,ifs,0⟩] scope pos) (some (.Name y py)) spos.line X.env=pure true:=by with_unfolding_all rfl)(hs:∀ x,foldedSetIterable iter X.env x=pure x:=by intro _; rfl) :
  PS X (.Assign [.Name y py] (.ListComp elt [⟨tg,iter,ifs,0⟩] scope pos) spos) (tAsg (qi1 own.length ix wi g tt te) (qcq i)):=by
 intro pins s σ H D I h
 obtain ⟨cl,hcl,hcl1,hcl2⟩:=qhv (scope:=scope) (env:=X.env) λx hx hf=>I.ok.has x.1 (S.fr x hx hf)
 rw [exec_Assign_Name_used _ _ _ _ hsw]
 refine qF (wpAny_standAt (qF ?_))
 show wpAny (model X.prog X.w) X.A (do let _ <- comprehension (.ListComp elt [⟨tg,iter,ifs,0⟩] scope pos) scope X.env _ (newList []) false (eval iter X.env) (some (assign (.Name y py) X.env))) _ _ s
 refine qF (xJ (wpAny_comprehension_free (use:=some (assign (.Name y py) X.env)) (Q:=λ_ s'=>SP X pins D .next s') rfl hs hcl S.kind S.loc ?_) (λ_ s' q=>qQ (qQ q)) λ_ _ z=>z)
 refine thn (hi pins s σ H _ I h) λv s1 h1=>thn h1 λitv s2 h2=>?_
 obtain ⟨it,fp,tn,J,H2,e,I2,T,st2,f2,W,w0,turn⟩:=h2
 subst e
 refine qeO (Q:=λv H'=>qcq i v σ H' D.nx) (RR:=λacc C=>compPost (model X.prog X.w) X.A X.xe (some (assign (.Name y py) X.env)) (λ_ s'=>SP X pins D .next s') acc C) hc S I2 hcl1 hcl2 T st2 f2 (λC=>hg cl C s2 H2 fp) (λC=>ht cl C s2 H2 fp) (λC=>he cl C s2 H2 fp) w0 turn ?_
 intro L C H' s' m I' fC nC q
 show wpAny (model X.prog X.w) X.A (assign (.Name y py) X.env (.ref L)) _ _ _
 refine wpAny_assign_Name (qfH (v:=.ref L) I' hN hiN hy rfl (λs3 I3 hch=>?_) hf)
 obtain ⟨a,sb,ha⟩:=hch
 have nCa:C≠a:=by
  rcases ha with z | z
  ·rw [z]; exact fC.2.1
  ·exact λq=>fC.2.2.2.2.1 y a z q.symm
 refine ⟨m,nC.sameBut sb nCa,λh' hs'=>?_⟩
 exact ⟨_,H',I3.letgo fC hs',q⟩
end
theorem qaN{K:W.Frag}{a:Addr}{xs:List V}{own:Nat}{ix:List Nat}{g:TG}{tt:TT}{te:TE}{σ:St}{H:Hp}{Q:VK}(Pv:Nat->List V->St->Hp->Prop)(hz:xs.length<sizeLine)(h0:Pv 0 [] (qcV own ix σ) H)(hl:∀i ys σ' H',i<=xs.length->Pv i ys σ' H'->SqL K H' a xs/\ys.length<=i)(hs:∀i x ys σ' H',xs[i]?=some x->Pv i ys σ' H'->g x σ' H' λσ2 H3=>tt σ2 H3 λb H4=>if b=true then te σ2 H4 λv H5=>Pv (i+1) (ys++[v]) σ2 H5 else Pv (i+1) ys σ2 H4)(hd:∀ys σ' H',Pv xs.length ys σ' H'->∀D,H' D=none->Q (.ref D) (upd H' D (.lst ys))) :
  qdy own ix g tt te (Itl K a) σ H Q:=by
 refine⟨λi m ys σ H=>m=xs.length-i/\i<=xs.length/\Pv i ys σ H,⟨xs.length,by simp,r8 _,h0⟩,?_⟩;rintro i m ys σ H ⟨rfl,hi,p⟩;obtain⟨q,hy⟩:=hl i ys σ H hi p;refine⟨by omega,?_⟩
 by_cases hlt:i<xs.length
 ·refine .inr ⟨⟨xs,xs[i],q,by simp[hlt]⟩,Pv (i+1),λzs σ' H' p'=>⟨xs.length-(i+1),by omega,rfl,hlt,p'⟩,λx H' y=>?_⟩;obtain⟨e,y⟩:=y;subst e;exact hs i x ys σ _ (y xs q) p
 ·have e:i=xs.length:=by omega
  subst e;exact .inl ⟨⟨xs,q,qG _⟩,hd ys σ H p⟩
theorem ObjOk.at{P:Program}{w:World}{H:Hp}{h:Heap}{a:Addr}{o:HO}(x:ObjOk P w H h a o):∃u,h.get? a=some u:=by
 cases o with
 | lst xs=>obtain⟨_,_,_,_,e⟩:=x;exact⟨_,e⟩
 | tup xs=>obtain⟨_,_,_,o,e,_⟩:=x;exact⟨_,e⟩
 | dK kvs=>obtain⟨_,_,_,_,o,_,_,e,_⟩:=x;exact⟨_,e⟩
 | dT kvs=>obtain⟨_,_,_,_,o,_,_,e,_⟩:=x;exact⟨_,e⟩
 | set S n=>obtain⟨o,_,_,_,e,_⟩:=x;exact⟨_,e⟩
 | ins C dx fs=>obtain⟨_,_,_,e,_⟩:=x;exact⟨_,e⟩
 | own y=>exact x
 | xd fs=>obtain⟨_,⟨_,_,_,e,_⟩,_⟩:=x;exact⟨_,e⟩
 | rng lo hi=>obtain⟨_,_,_,e⟩:=x;exact⟨_,e⟩
 | frz ob u=>obtain⟨e,_⟩:=x;exact⟨_,e⟩
 | tbl ps=>exact⟨_,x⟩
 | met f y=>exact⟨_,x⟩
 | ext φ=>exact x.2.1
def CX1(P:Program)(w:World):CXT:=λouter H s E e s'=>∃(ea C:Addr) (a0:Value) (H':Hp) (B:Heap),e=.ref ea/\s'.os=s.os/\AllBare s'.gens/\Un (frs outer) [] H H' s.heap s'.heap/\HOk P w H' s'.heap /\
 Heap.FlyingW B outer ea (.ref C) a0 s'.heap/\(∀b o,s'.heap.get? b=some o->(H' b≠none\/∃o0,s.heap.get? b=some o0)->b∉frs outer->B.get? b=some o)/\H' ea=none/\s.heap.get? ea=none/\E (.ref C) none H'
theorem qgj{X:Cx}:qdV (CX1 X.prog X.w) X E0:=λ_ _ _ _ _ _ _ h=>by
 obtain⟨_,_,_,_,_,_,_,_,_,_,_,_,_,_,q⟩:=h;exact q.elim
section
variable{P:Program}{w:World}{K:W.Frag}{mg:Str->Option Value}{base:Heap}{N:List Str}{qual:Str}{scope:Scope}{f:Addr}{cd:Value}{A:Around}{outer:List Env}{s0:Shared}{H0:Hp}{E:XK}{pins:List (Addr×Obj)}{σ:St}{H:Hp}{s:Shared}
theorem xe_raise{h':Heap}{e C:Addr}{args:List Value}(I:Inv (cxOf (CX1 P w) P w K mg base N qual scope f cd A outer s0 H0 E) pins σ H s)(hx:Heap.MadeExcOf s.heap h' e (.ref C) args)(hE:E (.ref C) none H) :
  (cxOf (CX1 P w) P w K mg base N qual scope f cd A outer s0 H0 E).xe (.ref e) {s with heap:=h'}:=by
 show wpAny (model P w) (A.deeper (envOfC qual scope s0.heap.objs.size f cd)) (leaving (envOfC qual scope s0.heap.objs.size f cd) (.ref e)) (λ_ s''=>CX1 P w outer H0 s0 E (.ref e) s'') (λe' s''=>CX1 P w outer H0 s0 E e' s'') {s with heap:=h'};have fr:=I.stack;have hin:∀env∈(envOfC qual scope s0.heap.objs.size f cd::outer),∀b,env.frame=some b->b∈frs (envOfC qual scope s0.heap.objs.size f cd::outer):=λenv he b hb=>uP.mpr ⟨env,he,hb⟩
 refine wpAny_leaves_madeW (base:=PySem.W.hideAll s.heap (frs (envOfC qual scope s0.heap.objs.size f cd::outer))) (h:=s.heap) (outer:=outer) I.ok.frames rfl (λb o q=>PySem.W.of_hideAll _ q) (PySem.W.funFrames_hide fr hin) hx λh2 t x1 _ _ x4=>?_
 have kB:∀b o,s.heap.get? b=some o->b∉frs (envOfC qual scope s0.heap.objs.size f cd::outer)->h2.get? b=some o:=λb o q nb=>x1.1 b o (vS _ q nb)
 have old:∀b o,s0.heap.get? b=some o->b∉frs outer->b∉frs (envOfC qual scope s0.heap.objs.size f cd::outer):=λb o q nb z=>by
  rcases qO.mp (show b∈s0.heap.objs.size::frs outer from z)with e1 | e1
  ·rw[e1]at q;exact absurd (qU q) (rX _)
  ·exact nb e1
 have trk:∀b,H b≠none->b∉frs (envOfC qual scope s0.heap.objs.size f cd::outer):=λb q z=>q (I.stkFree b z)
 have slots:∀b o,s.heap.get? b=some o->b∈frs outer->∃sl,h2.get? b=some {o with slots:=sl}:=λb o q hb=>by
  obtain⟨_,o',ho',hnf⟩:=I.funs.mem hb;rw[q]at ho';cases ho';exact x4 b o (hx.keeps b o q) hnf
 refine⟨e,C,.ref t,H,_,rfl,I.os,I.bare,⟨λb o q n nb _=>?_,λb o q n hb _=>?_,λb o q n _=>I.base.free b o q n (by simp[cxOf]),λb o q _=>?_,I.base.tups,I.base.frzs,I.base.tbls⟩,λa o q=>?_,x1,λb o q hq nb=>?_,?_,?_,hE⟩
 ·exact kB b o (I.base.keep b o q n nb (by simp[cxOf])) (old b o q nb)
 ·obtain⟨sl,e1⟩:=I.base.slot b o q n hb (by simp[cxOf]);obtain⟨sl',e2⟩:=slots b _ e1 hb;exact⟨sl',e2⟩
 ·obtain⟨o',e1⟩:=I.base.there b o q (by simp[cxOf])
  by_cases hb:b∈frs outer
  ·obtain⟨sl,e2⟩:=slots b o' e1 hb;exact⟨_,e2⟩
  ·exact⟨o',kB b o' e1 (old b o q hb)⟩
 ·refine(I.hok a o q).stay (λb u hb z=>kB b u z (trk b ?_)) (λ_ z=>z) λ_ _ z=>z
  rcases hb with z' | z'
  ·rw[z',q];exact λz=>by cases z
  ·rw[z'];exact λz=>by cases z
 ·have fin:∃o',s.heap.get? b=some o'/\b∉frs (envOfC qual scope s0.heap.objs.size f cd::outer):=by
   rcases hq with z | ⟨o0,z⟩
   ·cases e1:H b with
    | none=>exact absurd e1 z
    | some u =>
      obtain⟨o',e2⟩:=(I.hok b u e1).at
      exact⟨o',e2,trk b z⟩
   ·obtain⟨o',e2⟩:=I.base.there b o0 z (by simp[cxOf]);exact⟨o',e2,old b o0 z nb⟩
  obtain⟨o',e1,nb'⟩:=fin;have e2:=kB b o' e1 nb';rw[q]at e2;cases e2;exact vS _ e1 nb'
 ·cases e1:H e with
  | none=>rfl
  | some u =>
    obtain⟨o',e2⟩:=(I.hok e u e1).at
    rw[hx.new]at e2
    cases e2
 ·cases e1:s0.heap.get? e with
  | none=>rfl
  | some o =>
    obtain⟨o',e2⟩:=I.base.there e o e1 (by simp[cxOf])
    rw[hx.new]at e2
    cases e2
def qiH(t:TA)(C:Addr)(E:XK):TS:=λ_ σ H=>t σ H λvs H1=>vs.length<=sizeLine/\E (.ref C) none H1
theorem qd5{x:Str}{C:Addr}{bm:List Value}{B newId initId:String}{e0:Expr}{rest:List Expr}{np cpos pos:Pos}{t:TA}(O:OwnCls x C bm newId mg base)(FB:ExcBaseFacts B newId initId bm)(hA:A.handled=none)(hg:Gl (cxOf (CX1 P w) P w K mg base N qual scope f cd A outer s0 H0 E) x)(ha:PA (cxOf (CX1 P w) P w K mg base N qual scope f cd A outer s0 H0 E).nox (e0::rest) t)(he:starEach (e0::rest) (envOfC qual scope s0.heap.objs.size f cd)=(false,eval e0 (envOfC qual scope s0.heap.objs.size f cd))::starEach rest (envOfC qual scope s0.heap.objs.size f cd):=by rfl)(hpl:(backTo cpos (starEach rest (envOfC qual scope s0.heap.objs.size f cd))).any (·.1)=false:=by rfl)(hd:(x == ("__debug__" : Str))=false:=by decide) :
  PS (cxOf (CX1 P w) P w K mg base N qual scope f cd A outer s0 H0 E) (.Raise (some (.Call (.Name x np) (e0::rest) [] cpos)) none pos) (qiH t C E):=by
 intro pins s σ H D I h;obtain⟨tl,N',nm,q,bs,hdct,sn,sub,ab,col,dd,k0,k1,k2,k3,k5,mN,hC,hN,hni,T⟩:=O.obj;refine wpAny_Raise_call_subT (C:=C) (nm:=nm) (q:=q) (N:=N') (bs:=bs) (bm:=tl) (hdct:=hdct) (sn:=sn) (sub:=sub) (ab:=ab) (col:=col) (dd:=dd) (k0:=k0) (k1:=k1) (k2:=k2) (k3:=k3) (k5:=k5)
  FB (mN:=mN) (T.hasType FB.hasBase) hA (by show(backTo cpos (starEach (e0::rest) (envOfC qual scope s0.heap.objs.size f cd))).any (·.1)=false;rw[he];show(false || (backTo cpos (starEach rest (envOfC qual scope s0.heap.objs.size f cd))).any (·.1))=false;rw[hpl];rfl) hni
  (qfp I hg O.bound ⟨rfl,?_⟩ hd)
 have run:=ha cpos pins s σ H _ (I.wish λ_ _=>False) h;have he':starEach (e0::rest) (cxOf (CX1 P w) P w K mg base N qual scope f cd A outer s0 H0 E).env=(false,eval e0 (envOfC qual scope s0.heap.objs.size f cd))::starEach rest (envOfC qual scope s0.heap.objs.size f cd):=he;have he'':starEach (e0::rest) (cxOf (CX1 P w) P w K mg base N qual scope f cd A outer s0 H0 E).nox.env=(false,eval e0 (envOfC qual scope s0.heap.objs.size f cd))::starEach rest (envOfC qual scope s0.heap.objs.size f cd):=he;rw[he'']  at run;rw[he'];refine Calls.evalArgs_plain (xJ run (λus s1 q1=>?_) λ_ _ z=>z.elim);obtain⟨vs,H1,I1,rv,hz,hE⟩:=q1;have I1:=I1.unwish;have kb:=I1.bk;refine⟨rfl,by rw[<-rv.length];exact hz,kb _ _ hC,hN.keeps kb,T.keeps kb,λh' e hm=>?_⟩;exact xe_raise I1 hm hE
end
section
variable{X:Cx}{pins:List (Addr×Obj)}{σ:St}{H:Hp}{s:Shared}{D:Addr}{o:HO}
theorem Inv.track(I:Inv X pins σ H s)(h0:X.s₀.heap.get? D=none)(hn:H D=none)(hL:D≠X.env.locals)(hc:∀x c,X.env.cells.lookup x=some c->c≠D)(hp:∀p∈X.pn++pins,p.1≠D)(new:ObjOk X.prog X.w (upd H D o) s.heap D o):Inv X pins σ (upd H D o) s:=by
 refine⟨I.ok,I.os,I.bare,⟨I.base.keep,I.base.slot,λb ob q n hx=>?_,I.base.there,λb xs q=>?_,λb ob xs q=>?_,λb ps q=>?_⟩,I.loc,I.cell,?_,λx c e=>?_,λp z=>?_,HOk.track I.hok hn new,I.len⟩
 ·rw[qax (λz=>by rw[z,h0]at q;cases q)];exact I.base.free b ob q n hx
 ·have r:=I.base.tups b xs q;rw[qax (λz=>by rw[z,hn]at r;cases r)];exact r
 ·have r:=I.base.frzs b ob xs q;rw[qax (λz=>by rw[z,hn]at r;cases r)];exact r
 ·obtain⟨more,r⟩:=I.base.tbls b ps q;exact⟨more,by rw[qax (λz=>by rw[z,hn]at r;cases r)];exact r⟩
 ·rw[qax (Ne.symm hL)];exact I.free
 ·rw[qax (hc x c e)];exact I.freeC x c e
 ·obtain⟨q1,q2,q3,q4,q5⟩:=I.pin p z;exact⟨q1,by rw[qax (hp p z)];exact q2,q3,q4,q5⟩
end
mutual
inductive DIn(H:Hp):V->PySem.W.Dat->Prop
 | non:DIn H .non .none
 | int (i):DIn H (.int i) (.int i)
 | str (x):DIn H (.str x) (.str x)
 | tup {a xs ds}:H a=some (.tup xs)->DAll H xs ds->DIn H (.ref a) (.tuple ds)
 | lst {a xs ds}:H a=some (.lst xs)->DAll H xs ds->DIn H (.ref a) (.list ds)
inductive DAll(H:Hp):List V->List PySem.W.Dat->Prop
 | nil:DAll H [] []
 | cons {x d xs ds}:DIn H x d->DAll H xs ds->DAll H (x::xs) (d::ds)
end
section
variable{P:Program}{w:World}{H:Hp}{h:Heap}
mutual
theorem qcO(ok:HOk P w H h):∀{v:V} {d:PySem.W.Dat} {u:Value} (n:Nat),DIn H v d->RelV v u->PySem.W.kqdOk n d=true->∃as,Reads h u (PySem.W.kqdP d) as
 | _,_,_,_,.non,r,_=>by cases r;exact⟨_,Reads.none⟩
 | _,_,_,_,.int i,r,_=>by obtain⟨t,rfl⟩:=r;exact⟨_,Reads.int i t⟩
 | _,_,_,_,.str x,r,_=>by obtain⟨t,rfl⟩:=r;exact⟨_,Reads.str x t⟩
 | _,_,_,0,.tup _ _,_,hk=>by simp[PySem.W.kqdOk]at hk
 | _,_,_,0,.lst _ _,_,hk=>by simp[PySem.W.kqdOk]at hk
 | _, _, _, n + 1, .tup (a := a) e q, r, hk => by
   cases r
   obtain⟨_,its,rv,o,e1,e2,k,e3⟩:=ok a _ e
   obtain⟨as,z⟩:=qdI ok n q rv (by simpa[PySem.W.kqdOk]using hk)
   rw[PySem.W.kqdP]
   exact⟨as,reads_tuple_at e1 e2 e3 (by simpa using z)⟩
 | _, _, _, n + 1, .lst (a := a) e q, r, hk => by
   cases r
   obtain⟨_,its,k,rv,e1⟩:=ok a _ e
   obtain⟨as,z⟩:=qdI ok n q rv (by simpa[PySem.W.kqdOk]using hk)
   rw[PySem.W.kqdP]
   exact⟨_,reads_list_at e1 rfl rfl (by simpa using z)⟩
theorem qdI(ok:HOk P w H h):∀{vs:List V} {ds:List PySem.W.Dat} {us:List Value} (n:Nat),DAll H vs ds->Vals vs us->(∀d∈ds,PySem.W.kqdOk n d=true)->∃as,ReadsAll h us (PySem.W.kqdPs ds) as
 | _,_,_,_,.nil,r,_=>by cases r;exact⟨_,ReadsAll.nil⟩
 | _, _, _, n, .cons q qs, r, hk => by
   cases r with
   | cons r1 r2 =>
     obtain⟨as,z⟩:=qcO ok n q r1 (hk _ (.head _))
     obtain⟨bs,y⟩:=qdI ok n qs r2 λd hd=>hk d (.tail _ hd)
     rw[PySem.W.kqdPs]
     exact⟨_,ReadsAll.cons z y⟩
end
end
theorem qhm{d e:PySem.W.Dat}{n k:Nat}(h1:PySem.W.kqdOk n d=true)(h2:PySem.W.kqdOk k e=true)[Decidable (d=e)]:PyData.eqv (PySem.W.kqdP d) (PySem.W.kqdP e)=decide (d=e):=by
 have q:=PySem.W.kqd_eqv n d e k h1 h2
 by_cases z:d=e
 ·rw[qB z];exact q.mpr z
 ·rw[qC z];exact uD.mpr λx=>z (q.mp x)
theorem qc0{d:PySem.W.Dat}(h:PySem.W.kqdOk 9 d=true):SeqAt.shaped (PySem.W.kqdP d)=true:=by
 have q:=PySem.W.kqd_lay 9 d h;unfold SeqAt.shaped;rw[q.1,xP];exact qB (qR q.2 (by decide))
section
variable{X:Cx}
open Classical in
def rEqD(neg:Bool):R2:=λx y H Q=>∃d e,DIn H x d/\DIn H y e/\PySem.W.kqdOk 9 d=true/\PySem.W.kqdOk 9 e=true/\Q (.bl (if neg=true then !decide (d=e)else decide (d=e))) H
open Classical in
theorem op_eqD(hu:X.A.units+64<cLine):OpR X (compareOp .Eq) (rEqD false):=by
 intro pins s σ H x y v u Q I rx ry h;obtain⟨d,e,h1,h2,k1,k2,q⟩:=h;obtain⟨as,r1⟩:=qcO I.hok 9 h1 rx k1;obtain⟨bs,r2⟩:=qcO I.hok 9 h2 ry k2;exact eq_dataH r1 r2 (qc0 k1) (qc0 k2) hu (qa4 I q (by rw[qhm k1 k2];simp))
open Classical in
theorem op_neD(hu:X.A.units+64<cLine):OpR X (compareOp .NotEq) (rEqD true):=by
 intro pins s σ H x y v u Q I rx ry h;obtain⟨d,e,h1,h2,k1,k2,q⟩:=h;obtain⟨as,r1⟩:=qcO I.hok 9 h1 rx k1;obtain⟨bs,r2⟩:=qcO I.hok 9 h2 ry k2;exact ne_dataH r1 r2 (qc0 k1) (qc0 k2) hu (qa4 I q (by rw[qhm k1 k2];simp))
def CDivL(i j:Int):Prop:=0<j/\j<18446744073709551616
theorem op_fdivL:OpR X (binaryOp .FloorDiv) (rI CDivL λi j=>.int (i / j)):=opI λi j _ _ _ _ _ hc q=>by
 have h1:(0:Int)<j:=hc.1;have h2:j<18446744073709551616:=hc.2;refine floordiv_int (by omega) ?_ (.inl (PyProof.noPylong_of_log2 ?_))
 ·rw[Int.fdiv_eq_ediv_of_nonneg i (by omega)];exact q
 ·have h3:j.natAbs<2 ^ 64:=by omega
  exact qX ((Nat.log2_lt (by omega)).mpr h3) (by decide)
theorem call_isinst:qc8 X (.builtin "isinstance") (λxs H Q=>∃x c t b,xs=[x,c]/\TyOf X.K H x t/\(∃cv,(∀u,RelV c u->u=cv)/\PySem.W.kitOne X.K t cv=some b)/\Q (.bl b) H):=by
 intro pins s σ H xs us Q I r h;obtain⟨x,c,t,b,rfl,ty,⟨cv,hcv,e⟩,q⟩:=h;obtain⟨u,w',rfl,r1,r2⟩:=qiP r;obtain rfl:=hcv _ r2;exact isinst_ok I r1 ty e λtk=>⟨.bl b,H,I.tok _,rfl,q⟩
theorem qco(hc:X.calm=true):qc8 X (.builtin "all") (λxs H Q=>∃(p:Addr) (bs:List Bool),xs=[.ref p]/\SqL X.K H p (bs.map V.bl)/\Q (.bl (bs.all id)) H):=by
 intro pins s σ H xs us Q I r h;obtain⟨p,bs,rfl,hp,q⟩:=h;obtain⟨u,rfl,rx⟩:=qd2 r;cases rx;obtain⟨its,rv,pl,hz⟩:=I.list hp;have hh:=I.ok.hd hc;refine call_all_walk (wD pl.isList ?_);have lp:p<s.heap.objs.size:=by
  obtain⟨o,e,_⟩:=pl.isList;exact qU e
 have atB:∀(i:Nat) (v:Value),its.toArray[i]?=some v->v=.bool (bs.getD i false):=λi v e=>by
  have e':its[i]?=some v:=by simpa using e
  cases z:bs[i]? with
  | none =>
    have h1:=rv.length
    rw[qA]at h1
    have h2:=(qD.mp e').1
    have h3:=List.getElem?_eq_none_iff.mp z
    omega
  | some b =>
    obtain⟨u,e2,r2⟩:=rv.get (i:=i) (x:=.bl b) (by rw[qP,z];rfl)
    rw[e']at e2
    cases e2
    cases r2
    rw[xW,z]
    rfl
 refine⟨s.heap.objs.size,_,_,_,_,_,λi=>bs.getD i false,rfl,Walks.list (by simpa using hh) s.heap.objs.size p (rP lp) its.toArray,⟨⟨_,rB _ rfl,rfl,rfl⟩,pl.isList.push _⟩,λi v s' Q' E' e hq=>?_,λh' tk k=>?_⟩
 ·rw[atB i v e];exact xV hq
 ·have ev:(List.range its.toArray.size).all (λi=>bs.getD i false)=bs.all id:=by
   have hl:its.toArray.size=bs.length:=by rw[rK,<-rv.length,qA]
   rw[hl];rw[xD];simp only[List.all_eq_true,List.mem_range,id];constructor
   ·intro z x hx;obtain⟨i,hi,e⟩:=List.mem_iff_getElem.mp hx;have:=z i hi;rw[xW,qE hi,e]at this;exact this
   ·intro z i hi;rw[xW,qE hi];exact z _ (yZ hi)
  rw[ev];exact⟨.bl (bs.all id),H,I.kept λb o e=>k b o (by simpa using rP (qU e)) (qI _ e),rfl,q⟩
end
end L2
namespace Bk
open PySem
inductive Kd
 | body | case | shelf | grid | text | head | picture | aside | note | leaf | no
 deriving DecidableEq
def Kd.s:Kd->Str
 | .body=>Str.ofString "body"
 | .case=>Str.ofString "case"
 | .shelf=>Str.ofString "shelf"
 | .grid=>Str.ofString "grid"
 | .text=>Str.ofString "text"
 | .head=>Str.ofString "head"
 | .picture=>Str.ofString "picture"
 | .aside=>Str.ofString "aside"
 | .note=>Str.ofString "note"
 | .leaf=>Str.ofString "leaf"
 | .no=>Str.ofString ""
theorem Kd.inj(a b:Kd):(a.s=b.s)=(a=b):=by
 cases a<;>cases b<;>first | exact propext ⟨λ_=>rfl,λ_=>rfl⟩ | exact propext ⟨λh=>absurd h (by ac_rfl),λh=>by cases h⟩
inductive So
 | word | page | note | sign
 deriving DecidableEq
def So.s:So->Str
 | .word=>Str.ofString "word"
 | .page=>Str.ofString "page"
 | .note=>Str.ofString "note"
 | .sign=>Str.ofString "sign"
theorem So.inj(a b:So):(a.s=b.s)=(a=b):=by
 cases a<;>cases b<;>first | exact propext ⟨λ_=>rfl,λ_=>rfl⟩ | exact propext ⟨λh=>absurd h (by ac_rfl),λh=>by cases h⟩
inductive Th
 | int (n:Int) | tri (s:So) (x:Sum Str Int) (t:Int)
structure Nd where
 e:Int
 k:Kd
 nm:Str
 mks:List Str
 st:List Th
def wordSigns:List Nat:=[97,98,99,100,101,102,103,104,105,106,107,108,109,110,111,112,113,114,115,116,117,118,119,120,121,122,
 65,66,67,68,69,70,71,72,73,74,75,76,77,78,79,80,81,82,83,84,85,86,87,88,89,90,48,49,50,51,52,53,54,55,56,57,46,44,45,59,58,39,40,41,33,63]
def qh3(c:Nat):Prop:=97<=c/\c<=122
def Word(w:Str):Prop:=1<=w.length/\w.length<=20/\∀c∈w.cps.toList,c∈wordSigns
def Name(n:Str):Prop:=1<=n.length/\n.length<=8/\∀c∈n.cps.toList,qh3 c
def isNote:Th->Bool
 | .tri .note _ _=>true
 | _=>false
def PcOk:Th->Prop
 | .tri .word (.inl w) t=>Word w/\0<=t/\t<=3
 | .tri .page (.inl n) t=>Name n/\0<=t/\t<=3
 | .tri .note (.inr k) t=>0<=k/\k<=60/\t=0
 | _=>False
def noteNum:Th->Option Int
 | .tri .note (.inr k) _=>some k
 | _=>none
def qaj(l:List Th):List Int:=l.filterMap noteNum
def nums(n:Nat):List Int:=(List.range n).map λ(i:Nat)=>(i:Int)
def mayHold:Kd->Kd->Bool
 | .body,.case | .body,.shelf | .body,.grid | .body,.text | .body,.head | .body,.picture | .body,.aside=>true
 | .case,.case | .case,.shelf | .case,.grid | .case,.text | .case,.head | .case,.picture | .case,.aside=>true
 | .shelf,.case | .shelf,.shelf | .shelf,.grid | .shelf,.text | .shelf,.picture=>true
 | .grid,.case | .grid,.shelf | .grid,.grid | .grid,.text | .grid,.picture=>true
 | .text,.note | .head,.note=>true
 | .aside,.case | .aside,.shelf | .aside,.grid | .aside,.text | .aside,.head | .aside,.picture=>true
 | _,_=>false
def neverEmpty:Kd->Bool
 | .body | .shelf | .grid | .aside=>true
 | _=>false
def ofPieces:Kd->Bool
 | .text | .head | .note=>true
 | _=>false
def Nexts:List Kd->Prop
 | []=>True
 | .aside :: .text::r=>Nexts r
 | .aside::_=>False
 | _::r=>Nexts r
def Holds(k:Kd)(ks:List Kd)(st:List Th):Prop:=(∀c∈ks,mayHold k c=true)/\(neverEmpty k=true->ks≠[])/\Nexts ks/\(ofPieces k=true->qaj st=nums ks.length)
def qif(l:List Str):Prop:=l.length<=4/\(∀m∈l,Name m)/\l.Pairwise λa b=>a.cps.toList<b.cps.toList
def Stuff:Kd->List Th->Prop
 | .picture,l=>∃a b:Int,l=[.int a,.int b]/\1<=a/\a<=2000/\1<=b/\b<=2000
 | .text,l | .head,l | .note,l=>(∀x∈l,PcOk x)/\(∃x r,l=x::r/\isNote x=false)/\l.length<=60
 | _,l=>l=[]
def noName:Str:=Str.ofString ""
structure Form(d:Nd):Prop where
 nm:d.nm=noName\/Name d.nm
 mks:qif d.mks
 st:Stuff d.k d.st
def qd1(l:List Nd):Prop:=(l.filter λd=>d.nm≠noName).map (·.nm) |>.Nodup
end Bk
namespace L2
open PySem
theorem qac{H:Hp}{p:Addr}(h:H p=none)(o:HO):Same H (upd H p o):=λb u q=>by rw[qax (qam q h)];exact q
def KeepN(N:Addr->Prop)(H H':Hp):Prop:=∀b o,N b->H b=some o->H' b=some o
theorem KeepN.trans{N:Addr->Prop}{H H1 H2:Hp}(a:KeepN N H H1)(b:KeepN N H1 H2):KeepN N H H2:=λc o n h=>b c o n (a c o n h)
theorem KeepN.mono{N N':Addr->Prop}{H H1:Hp}(a:KeepN N H H1)(h:∀b,N' b->N b):KeepN N' H H1:=λc o n e=>a c o (h c n) e
theorem Same.keep{N:Addr->Prop}{H H':Hp}(s:Same H H'):KeepN N H H':=λb o _ e=>s b o e
theorem KeepN.refl{N:Addr->Prop}{H:Hp}:KeepN N H H:=λ_ _ _ e=>e
end L2
namespace Bk
open PySem L2
def thV:Sum Str Int->V
 | .inl x=>.str x
 | .inr k=>.int k
def ItAt(N:Addr->Prop)(H:Hp)(v:V):Th->Prop
 | .int n=>v=.int n
 | .tri s x t=>∃a,v=.ref a/\N a/\H a=some (.tup [.str s.s,thV x,.int t])
theorem ItAt.keep{N N':Addr->Prop}{H H':Hp}{v:V}{x:Th}(h:ItAt N H v x)(k:KeepN N H H')(sub:∀b,N b->(H b).isSome=true->N' b):ItAt N' H' v x:=by
 cases x with
 | int n=>exact h
 | tri s x t =>
   obtain⟨a,e,n,g⟩:=h
   exact⟨a,e,sub a n (by rw[g];rfl),k _ _ n g⟩
def StAt(N:Addr->Prop)(H:Hp)(s:Addr)(l:List Th):Prop:=N s/\∃vs,H s=some (.lst vs)/\Paired (ItAt N H) vs l
structure NdAt(N:Addr->Prop)(H:Hp)(a:Addr)(d:Nd):Prop where
 na:N a
 ex:∃m s,H a=some (.tup [.int d.e,.str d.k.s,.str d.nm,.ref m,.ref s])/\N m/\H m=some (.lst (d.mks.map V.str))/\StAt N H s d.st
theorem StAt.keep{N N':Addr->Prop}{H H':Hp}{s:Addr}{l:List Th}(h:StAt N H s l)(k:KeepN N H H')(sub:∀b,N b->(H b).isSome=true->N' b):StAt N' H' s l:=by
 obtain⟨n,vs,g,p⟩:=h;exact⟨sub s n (by rw[g];rfl),vs,k _ _ n g,p.mono λv x q=>q.keep k sub⟩
theorem NdAt.keep{N N':Addr->Prop}{H H':Hp}{a:Addr}{d:Nd}(h:NdAt N H a d)(k:KeepN N H H')(sub:∀b,N b->(H b).isSome=true->N' b):NdAt N' H' a d:=by
 obtain⟨na,m,s,g,nm,gm,st⟩:=h;exact⟨sub a na (by rw[g];rfl),m,s,k _ _ na g,sub m nm (by rw[gm];rfl),k _ _ nm gm,st.keep k sub⟩
abbrev NdsAt(N:Addr->Prop)(H:Hp)(as:List Addr)(ds:List Nd):Prop:=Paired (NdAt N H) as ds
theorem NdsAt.keep{N N':Addr->Prop}{H H':Hp}{as:List Addr}{ds:List Nd}(h:NdsAt N H as ds)(k:KeepN N H H')(sub:∀b,N b->(H b).isSome=true->N' b):NdsAt N' H' as ds:=h.mono λa d q=>q.keep k sub
theorem NdsAt.get{N:Addr->Prop}{H:Hp}{as:List Addr}{ds:List Nd}(h:NdsAt N H as ds){i:Nat}{d:Nd}(e:ds[i]?=some d):∃a,as[i]?=some a/\NdAt N H a d:=by
 induction h generalizing i with
 | nil=>cases e
 | @cons a b l1 l2 q t ih =>
   cases i with
   | zero=>cases e;exact⟨a,rfl,q⟩
   | succ i=>exact ih (by simpa using e)
theorem NdsAt.at{N:Addr->Prop}{H:Hp}{as:List Addr}{ds:List Nd}(h:NdsAt N H as ds){i:Nat}{a:Addr}(e:as[i]?=some a):∃d,ds[i]?=some d/\NdAt N H a d:=by
 induction h generalizing i with
 | nil=>cases e
 | @cons a b l1 l2 q t ih =>
   cases i with
   | zero=>cases e;exact⟨b,rfl,q⟩
   | succ i=>exact ih (by simpa using e)
theorem NdsAt.append{N:Addr->Prop}{H:Hp}{as bs:List Addr}{ds es:List Nd}(p:NdsAt N H as ds)(h:NdsAt N H bs es):NdsAt N H (as++bs) (ds++es):=by
 induction p with
 | nil=>exact h
 | cons q t ih=>exact .cons q ih
def BookAt(N:Addr->Prop)(H:Hp)(p:Addr)(ds:List Nd):Prop:=∃as,H p=some (.lst (as.map V.ref))/\NdsAt N H as ds
theorem qbO{as:List Addr}{i:Nat}{a:Addr}(e:as[i]?=some a):atI (as.map V.ref) ((i:Nat):Int)=some (.ref a):=qbV (by rw[qP,e];rfl)
end Bk
namespace L2
open PySem PySem.Spec PyProof.Rows
theorem b_enumerate:bootBuiltins "enumerate" = some (.type "enumerate"):=by ac_rfl
section
variable{X:Cx}{pins:List (Addr×Obj)}{σ:St}{H:Hp}{s:Shared}{h':Heap}{fp:List Addr}
theorem Inv.moved{t':Nat}(I:Inv X pins σ H s)(hf:∀b∈fp,FpOk X pins H b)(k:∀b o,b∉fp->s.heap.get? b=some o->h'.get? b=some o):Inv X pins σ H {s with heap:=h',toks:=t'}:=by
 refine I.step (g':=s.gens) (d':=s.drawn) (ch:=fp) (λb hb=>?_) (λb o _ _ hc e _=>k b o hc e) (λb o _ _ hc e _=>⟨o.slots,k b o hc e⟩) (λ_ _ _ _ n=>n) (λb o hc e=>⟨o,k b o hc e⟩) (λ_ _ q=>q) (λ_ _ _ q=>q) (λb ps q=>⟨#[],by rw[q];simp⟩) (λm hn=>?_) (λa u q=>?_) I.bare
 ·obtain⟨_,f1,_,f3,f4,f5⟩:=hf b hb;exact⟨f3,f1,f4,f5⟩
 ·obtain⟨o,es,ep,e,r⟩:=hn;exact⟨o,es,ep,k _ _ (λz=>(hf _ z).2.1 rfl) e,r⟩
 ·refine(I.hok a u q).stay (λb v hb e=>k b v (λz=>?_) e) (λ_ z=>z) λ_ _ z=>z
  have:=(hf b z).1;rcases hb with rfl | hb
  ·rw[q]at this;cases this
  ·rw[hb]at this;cases this
end
def Ite(K:W.Frag)(a:Addr):It :=
 ⟨λi H=>∃xs x,SqL K H a xs/\xs[i]?=some x,λi H x H'=>∃T y,H T=none/\x=.ref T/\H'=upd H T (.tup [.int (i:Nat),y])/\∀xs,SqL K H a xs->xs[i]?=some y,λi H=>∃xs,SqL K H a xs/\xs.length<=i⟩
theorem turn_enum{P:Program}{w:World}{K:W.Frag}{elts:List Expr}{k1:Nat}{tp:Pos}(a e it:Addr)(hei:e≠it):Turn P w K (.Tuple elts k1 tp) (Ite K a) [e,it] e (λi h=>(∃old,IsEnum h e it ((i:Nat):Int) old)/\h.IsListIter it a i) where
 mem:=by simp
 obj:=λi h st b hb=>by
  obtain⟨⟨old,x⟩,o,e1,c,d⟩:=st;rcases qO.mp hb with rfl | hb
  ·exact⟨_,x,λv z=>by cases z⟩
  ·have:b=it:=by simpa using hb
   subst this;exact⟨o,e1,λv z=>by rw[d]at z;cases z⟩
 keep:=λi h h' st k=>by
  obtain⟨⟨old,x⟩,y⟩:=st;exact⟨⟨old,k e (by simp) _ x⟩,y.at λo z=>k it (by simp) o z⟩
 item:=by
  intro X hP hw hK hc i pins s σ H E I hf st hg;subst hP hw hK;obtain⟨xs,x,hq,hx⟩:=hg;obtain⟨⟨old,st1⟩,st2⟩:=st;obtain⟨its,rv,p,hz⟩:=I.list hq;obtain⟨u,hu,ru⟩:=rv.get hx;refine wpAny_pyNext_enum_item st1 st2 p.isList (x:=u) (by simpa using hu) hei λh' ho hit' hT hsz hk=>?_
  refine⟨_,rfl,wpAny_letOwnedTupleGo_enum ho λh2 he2 sb=>?_⟩;have k2:∀b o,b∉[e,it]->s.heap.get? b=some o->h2.get? b=some o:=λb o hb z=>(sb.2 b (λq=>hb (by simp[q]))).trans (hk b o (λq=>hb (by simp[q])) (λq=>hb (by simp[q])) z)
  have elt:e<s.heap.objs.size:=qU st1;have ilt:it<s.heap.objs.size:=by obtain⟨o,z,_⟩:=st2;exact qU z
  have gT:h2.get? s.heap.objs.size=some {cls:=.type "tuple",data:=.seq #[.int i s.toks,u]}:=(sb.2 _ (uG elt)).trans hT;have I1:Inv X pins σ H {s with heap:=h2,toks:=s.toks+1}:=I.moved hf k2;have hn:H s.heap.objs.size=none:=I.hok.fresh (qG _);refine⟨.ref s.heap.objs.size,upd H s.heap.objs.size (.tup [.int (i:Nat),x]),I1.track ?_ hn (uG I.lt) (λy c ec z=>?_) (λq hq z=>?_) ?_,rfl,⟨s.heap.objs.size,x,hn,rfl,rfl,λys hy=>by rw[I.list_inj hy hq];exact hx⟩,⟨⟨u,?_⟩,hit'.at λo z=>(sb.2 it (Ne.symm hei)).trans z⟩,λb hb=>?_⟩
  ·cases z:X.s₀.heap.get? s.heap.objs.size with
   | none=>rfl
   | some u=>exact absurd (qX (qU z) I.sz) (rX _)
  ·obtain⟨v,q⟩:=I.cell y c ec;exact absurd q.lt (by rw[z];exact rX _)
  ·exact absurd (qU (I.pin q hq).1) (by rw[z];exact rX _)
  ·exact⟨by show 2<=sizeLine;decide,[.int i s.toks,u],.cons ⟨_,rfl⟩ (.cons ru .nil),_,gT,rfl,_,rfl⟩
  ·simpa using he2
  ·rw[qax (λz=>by
    have:=hb;rw[z]at this;rcases qO.mp this with q | q
    ·exact absurd elt (by rw[<-q];exact rX _)
    ·have q':s.heap.objs.size=it:=by simpa using q
     exact absurd ilt (by rw[<-q'];exact rX _))]
   exact(hf b hb).1
 done:=by
  intro X hP hw hK hc i pins s σ H E I hf st hg;subst hP hw hK;obtain⟨xs,hq,hx⟩:=hg;obtain⟨⟨old,st1⟩,st2⟩:=st;obtain⟨its,rv,p,hz⟩:=I.list hq;have hl:=rv.length;exact wpAny_pyNext_enum_end (I.ok.hd hc) st1 st2 p.isList (by simp;omega) λh' eb=>⟨rfl,I.moved (t':=s.toks) hf λb o hb z=>eb b o (λq=>hb (by simp[q])) z⟩
 self:=λ_ _ _ _ _ st h=>by
  obtain⟨⟨old,x⟩,_⟩:=st;exact wpAny_pyIter_enum x h
def Its(x:Str):It:=⟨λi _=>i<x.cps.size,λi H v H'=>H'=H/\∃c,x.cps[i]?=some c/\v=.str ⟨#[c]⟩,λi _=>x.cps.size<=i⟩
section
variable{X:Cx}{tg:Expr}
def iEnum(K:W.Frag)(ta:TA):TI:=λσ H R=>ta σ H λvs H1=>∃a,vs=[.ref a]/\(∃xs,SqL K H1 a xs)/\R (Ite K a) H1
theorem qcQ{a:Expr}{ta:TA}{p pos tp:Pos}{elts:List Expr}{k1:Nat}(hg:Gl X "enumerate")(hm:X.mg "enumerate" = none)(ha:PA X [a] ta)(hs:starEach [a] X.env=[(false,eval a X.env)]:=by rfl):PI X (.Tuple elts k1 tp) (.Call (.Name "enumerate" p) [a] [] pos) (iEnum X.K ta):=by
 intro pins s σ H R I h;refine Call_ (qdR I hg hm b_enumerate (xT (thn (ha pos pins s σ H _ I h) λus s1 ⟨vs,H1,I1,r1,q1⟩=>?_) hs rfl));obtain⟨l,e,⟨xs,hq⟩,q⟩:=q1;subst e;cases r1 with
 | cons r rr =>
   cases rr
   cases r
   obtain⟨its,rv,pl,hz⟩:=I1.list hq
   refine call_enumerate_list pl.isList λh' he hit hsz kp=>?_
   refine wpAny_pyIter_enum he ?_
   have I2:Inv X pins σ H1 {s1 with heap:=h'}:=I1.kept (t':=s1.toks) kp
   refine⟨s1.heap.objs.size+1,[s1.heap.objs.size+1,s1.heap.objs.size],_,_,H1,rfl,I2,turn_enum l _ _ (uG (xS _)),⟨⟨_,by simpa using he⟩,hit⟩,λb hb=>?_,q⟩
   rcases qO.mp hb with rfl | hb
   · exact I1.fpOk (uE _) (I1.hok.fresh (uE _))
   · have:b=s1.heap.objs.size:=by simpa using hb
     subst this
     exact I1.fpOk (qG _) (I1.hok.fresh (qG _))
end
end L2
namespace L2
open PySem PySem.Spec
section
variable{κ:Type}[DecidableEq κ]
def one1(l:List κ)(v:κ):List κ:=if v∈l then l else l++[v]
def met(val:Nat->κ)(i:Nat):List κ:=((List.range i).map val).foldl one1 []
theorem qfv(val:Nat->κ)(i:Nat):met val (i+1)=one1 (met val i) (val i):=by
 unfold met;rw[vK,qM,List.foldl_append];rfl
theorem qiE(val:Nat->κ):∀i,(met val i).length<=i
 | 0=>qG _
 | i + 1 => by
   rw[qfv]
   unfold one1
   have:=qiE val i
   split
   · omega
   · rw[qH,y4];omega
theorem qho(l:List κ)(v k:κ):decide (k∈one1 l v)=(decide (k∈l) || decide (k=v)):=by
 unfold one1
 by_cases z:v∈l
 ·rw[if_pos z]
  by_cases e:k=v
  ·subst e;simp[z]
  ·simp[e]
 ·rw[if_neg z];simp
theorem qgL(l:List κ)(v:κ):(one1 l v).length=if decide (v∈l)=true then l.length else l.length+1:=by
 unfold one1
 by_cases z:v∈l
 ·simp[z]
 ·simp[z]
theorem qgG{prog:Program}{w:World}{knd:KeyKind prog w κ}{h:Heap}{a:Addr}{S S':κ->Bool}{n n':Nat}(x:h.SetOf knd a S n)(e:∀k,S k=S' k)(en:n=n'):h.SetOf knd a S' n':=by
 obtain rfl:S=S':=funext e;exact en ▸ x
end
section
variable{prog:Program}{w:World}{A:Around}{E:Value->Shared->Prop}{s:Shared}{κ:Type}[DecidableEq κ]{knd:KeyKind prog w κ}
abbrev qbQ(led:Bool):Obj:={cls:=.type "set",dict:=none,data:=.set #[] 0 (.fresh 0 0 led)}
end
end L2
namespace L2
open PySem
def NotPlain(w:World)(h:Heap)(a:Addr):Prop:=∃o es ep t,h.get? a=some o/\o.data=.set es ep t/\(t.plain=false\/es.size=0)/\t.led=!(w.params.followText "set-order")
theorem stand_led(t:SetTable)(n:Nat):(t.orStandIn n).led=t.led:=by
 unfold SetTable.orStandIn
 split<;>rfl
theorem lay_led(t:SetTable)(es:Array (Int×Value))(h:Int)(x:Value):(layNew t es h x).2.1.led=t.led:=by
 unfold layNew
 split
 ·exact stand_led _ _
 ·rfl
theorem relay_led(t:SetTable)(es:Array (Int×Value))(n:Nat):(relayAll t es n).2.1.led=t.led:=by
 unfold relayAll;cases e:t.relaid (es.map (·.1)) n with
 | none=>rfl
 | some r =>
   obtain⟨t',order⟩:=r
   dsimp only
   split
   · unfold SetTable.relaid SetTable.laid at e
     cases e1:SetTable.layClean (SetTable.sizeAbove n-1) (es.map (·.1))with
     | none=>rw[e1]at e;cases e
     | some ow =>
       rw[e1]at e
       cases e
       rfl
   · rfl
theorem relay_plain(t:SetTable)(es:Array (Int×Value))(n:Nat)(h:t.plain=false):(relayAll t es n).2.1.plain=false:=by
 unfold relayAll;cases e:t.relaid (es.map (·.1)) n with
 | none=>rfl
 | some r =>
   obtain⟨t',order⟩:=r
   dsimp only
   split
   · unfold SetTable.relaid SetTable.laid at e
     cases e1:SetTable.layClean (SetTable.sizeAbove n-1) (es.map (·.1))with
     | none=>rw[e1]at e;cases e
     | some ow =>
       rw[e1]at e
       cases e
       exact h
   · rfl
section
variable{prog:Program}{w:World}{A:Around}{E:Value->Shared->Prop}{s:Shared}{κ:Type}[DecidableEq κ]{knd:KeyKind prog w κ}
theorem qgC{g:Bool->Sem Unit}(hg:∀ (b:Bool) (s1:Shared) (Q1:Unit->Shared->Prop),Q1 () s1->wpAny (model prog w) A (g b) Q1 E s1){a:Addr}{o:Obj}{es:Array (Int × Value)}{ep:Nat}{t:SetTable}(ho:s.heap.get? a=some o)(hex:o.ExactSet)(hd:o.data=.set es ep t){es1:Array (Int × Value)}{t2:SetTable}{S':κ->Bool}(hel:ElemsOf knd es1.toList)(hme:∀ k',S' k'=true↔∃ e∈es1.toList,knd.is k' e.2=true)(hb:es1.size < scanBound)(hf:t2.fits es1.size=true)(hp2:t2.plain=false)(hl2:t2.led=!(w.params.followText "set-order")){dm:Bool}{R:Option Bool->Shared->Prop}(fin:∀ h',Heap.SameBut a s.heap h'->h'.SetOf knd a S' es1.size->NotPlain w h' a->R (some true) { s with heap:=h' }) :
  wpAny (model prog w) A (do
   storeSet a es1 t2
   if (!dm && t2.tooFull)=true then do
       g (relayAll t2 es1 (SetTable.grown es1.size)).2.2
       storeSet a (relayAll t2 es1 (SetTable.grown es1.size)).1 (relayAll t2 es1 (SetTable.grown es1.size)).2.1
       pure (some true)
    else pure (some true)) R E s:=by
 obtain ⟨g1,x1⟩:=SetOf_store (knd:=knd) ho hex hd hel hme hb hf
 have b1:=Heap.SameBut.update s.heap a (Obj.putSet es1 t2)
 refine qF (wpAny_storeSet_of ho hd ?_ (fits_of_scanBound hb))
 by_cases full:(!dm && t2.tooFull)=true
 ·rw [if_pos full]
  have pm:=relayAll_perm t2 es1 (SetTable.grown es1.size)
  have ft:=relayAll_fits t2 es1 (SetTable.grown es1.size)
  have pl:=relay_plain t2 es1 (SetTable.grown es1.size) hp2
  have ld:=relay_led t2 es1 (SetTable.grown es1.size)
  generalize relayAll t2 es1 (SetTable.grown es1.size)=Z at pm ft pl ld ⊢
  obtain ⟨es2,t3,gv⟩:=Z
  dsimp only at pm ft pl ld ⊢
  have sz:es2.size=es1.size:=by simpa using pm.length_eq
  have hb2:es2.size < scanBound:=by omega
  refine qF (hg gv _ _ ?_)
  refine qF (wpAny_storeSet_of g1 rfl ?_ (fits_of_scanBound hb2))
  obtain ⟨g2,x2⟩:=SetOf_store (knd:=knd) (S':=S') g1 hex rfl (hel.perm pm) (λk'=>(hme k').trans ⟨λz=>⟨z.choose,pm.mem_iff.mpr z.choose_spec.1,z.choose_spec.2⟩,λz=>⟨z.choose,pm.mem_iff.mp z.choose_spec.1,z.choose_spec.2⟩⟩) hb2 ft
  rw [sz] at x2
  exact qQ (fin _ (b1.trans (Heap.SameBut.update _ a _)) x2 ⟨_,_,_,_,g2,rfl,.inl pl,ld.trans hl2⟩)
 ·rw [if_neg full]
  exact qQ (fin _ b1 x1 ⟨_,_,_,_,g1,rfl,.inl hp2,hl2⟩)
theorem set_add{a:Addr}{S:κ->Bool}{n:Nat}{k:κ}{x:Str}{tk:Tok}{Q:Bool->Shared->Prop}(hkey:knd.is k (.str x tk)=true)(hS:s.heap.SetOf knd a S n)(hP:NotPlain w s.heap a)(room:n+1<scanBound)(fin:∀h',Heap.SameBut a s.heap h'->h'.SetOf knd a (λk'=>S k' || decide (k'=k)) (if S k then n else n+1)->NotPlain w h' a->Q (!S k) {s with heap:=h'}) :
  wpAny (model prog w) A (setAddHashed a (.str x tk) (knd.hash k)) Q E s:=by
 obtain⟨o,es,ep,t,ho,hex,hd,hel,hme,hb,hf,hn⟩:=hS;unfold setAddHashed setAddHashedIn;refine yX (qF (xU ho hd hf ?_));dsimp only;rw[byScan_of (x:=.str x tk) rfl hb hel,if_pos rfl];unfold setAddByScan;refine qF (qF (wpAny_rule (qF (wpAny_setScan_of hkey ho hd hf hel ?_))));cases there:List.findIdx? (λe=>knd.is k e.2) es.toList with
 | some j =>
   dsimp only
   obtain⟨hj,hpj,_⟩:=List.findIdx?_eq_some_iff_getElem.mp there
   have yes:S k=true:=(hme k).mpr ⟨_,yZ hj,hpj⟩
   refine qQ (qQ ?_)
   have q:=fin s.heap (Heap.SameBut.refl a s.heap) ⟨o,es,ep,t,ho,hex,hd,hel,λk'=>?_,hb,hf,by rw[if_pos yes];exact hn⟩ hP
   · rw[yes]at q
     exact q
   · rw[<-hme k',wM,decide_eq_true_eq]
     constructor
     · rintro(z | rfl)
       · exact z
       · exact yes
     · exact .inl
 | none =>
   dsimp only
   have no:S k=false:=uD.mpr λz=>by
     obtain⟨e,he,hp⟩:=(hme k).mp z
     exact absurd hp (by rw[List.findIdx?_eq_none_iff.mp there e he];exact qL)
   have pm:=layNew_perm t es (knd.hash k) (.str x tk)
   have ft:=layNew_fits t es (knd.hash k) (.str x tk)
   have ld:=lay_led t es (knd.hash k) (.str x tk)
   have ld0:t.led=!(w.params.followText "set-order"):=by
     obtain⟨o',es',ep',t',e1,e2,_,e3⟩:=hP
     rw[ho]at e1
     cases e1
     rw[hd]at e2
     cases e2
     exact e3
   rw[ld0]at ld
   generalize layNew t es (knd.hash k) (.str x tk)=Z at pm ft ld⊢
   obtain⟨es1,t1,dm,gv⟩:=Z
   dsimp only at pm ft ld⊢
   rw[Array.toList_push]at pm
   have sz:es1.size=n+1:=by
     have:=pm.length_eq
     rw[qH,xC,xC,hn]at this
     exact this
   have quiet:∀(b:Bool) (s1:Shared) (Q1:Unit->Shared->Prop),Q1 () s1->wpAny (model prog w) A (match b with | true=>rule "set.scan.the-table-gave-way" | false=>pure ()) Q1 E s1:=λb s1 Q1 q=>by
     cases b with
     | true=>exact wpAny_rule q
     | false=>exact qQ q
   have last:∀h',Heap.SameBut a s.heap h'->h'.SetOf knd a (λk'=>S k' || decide (k'=k)) es1.size->NotPlain w h' a->Q true {s with heap:=h'}:=λh' sb x' np=>by
     have q:=fin h' sb
     rw[no,if_neg qL,<-sz]at q
     exact q x' np
   refine qF (quiet _ _ _ ?_)
   have el1:ElemsOf knd es1.toList:=(hel.push hkey rfl).perm pm
   have me1:=λk'=>mem_push_iff hkey hme pm k'
   have hb1:es1.size<scanBound:=by omega
   cases pl:t1.plain with
   | true =>
     rw[if_pos rfl,hashByValue_scannable 8 (x:=.str x tk) rfl]
     refine qF (qQ ?_)
     refine qgC quiet ho hex hd el1 me1 hb1 (t2:={t1 with plain:=false}) (SetTable.fits_plain_off ft) rfl ld λh' sb x' np=>?_
     exact qQ (last h' sb x' np)
   | false =>
     rw[if_neg qL]
     refine qF (qQ ?_)
     refine qgC quiet ho hex hd el1 me1 hb1 (t2:=t1) ft pl ld λh' sb x' np=>?_
     exact qQ (last h' sb x' np)
end
end L2
namespace L2
open PySem PySem.Spec
theorem NotPlain.at{w:World}{h h':Heap}{a:Addr}(x:NotPlain w h a)(k:∀o,h.get? a=some o->h'.get? a=some o):NotPlain w h' a:=by
 obtain⟨o,es,ep,t,e,r⟩:=x;exact⟨o,es,ep,t,k _ e,r⟩
section
variable{prog:Program}{w:World}{A:Around}{E:Value->Shared->Prop}{s:Shared}
theorem set_new(a:Value){Q1:Value->Shared->Prop}(q:Q1 (.ref s.heap.objs.size) {s with heap:=s.heap.push (qbQ (!(w.params.followText "set-order")))}) :
  codeAny (model prog w) A (.call (.builtin "set.__new__") ⟨[.type "set",a],[]⟩) (wants Q1 E) s:=by
 refine codeAny_of_tree ?_;show wpAny _ A.in1 (checkBuiltinCall "set.__new__" ⟨[.type "set",a],[]⟩>>=λ_=>again (.builtin "set.__new__" ⟨[.type "set",a],[]⟩)) _ _ s;refine qF (wpAny_of_eq (F.newCall_set_1 a) (qQ ⟨vC F.plain_set_new _,uS F.entry_set_new ?_⟩));rw[uC F.plain_set_new _];unfold Builtin.«set.__new__» Builtin.Frozenset.newClass;have e1:=sub_set_self;obtain⟨h0,g0,d0,t0,o0⟩:=s;dsimp only
 wp_walk
 refine yI (qQ ?_);dsimp only;simp only[newObj];exact qF (wpAny_alloc (qQ (qQ q)))
end
section
variable{prog:Program}{w:World}{A:Around}{R:Result->Shared->Prop}{J:Addr}{fp wr:List Addr}{G:Array GenState->Array GenState->Prop}{n:Nat}{P:Nat->Value->Prop}{St:Nat->Shared->Prop}{κ:Type}[DecidableEq κ]{knd:KeyKind prog w κ}
theorem upd_loopS(W:WalksS prog w A.in1 J fp wr G n P St)(S:Addr)(nS:S∉fp)(val:Nat->κ)(hv:∀i v,P i v->∃x t,v=.str x t/\knd.is (val i) (.str x t)=true)(hb:n+1<scanBound) :
  ∀(k i:Nat) (s:Shared),n-i=k->i<=n->St i s->s.heap.SetOf knd S (λq=>decide (q∈met val i)) (met val i).length->NotPlain w s.heap S ->
   (∀s',Moved (S::wr) G s s'->s'.heap.SetOf knd S (λq=>decide (q∈met val n)) (met val n).length->NotPlain w s'.heap S->R (.ok (.ret .none)) s') ->
   codeAny (model prog w) A (.builtin "set.update.loop" ⟨[.ref S,.ref J],[]⟩) R s:=by
 have nSw:S∉wr:=λq=>nS (W.sub _ q)
 have sub:∀b∈wr,b∈S::wr:=λb q=>qN _ q
 intro k
 induction k with
 | zero =>
   intro i s hk hi st x np fin
   obtain rfl:i=n:=by omega
   refine uS PyProof.Rows.F.entry_set_update_loop ?_
   rw[uC yW _]
   show wpAny (model prog w) A.in1 (pyNext (.ref J)>>=_) _ _ s
   refine qF (W.done s _ _ st λs1 mv=>?_)
   show wpAny (model prog w) A.in1 (ret Value.none) _ _ s1
   refine qQ (fin s1 (mv.mono sub) ?_ (np.at λo e=>mv.heap S _ nSw e))
   obtain⟨o,es,ep,tb,ho,r⟩:=x
   exact⟨o,es,ep,tb,mv.heap S _ nSw ho,r⟩
 | succ k ih =>
   intro i s hk hi st x np fin
   have lt:i<n:=by omega
   refine uS PyProof.Rows.F.entry_set_update_loop ?_
   rw[uC yW _]
   show wpAny (model prog w) A.in1 (pyNext (.ref J)>>=_) _ _ s
   refine qF (W.item i s _ _ lt st λv s1 hP st1 mv=>?_)
   obtain⟨tx,tt,rfl,kv⟩:=hv i v hP
   have np1:NotPlain w s1.heap S:=np.at λo e=>mv.heap S _ nSw e
   have x1:s1.heap.SetOf knd S (λq=>decide (q∈met val i)) (met val i).length:=by
     obtain⟨o,es,ep,tb,ho,r⟩:=x
     exact⟨o,es,ep,tb,mv.heap S _ nSw ho,r⟩
   show wpAny (model prog w) A.in1 (holding [Value.str tx tt] (setAdd S (Value.str tx tt))>>=_) _ _ s1
   refine qF (yX ?_)
   unfold setAdd
   refine yX ?_
   refine qF (knd.pyHash kv ?_)
   have room:(met val i).length+1<scanBound:=by have:=qiE val i;omega
   refine set_add (knd:=knd) (s:={s1 with toks:=s1.toks+1}) kv x1 np1 room λh' sb x2 np2=>?_
   have x3:h'.SetOf knd S (λq=>decide (q∈met val (i+1))) (met val (i+1)).length :=
     qgG x2 (λq=>by rw[qfv,qho]) (by rw[qfv,qgL])
   refine qQ ⟨vC yW _,ih (i+1) _ (by omega) lt (W.frame _ s1 _ _ st1 (uE _) λb hb o e=>?_) x3 np2 λs2 mv2 x4 np4=>?_⟩
   · rw[sb.2 b (λz:b=S=>nS (by rw[<-z];exact hb))];exact e
   · refine fin s2 (Moved.trans W.gtrans ((mv.mono sub).then_heap (uE _) λb o hb e=>?_) mv2) x4 np4
     rw[sb.2 b (λz:b=S=>hb (by rw[z];exact qJ))];exact e
end
section
variable{prog:Program}{w:World}{A:Around}{E:Value->Shared->Prop}{s:Shared}{κ:Type}[DecidableEq κ]{knd:KeyKind prog w κ}
theorem set_fromS{l:Addr}{its:Array Value}{val:Nat->κ}{Q:Value->Shared->Prop}(hh:A.handled=none)(hl:s.heap.IsList l its)(hv:∀(i:Nat) (v:Value),its[i]?=some v->∃x t,v=.str x t/\knd.is (val i) (.str x t)=true)(hb:its.size+1<scanBound)(fin:∀(h':Heap) (tk:Nat),h'.SetOf knd s.heap.objs.size (λq=>decide (q∈met val its.size)) (met val its.size).length->NotPlain w h' s.heap.objs.size->(∀b o,b<s.heap.objs.size->s.heap.get? b=some o->h'.get? b=some o) ->
   Q (.ref s.heap.objs.size) {s with heap:=h',toks:=tk}) :
  wpAny (model prog w) A (call (.type "set") [.ref l]) Q E s:=by
 obtain⟨c1,c2,m1⟩:=F.called_set.mro;have m2:=F.called_set.made;have m3:=F.called_set.sub;refine wpAny_call (codeAny_of_tree ?_);show wpAny (model prog w) _ (callAny (.type "set") _) _ _ _;refine qQ ⟨Code.quiet_builtin _ (by ac_rfl),uS F.entry_type_call ?_⟩;rw[Around.under_plain (weight_type_call_type "set" [.ref l] []) rfl];have m4:=F.called_set.notType;have m5:=F.called_set.canCreate;have m6:=F.typeCall_set_1 (.ref l)
 repeat (any_goals (first | assumption | wp_step))
 refine vA (set_new (.ref l) (E:=E) (Q1:=λob s1=>∃led:Bool,ob=.ref s.heap.objs.size/\s1={s with heap:=s.heap.push (qbQ led)}/\led=!(w.params.followText "set-order")) ⟨_,rfl,rfl,rfl⟩) λr s1 hr=>?_
 rcases r with e | fl
 ·exact hr
 rcases fl with _ | _ | _ | ob<;>first | exact hr.elim | skip
 obtain⟨led,rfl,rfl,hled⟩:=hr;have gS:(s.heap.push (qbQ led)).get? s.heap.objs.size=some (qbQ led):=rB _ rfl;have tS:Shared.TypeIs {s with heap:=s.heap.push (qbQ led)} (.ref s.heap.objs.size) "set":=⟨_,gS,rfl⟩;have q1:=F.called_set.init.lookup;have q2:=F.called_set.init.bind (.ref s.heap.objs.size)
 repeat (any_goals (first | assumption | wp_step))
 refine vA (codeAny_call_builtin (R:=wants (λr s2=>r=.none/\∃h' tk,s2={s with heap:=h',toks:=tk}/\h'.SetOf knd s.heap.objs.size (λq=>decide (q∈met val its.size)) (met val its.size).length/\NotPlain w h' s.heap.objs.size /\
   (∀b o,b<s.heap.objs.size->s.heap.get? b=some o->h'.get? b=some o)) E) F.called_set.init.plain F.entry_set_init (check_set_init_1 tS ?_)) λr2 s2 hr2=>?_
 ·obtain⟨ol,hol,hcl,nl,hdl⟩:=hl;obtain⟨z1,z2,z3,z4⟩:=ol;simp only at hcl hdl;subst hcl hdl;have hol1:(s.heap.push (qbQ led)).get? l=some ⟨.type "list",z2,.seq its nl,z4⟩:=qI _ hol;have e1:=F.sub_list_set;have e2:=F.sub_list_frozenset;have e3:(Value.type "list" == Value.type "dict")=false:=by decide
  have il:(s.heap.push (qbQ led)).IsList l its:=⟨_,hol1,rfl,nl,rfl⟩;unfold Builtin.«set.__init__» noKeywords Builtin.Frozenset.updateFrom;generalize ePI:pyIter=PI
  wp_walk
  subst ePI;refine wD il ?_;refine qF (wpAny_runValue ?_);have lS:l<s.heap.objs.size:=qU hol;have h3:A.in1.in1.in1.handled=none:=by simp[hh]
  have nI:l≠(s.heap.push (qbQ led)).objs.size:=by rw[r9];exact rP (uW lS)
  have nS:s.heap.objs.size∉[(s.heap.push (qbQ led)).objs.size,l]:=by
   rw[r9];intro z;rcases qO.mp z with z | z
   ·exact absurd z (rP (xS _))
   ·rcases qO.mp z with z | z
    ·exact absurd z.symm (rP lS)
    ·cases z
  refine upd_loopS (knd:=knd) ((Walks.list h3 _ l nI its).toS) s.heap.objs.size nS val hv hb (its.size-0) 0 _ (by omega) (r8 _) ⟨⟨_,rB _ rfl,rfl,rfl⟩,(il.push _)⟩ ?x0 ⟨_,_,_,_,qI _ gS,rfl,.inr rfl,hled⟩ ?xR
  case x0 =>
   exact qgG ((PyProof.Rows.setObjOf_fresh (knd:=knd) led).setOf (qI _ gS) (by unfold scanBound;omega)) (λq=>by simp[met]) rfl
  case xR =>
   intro s' mv x np;obtain⟨h',g',d',tk',os'⟩:=s';obtain rfl:g'=s.gens:=mv.gens;obtain rfl:d'=s.drawn:=mv.drawn;obtain rfl:os'=s.os:=mv.os;show wpAny (model prog w) _ _ _ _ _;refine qQ ?_;show wpAny (model prog w) _ (ret Value.none) _ _ _;refine qQ ⟨rfl,h',tk',rfl,x,np,λb o hb e=>?_⟩;refine mv.heap b o (λz=>?_) (qI _ (qI _ e));rcases qO.mp z with z | z
   ·exact absurd z (rP hb)
   ·have z':b=(s.heap.push (qbQ led)).objs.size:=by simpa using z
    rw[r9]at z';exact absurd z' (rP (uW hb))
 ·rcases r2 with e | fl2
  ·exact hr2
  rcases fl2 with _ | _ | _ | r<;>first | exact hr2.elim | skip
  obtain⟨rfl,h',tk,rfl,x,np,kp⟩:=hr2
  repeat (any_goals (first | assumption | wp_step))
  exact fin _ _ x np kp
end
end L2
namespace L2
open PySem
theorem sit_next:Slot "set_iterator" "__next__" "set_iterator.__next__" :=
 .of (owner := "set_iterator") (n := "__next__") (by rw[y9,yE];kernel_rfl) (by ac_rfl) (by ac_rfl) (by ac_rfl) (by first | exact .inl (by ac_rfl) | exact .inr (by ac_rfl)) (by rw[vG];kernel_rfl)
theorem sit_iter:Slot "set_iterator" "__iter__" "set_iterator.__iter__" :=
 .of (owner := "set_iterator") (n := "__iter__") (by rw[y9,yE];kernel_rfl) (by ac_rfl) (by ac_rfl) (by ac_rfl) (by first | exact .inl (by ac_rfl) | exact .inr (by ac_rfl)) (by rw[vG];kernel_rfl)
theorem ent_sit_next:entryFor table "set_iterator.__next__" = some Builtin.«set_iterator.__next__»:=entryFor_of_tree (by kernel_rfl)
theorem ent_sit_iter:entryFor table "set_iterator.__iter__" = some Builtin.«dict_keyiterator.__iter__» :=
 entryFor_alias (id' := "dict_keyiterator.__iter__") (by kernel_rfl) (by first | rfl | ac_rfl) (by ac_rfl) (by kernel_rfl)
theorem ent_set_iter:entryFor table "set.__iter__" = some Builtin.«frozenset.__iter__» :=
 entryFor_alias (id' := "frozenset.__iter__") (by kernel_rfl) (by first | rfl | ac_rfl) (by ac_rfl) (by kernel_rfl)
theorem arg_sit_next(a:Value):argsOk "set_iterator.__next__" ⟨[a],[]⟩:=by unfold argsOk;kernel_rfl
theorem arg_sit_iter(a:Value):argsOk "set_iterator.__iter__" ⟨[a],[]⟩:=by unfold argsOk;kernel_rfl
def SIt(h:Heap)(it:Addr)(f:Value)(i:Nat)(d:Addr)(n ep:Nat):Prop:=h.get? it=some {cls:=.type "set_iterator",data:=.fields #[f,.int i 0,.ref d,.int n 0,.int ep 0]}
def SAt(h:Heap)(d:Addr)(es:Array (Int×Value))(ep:Nat)(t:SetTable):Prop:=∃o,h.get? d=some o/\o.data=.set es ep t/\t.fits es.size=true
theorem qdM{α:Type}:∀(l:List α) (i:Nat) (h:i<l.length),List.Perm (l[i]::l.eraseIdx i) l
 | x::l,0,h=>vV _
 | x :: l, i + 1, h => by
   have hi:i<l.length:=by simpa using h
   show List.Perm (l[i]::x::l.eraseIdx i) (x::l)
   exact(List.Perm.swap _ _ _).trans (List.Perm.cons _ (qdM l i hi))
theorem qef{α:Type}(next:Nat->Nat):∀(fuel k:Nat) (left:List α) (out:Array α),left.length<=fuel->List.Perm (pickOrder.go next fuel k left out).toList (out.toList++left)
 | 0, k, left, out, h => by
   have:left=[]:=uM.mp (by omega)
   subst this
   simp[pickOrder.go]
 | fuel + 1, k, left, out, h => by
   unfold pickOrder.go
   cases left with
   | nil=>simp
   | cons y ys =>
     have hlt:next k % (y::ys).length<(y::ys).length:=Nat.mod_lt _ (by simp)
     rw[qE hlt]
     dsimp only
     refine(qef next fuel (k+1) _ _ (by rw[List.length_eraseIdx_of_lt hlt];omega)).trans ?_
     rw[Array.toList_push,yA]
     refine List.Perm.append_left _ ?_
     exact qdM _ _ hlt
theorem qej{α:Type}(next:Nat->Nat)(xs:Array α):List.Perm (pickOrder next xs).toList xs.toList:=by
 have:=qef next xs.size 0 xs.toList #[] (by simp)
 simpa[pickOrder]using this
section
variable{prog:Program}{w:World}{A:Around}{E:Value->Shared->Prop}{s:Shared}
theorem choose_any{src:Source}{n:Nat}{Q:Nat->Shared->Prop}(hn:n≠0)(q:∀k d',k<n->Q k {s with drawn:=d'}):wpAny (model prog w) A (choose src n) Q E s:=λΓ p hΓ=>by
 show Sem.wp _ _ (Sem.choose _ _ Sem.pure) _ _ _ _;rw[Sem.wp_choose];exact⟨hn,q _ _ (Nat.mod_lt _ (Nat.pos_of_ne_zero hn))⟩
theorem qfz{α:Type}:∀(n:Nat) (xs:List α) (s:Shared) (Q:List α->Shared->Prop),xs.length<=n->(∀ys d',ys.Perm xs->Q ys {s with drawn:=d'})->wpAny (model prog w) A (drawOrder n xs) Q E s
 | 0, xs, s, Q, h, q => by
   have:xs=[]:=uM.mp (by omega)
   subst this
   exact qQ (q [] s.drawn (vV _))
 | n+1,[],s,Q,h,q=>qQ (q [] s.drawn (vV _))
 | n + 1, x :: xs, s, Q, h, q => by
   unfold drawOrder
   refine qF (choose_any (by simp) λk d' hlt=>?_)
   rw[qE hlt]
   dsimp only
   refine qF (qfz n _ _ _ (by rw[List.length_eraseIdx_of_lt hlt];omega) λys d' pm=>qQ ?_)
   exact q _ _ ((List.Perm.cons _ pm).trans (qdM _ _ hlt))
theorem qeY{it:Addr}{f:Value}{i d n ep:Nat}{Q:Option Value->Shared->Prop}(hit:SIt s.heap it f i d n ep)(h:wpAny (model prog w) A.in1 (Builtin.«set_iterator.__next__» ⟨[.ref it],[]⟩) (λfin s'=>∃v,fin=.done (.ret v)/\Q (some v) s') (λe s'=>wpAny (model prog w) A (isInstance e (.type "StopIteration")) (λb s2=>b=true/\Q none s2) E s') s) :
  wpAny (model prog w) A (pyNext (.ref it)) Q E s:=by
 have hT:s.TypeIs (.ref it) "set_iterator":=⟨_,hit,rfl⟩;unfold pyNext;refine qF (wpAny_attempt (wpAny_callSpecial?_slot (name:=Str.ofString "__next__") hT sit_next (vI sit_next hT ent_sit_next ?_ (arg_sit_next _))));refine xJ h (λfin s' q=>?_) λe s' q=>?_
 ·obtain⟨v,rfl,q⟩:=q;exact⟨v,rfl,qQ q⟩
 ·refine qF (xJ q (λb s2 z=>?_) λ_ _ z=>z);obtain⟨rfl,z⟩:=z;exact qQ z
theorem qe0{Q:Option Value->Shared->Prop}{R:PySem.Fin->Shared->Prop}(hh:A.handled=none)(s':Shared)(hQ:∀h',(∀b o,s'.heap.get? b=some o->h'.get? b=some o)->Q none {s' with heap:=h'}) :
  wpAny (model prog w) A.in1 (newExc (.type "StopIteration") []>>=raiseNew) R (λe s'=>wpAny (model prog w) A (isInstance e (.type "StopIteration")) (λb s2=>b=true/\Q none s2) E s') s':=by
 refine qF ?_;simp only[newExc,newTuple];refine qF (yU ?_ (by size_fits));refine qF (m:=firstArgMember _ _) (wpAny_of_eq (a:=Value.none) (by first | rfl | (simp only[firstArgMember];rfl)) ?_);refine yU ?_ (by size_fits);simp only[raiseNew];refine qF (wpAny_handled ?_);rw[show A.in1.handled=none from hh];refine qF (qQ (wpAny_throw ?_));refine wI (T := "StopIteration") (b:=true) ⟨_,rB _ rfl,rfl⟩ isSubtype_stop ?_;exact⟨rfl,hQ _ λb o e=>qI _ (qI _ e)⟩
theorem qcY{it:Addr}{f:Value}{i d n ep:Nat}{es:Array (Int × Value)}{t:SetTable}{R:PySem.Fin->Shared->Prop}{Ex:Value->Shared->Prop}(hit:SIt s.heap it f i d n ep)(hs:SAt s.heap d es ep t)(hn:es.size=n)(h:wpAny (model prog w) A (match f with
   | .int slot _ => do
     match <- setNext d slot.toNat i ep with
     | some (x, next) => do
       setField (.ref it) 0 (rawInt next)
       setField (.ref it) 1 (rawInt ((i:Int)+1))
       ret x
     | none=>do setField (.ref it) 2 .none; (newExc (.type "StopIteration") [] >>= raiseNew)
   | first => do
     let some places <- seqItems? first | unsupported "internal:set_iterator"
     match places[i]? with
     | some (.int place _) => do
       let x <- setNextDrawn d place.toNat ep
       setField (.ref it) 1 (rawInt ((i:Int)+1))
       ret x
     | some _=>unsupported "internal:set_iterator"
     | none=>do setField (.ref it) 0 (rawInt 0); setField (.ref it) 2 .none; (newExc (.type "StopIteration") [] >>= raiseNew)) R Ex s) :
  wpAny (model prog w) A (Builtin.«set_iterator.__next__» ⟨[.ref it],[]⟩) R Ex s:=by
 obtain ⟨o,ho,hd,hf⟩:=hs
 unfold Builtin.«set_iterator.__next__»
 refine qF (qQ ?_)
 refine qF (wpAny_fieldsOf hit rfl ?_)
 dsimp only
 refine qF (wpAny_setEntries_of ho hd hf ?_)
 rw [hn,if_neg (by simp)]
 cases f with
 | int slot tk=>exact h
 | _=>exact h
end
theorem SIt.turn{h:Heap}{it:Addr}{f:Value}{i d n ep:Nat}(x:SIt h it f i d n ep):SIt (h.update it (Obj.mapFields (·.setIfInBounds 1 (rawInt ((i:Int)+1))))) it f (i+1) d n ep:=by
 unfold SIt;rw[yO _ x rfl];rfl
theorem SIt.slot{h:Heap}{it:Addr}{f:Value}{i d n ep:Nat}(x:SIt h it f i d n ep)(k:Nat):SIt (h.update it (Obj.mapFields (·.setIfInBounds 0 (rawInt k)))) it (.int k 0) i d n ep:=by
 unfold SIt;rw[yO _ x rfl];rfl
theorem SIt.at{h h':Heap}{it:Addr}{f:Value}{i d n ep:Nat}(x:SIt h it f i d n ep)(k:∀o,h.get? it=some o->h'.get? it=some o):SIt h' it f i d n ep:=k _ x
theorem SAt.at{h h':Heap}{d:Addr}{es:Array (Int×Value)}{ep:Nat}{t:SetTable}(x:SAt h d es ep t)(k:∀o,h.get? d=some o->h'.get? d=some o):SAt h' d es ep t:=by
 obtain⟨o,e,r⟩:=x;exact⟨o,k _ e,r⟩
theorem qa6{h:Heap}{it b:Addr}{f:Obj->Obj}{o:Obj}(hb:b≠it)(e:h.get? b=some o):(h.update it f).get? b=some o:=(uO _ _ (Ne.symm hb)).trans e
def TAt(h:Heap)(T:Addr)(pl:List Nat):Prop:=h.get? T=some {cls:=.type "tuple",data:=.seq (pl.map λp:Nat=>rawInt p).toArray}
def Eqg(a b:Array GenState):Prop:=b=a
section
variable{prog:Program}{w:World}{A:Around}
theorem qev{it:Addr}{f:Value}{i d n ep:Nat}{s:Shared}{Q:Value->Shared->Prop}{E:Value->Shared->Prop}(x:SIt s.heap it f i d n ep)(q:Q (.ref it) s):wpAny (model prog w) A (pyIter (.ref it)) Q E s:=by
 have hT:s.TypeIs (.ref it) "set_iterator":=⟨_,x,rfl⟩;refine wpAny_pyIter_slot hT sit_iter (vI sit_iter hT ent_sit_iter ?_ (arg_sit_iter _));show wpAny _ _ (ret (.ref it)) _ _ s;exact qQ ⟨_,rfl, "set_iterator",_,hT,sit_next.lookup,q⟩
theorem qc4{it:Addr}{s:Shared}{h':Heap}(k:∀b o,b≠it->s.heap.get? b=some o->h'.get? b=some o):Moved [it] Eqg s {s with heap:=h'} :=
 ⟨λb o hb e=>k b o (by simpa using hb) e,rfl,rfl,rfl,qG _⟩
theorem walk_drawn(hh:A.handled=none){it d T:Addr}(n1:d≠it)(n2:T≠it){es:Array (Int×Value)}{ep:Nat}{t:SetTable}{pl:List Nat}{ord:List (Int×Value)}(hl:ord.length=es.size)(hp:∀i,i<es.size->∃p e,pl[i]?=some p/\es[p]?=some e/\ord[i]?=some e)(hpl:pl.length=es.size) :
  WalksS prog w A it [it,d,T] [it] Eqg es.size (λi v=>∃e,ord[i]?=some e/\e.2=v) (λi s=>SIt s.heap it (.ref T) i d es.size ep/\SAt s.heap d es ep t/\TAt s.heap T pl) where
 sub:=λb hb=>by simp at hb;simp[hb]
 grefl:=λ_=>rfl
 gtrans:=λ_ _ _ h1 h2=>h2.trans h1
 frame:=λi s h' tk st _ k=>⟨st.1.at λo e=>k it (by simp) o e,st.2.1.at λo e=>k d (by simp) o e,k T (by simp) _ st.2.2⟩
 item:=λi s Q E hi st q=>by
  obtain⟨x1,x2,x3⟩:=st;obtain⟨p,e,e1,e2,e3⟩:=hp i hi;refine qeY x1 (qcY x1 x2 rfl ?_);refine qF (wQ x3 rfl ?_);dsimp only;have ep1:((pl.map λp:Nat=>rawInt p).toArray)[i]?=some (.int p 0):=by simp[e1,rawInt]
  rw[ep1];dsimp only;obtain⟨o,ho,hd,hf⟩:=id x2;refine qF ?_;unfold setNextDrawn;refine qF (xU ho hd hf ?_);dsimp only;rw[if_neg (by simp),rM,e2];refine qQ ?_;refine qF (yT x1 rfl (by simp) ?_);refine qQ ⟨_,rfl,q _ _ ⟨e,e3,rfl⟩ ⟨x1.turn,x2.at λo z=>qa6 n1 z,qa6 n2 x3⟩ (qc4 λb o hb z=>qa6 hb z)⟩
 done:=λs Q E st q=>by
  obtain⟨x1,x2,x3⟩:=st;refine qeY x1 (qcY x1 x2 rfl ?_);refine qF (wQ x3 rfl ?_);dsimp only;have ep1:((pl.map λp:Nat=>rawInt p).toArray)[es.size]?=none:=by simp[hpl]
  rw[ep1];dsimp only;refine qF (yT x1 rfl (by simp) ?_);refine qF (yT (x1.slot 0) rfl (by simp) ?_);refine qe0 hh _ λh' k=>q _ (qc4 λb o hb z=>k b o (qa6 hb (qa6 hb z)))
 self:=λi s Q E st q=>qev st.1 q
theorem walk_text(hh:A.handled=none)(hT:w.params.followText "set-order" = true){it d:Addr}(n1:d≠it){es:Array (Int×Value)}{ep:Nat}{t:SetTable} :
  WalksS prog w A it [it,d] [it] Eqg es.size (λi v=>∃e,(pickOrder (w.params.setOrder d ep) es).toList[i]?=some e/\e.2=v) (λi s=>(∃k:Nat,SIt s.heap it (.int k 0) i d es.size ep)/\SAt s.heap d es ep t) where
 sub:=λb hb=>by simp at hb;simp[hb]
 grefl:=λ_=>rfl
 gtrans:=λ_ _ _ h1 h2=>h2.trans h1
 frame:=λi s h' tk st _ k=>⟨st.1.imp λ_ z=>z.at λo e=>k it (by simp) o e,st.2.at λo e=>k d (by simp) o e⟩
 item:=λi s Q E hi st q=>by
  obtain⟨⟨k,x1⟩,x2⟩:=st;have sz:(pickOrder (w.params.setOrder d ep) es).size=es.size:=by simpa using(qej (w.params.setOrder d ep) es).length_eq
  have hi':i<(pickOrder (w.params.setOrder d ep) es).size:=by rw[sz];exact hi
  refine qeY x1 (qcY x1 x2 rfl ?_);dsimp only;obtain⟨o,ho,hd,hf⟩:=id x2;refine qF ?_;unfold setNext setsByText;refine qF (xU ho hd hf ?_);refine qF (qF (yI (qQ ?_)));show wpAny _ _ (if(w.params.followText "set-order")=true then _ else _) _ _ _;rw[if_pos hT,if_neg (by simp)];refine qF ?_;unfold setWalk setsByText;refine qF (xU ho hd hf ?_);refine qF (qF (yI (qQ ?_)));show wpAny _ _ (if(w.params.followText "set-order")=true then _ else _) _ _ _;rw[if_pos hT];refine qF (yI (qQ ?_));refine qQ ?_;have eg:(pickOrder ((model prog w).w.params.setOrder d ep) es)[i]?=some ((pickOrder (w.params.setOrder d ep) es)[i]):=yN hi';rw[eg];dsimp only[Option.map_some];refine qF (yT x1 rfl (by simp) ?_);refine qF (yT (x1.slot _) rfl (by simp) ?_);refine qQ ⟨_,rfl,q _ _ ⟨_,by rw[uT,yN hi'],rfl⟩ ⟨⟨_,(x1.slot _).turn⟩,x2.at λo z=>qa6 n1 (qa6 n1 z)⟩ (qc4 λb o hb z=>qa6 hb (qa6 hb z))⟩
 done:=λs Q E st q=>by
  obtain⟨⟨k,x1⟩,x2⟩:=st;have sz:(pickOrder (w.params.setOrder d ep) es).size=es.size:=by simpa using(qej (w.params.setOrder d ep) es).length_eq
  refine qeY x1 (qcY x1 x2 rfl ?_);dsimp only;obtain⟨o,ho,hd,hf⟩:=id x2;refine qF ?_;unfold setNext setsByText;refine qF (xU ho hd hf ?_);refine qF (qF (yI (qQ ?_)));show wpAny _ _ (if(w.params.followText "set-order")=true then _ else _) _ _ _;rw[if_pos hT,if_neg (by simp)];refine qF ?_;unfold setWalk setsByText;refine qF (xU ho hd hf ?_);refine qF (qF (yI (qQ ?_)));show wpAny _ _ (if(w.params.followText "set-order")=true then _ else _) _ _ _;rw[if_pos hT];refine qF (yI (qQ ?_));refine qQ ?_;have eg:(pickOrder ((model prog w).w.params.setOrder d ep) es)[es.size]?=none:=vD (by show(pickOrder (w.params.setOrder d ep) es).size<=es.size;omega);rw[eg];dsimp only[Option.map_none];refine qF (yT x1 rfl (by simp) ?_);refine qe0 hh _ λh' k=>q _ (qc4 λb o hb z=>k b o (qa6 hb z))
 self:=λi s Q E st q=>by
  obtain⟨k,x1⟩:=st.1;exact qev x1 q
end
theorem qfE{xs:Array Nat}{j:Nat}(h:xs.size=1):SetTable.below xs j=if xs.getD 0 j<j then 1 else 0:=by
 unfold SetTable.below;rw[h];show(if 0<1 then if xs.getD ((0+1) / 2) j<j then SetTable.below.go xs j 0 ((0+1) / 2+1) 1 else SetTable.below.go xs j 0 0 ((0+1) / 2)else 0)=_;rw[if_pos (by decide)];rfl
section
variable{prog:Program}{w:World}{A:Around}{E:Value->Shared->Prop}{s:Shared}
theorem qeM(hT:w.params.followText "set-order" = false){d:Addr}{es:Array (Int×Value)}{ep k i:Nat}{t:SetTable}(x:SAt s.heap d es ep t)(h1:es.size<=1)(hL:t.led=true){Q:Option (Value×Nat)->Shared->Prop}(q:Q (match es[SetTable.below t.place k]?,t.place[SetTable.below t.place k]? with | some (_,x),some j=>some (x,j+1) | _,_=>none) s):wpAny (model prog w) A (setNext d k i ep) Q E s:=by
 obtain⟨o,ho,hd,hf⟩:=x;unfold setNext setsByText;refine qF (xU ho hd hf ?_);refine qF (qF (yI (qQ ?_)));show wpAny _ _ (if(w.params.followText "set-order")=true then _ else _) _ _ _;rw[hT,if_neg qL];have e1:(!t.plain && decide (es.size>1))=false:=by rw[qC (by omega),vE]
 show wpAny _ _ (if(!t.plain && decide (es.size>1))=true then _ else _) _ _ _;rw[e1,if_neg qL];refine qF ?_;show wpAny _ _ (if(!t.led && !es.isEmpty)=true then _ else _) _ _ _;rw[hL,if_neg (by simp)];exact qQ (qQ q)
theorem walk_small(hh:A.handled=none)(hT:w.params.followText "set-order" = false){it d:Addr}(n1:d≠it){es:Array (Int×Value)}{ep:Nat}{t:SetTable}(h1:es.size<=1)(hL:t.led=true) :
  WalksS prog w A it [it,d] [it] Eqg es.size (λi v=>∃e,es.toList[i]?=some e/\e.2=v)
   (λi s=>((i=0/\SIt s.heap it (.int ((0:Nat):Int) 0) 0 d es.size ep)\/(i=1/\∃j:Nat,t.place[0]?=some j/\SIt s.heap it (.int ((j+1:Nat):Int) 0) 1 d es.size ep))/\SAt s.heap d es ep t) where
 sub:=λb hb=>by simp at hb;simp[hb]
 grefl:=λ_=>rfl
 gtrans:=λ_ _ _ h1 h2=>h2.trans h1
 frame:=λi s h' tk st _ k=>by
  refine⟨?_,st.2.at λo e=>k d (by simp) o e⟩;rcases st.1 with⟨z,x⟩ | ⟨z,j,zj,x⟩
  ·exact .inl ⟨z,x.at λo e=>k it (by simp) o e⟩
  ·exact .inr ⟨z,j,zj,x.at λo e=>k it (by simp) o e⟩
 item:=λi s Q E hi st q=>by
  obtain⟨st,x2⟩:=st;have sz:es.size=1:=by omega
  rcases st with⟨rfl,x1⟩ | ⟨rfl,_⟩
  case inr=>omega
  obtain⟨o,ho,hd,hf⟩:=id x2;have ps:t.place.size=1:=by
   have:=hf;simp only[SetTable.fits,Bool.and_eq_true,beq_iff_eq]at this;omega
  have b0:SetTable.below t.place 0=0:=by rw[qfE ps,if_neg (xM _)]
  obtain⟨e,ee⟩:∃e,es[0]?=some e:=⟨es[0],by simp[sz]⟩;obtain⟨j,ej⟩:∃j,t.place[0]?=some j:=⟨t.place[0],by simp[ps]⟩;refine qeY x1 (qcY x1 x2 rfl ?_);dsimp only;refine qF (qeM hT x2 h1 hL ?_);rw[rM,b0,ee,ej];dsimp only;refine qF (yT x1 rfl (by simp) ?_);refine qF (yT (x1.slot _) rfl (by simp) ?_);refine qQ ⟨_,rfl,q _ _ ⟨e,by rw[uT,ee],rfl⟩ ⟨.inr ⟨rfl,j,ej,(x1.slot _).turn⟩,x2.at λo z=>qa6 n1 (qa6 n1 z)⟩ (qc4 λb o hb z=>qa6 hb (qa6 hb z))⟩
 done:=λs Q E st q=>by
  obtain⟨st,x2⟩:=st;obtain⟨o,ho,hd,hf⟩:=id x2;have ps:t.place.size=es.size:=by
   have:=hf;simp only[SetTable.fits,Bool.and_eq_true,beq_iff_eq]at this;omega
  have fin:∀(k:Nat),SIt s.heap it (.int (k:Int) 0) es.size d es.size ep->es[SetTable.below t.place k]?=none->wpAny (model prog w) A (pyNext (.ref it)) Q E s:=λk x1 en=>by
   refine qeY x1 (qcY x1 x2 rfl ?_);dsimp only;refine qF (qeM hT x2 h1 hL ?_);rw[rM,en];dsimp only;refine qF (yT x1 rfl (by simp) ?_);refine qe0 hh _ λh' k=>q _ (qc4 λb o hb z=>k b o (qa6 hb z))
  rcases st with⟨z,x1⟩ | ⟨z,j,ej,x1⟩
  ·have x1':SIt s.heap it (.int ((0:Nat):Int) 0) es.size d es.size ep:=by rw[z]at x1⊢;exact x1
   refine fin 0 x1' ?_;rw[vD (by omega)]
  ·have x1':SIt s.heap it (.int ((j+1:Nat):Int) 0) es.size d es.size ep:=by rw[z]at x1⊢;exact x1
   refine fin (j+1) x1' ?_;have lt:t.place.getD 0 (j+1)<j+1:=by
    rw[Array.getD_eq_getD_getElem?,ej];exact xS _
   rw[qfE (by omega),if_pos lt,vD (by omega)]
 self:=λi s Q E st q=>by
  rcases st.1 with⟨_,x⟩ | ⟨_,_,_,x⟩<;>exact qev x q
theorem iter_set{d:Addr}{es:Array (Int×Value)}{ep:Nat}{t:SetTable}{o:Obj}(hh:A.handled=none)(ho:s.heap.get? d=some o)(hex:o.ExactSet)(hd:o.data=.set es ep t)(hf:t.fits es.size=true)(hb:es.size<=sizeLine)(hp:t.plain=false\/es.size=0)(hL:t.led=!(w.params.followText "set-order")){Q:Value->Shared->Prop}(q:∀(it:Addr) (fp:List Addr) (h':Heap) (d':Drawn) (ord:List (Int×Value)) (St:Nat->Shared->Prop),s.heap.objs.size<=it->it<h'.objs.size->(∀b o,s.heap.get? b=some o->h'.get? b=some o)->(∀b∈fp,b=d\/(s.heap.objs.size<=b/\b<h'.objs.size))->ord.Perm es.toList ->
   (∀A':Around,A'.handled=none->WalksS prog w A' it fp [it] Eqg es.size (λi v=>∃e,ord[i]?=some e/\e.2=v) St)->St 0 {s with heap:=h',drawn:=d'}->Q (.ref it) {s with heap:=h',drawn:=d'}) :
  wpAny (model prog w) A (pyIter (.ref d)) Q E s:=by
 have hT:s.TypeIs (.ref d) "set":=⟨o,ho,hex.1⟩;have dlt:=qU ho;have xd:SAt s.heap d es ep t:=⟨o,ho,hd,hf⟩;refine wpAny_pyIter_slot hT F.slot_set_iter (vI F.slot_set_iter hT ent_set_iter ?_ (F.args_set_iter_1 _));unfold Builtin.«frozenset.__iter__»;refine qF (qQ ?_);unfold Builtin.Frozenset.sizeOf setDrawn setsByText setEpoch;refine qF (qF (wpAny_setEntries_of ho hd hf (qQ ?_)));refine qF (qF (xU ho hd hf (qF (qF (yI (qQ (qQ ?_)))))));show wpAny _ _ (if(!(w.params.followText "set-order") && (!t.plain && decide (es.size>1)))=true then _ else _) _ _ _;have push_lt:∀{h:Heap} {o1:Obj},h.objs.size<(h.push o1).objs.size:=λ{h o1}=>by rw[r9];exact xS _
 by_cases dr:(!(w.params.followText "set-order") && (!t.plain && decide (es.size>1)))=true
 ·rw[if_pos dr];refine qF (qfz _ _ _ _ (by simp) λpl d' pm=>?_);have pll:pl.length=es.size:=by simpa using pm.length_eq
  refine qF (yU ?_ ?zz)
  case zz=>show(List.map _ pl).toArray.size<=sizeLine;rw[rK,qA];omega
  refine qF (qF (xU (s:={s with heap:=_,drawn:=d'}) (qI _ ho) hd hf (qQ ?_)));refine qF (yU (qQ ⟨_,rfl, "set_iterator",_,⟨_,rB _ rfl,rfl⟩,sit_next.lookup,?_⟩));have inb:∀p∈pl,p<es.size:=λp hp=>by simpa using pm.mem_iff.mp hp
  have e0:(pl.map λp=>es.toList.getD p (0,.none)).Perm es.toList:=by
   refine(pm.map _).trans (List.Perm.of_eq ?_);apply yK;intro i;rw[qP]
   by_cases hi:i<es.size
   ·rw[uJ hi];simp[hi]
   ·rw[rS (by simpa using hi),rS (by simpa using hi)];rfl
  rw[r9];refine q (s.heap.objs.size+1) [s.heap.objs.size+1,d,s.heap.objs.size] _ d' (pl.map λp=>es.toList.getD p (0,.none)) (λi s1=>SIt s1.heap (s.heap.objs.size+1) (.ref s.heap.objs.size) i d es.size ep/\SAt s1.heap d es ep t/\TAt s1.heap s.heap.objs.size pl) (uE _) ?_ (λb o e=>qI _ (qI _ e)) (λb hb=>?_) e0 (λA' hA=>?_) ⟨?_,(xd.at λo e=>qI _ (qI _ e)),qI _ (rB _ rfl)⟩
  ·rw[r9,r9];exact xS _
  ·rcases qO.mp hb with rfl | hb
   ·exact .inr ⟨uE _,by rw[r9,r9];exact xS _⟩
   ·rcases qO.mp hb with rfl | hb
    ·exact .inl rfl
    ·have:b=s.heap.objs.size:=by simpa using hb
     subst this;exact .inr ⟨qG _,by rw[r9,r9];exact uW (xS _)⟩
  ·refine walk_drawn hA (rP (uW dlt)) (rP (xS _)) (by rw[qA,pll]) (λi hi=>?_) pll;have hi':i<pl.length:=by omega
   have hp:=inb pl[i] (yZ hi');exact⟨pl[i],es[pl[i]],by simp[hi'],by simp[hp],by simp[hi',hp]⟩
  ·have ez:s.heap.objs.size+1=(s.heap.push {cls:=.type "tuple",data:=.seq (pl.map λi:Nat=>rawInt i).toArray}).objs.size:=by rw[r9]
   unfold SIt;rw[ez];exact rB _ rfl
 ·rw[if_neg dr];refine qF (qQ ?_);refine qF (qF (xU ho hd hf (qQ ?_)));refine qF (yU (qQ ⟨_,rfl, "set_iterator",_,⟨_,rB _ rfl,rfl⟩,sit_next.lookup,?_⟩));have hfp:∀{h':Heap},h'.objs.size=s.heap.objs.size+1->∀b∈[s.heap.objs.size,d],b=d\/(s.heap.objs.size<=b/\b<h'.objs.size):=λ{h'} hz b hb=>by
   rcases qO.mp hb with rfl | hb
   ·exact .inr ⟨qG _,by rw[hz];exact xS _⟩
   ·exact .inl (by simpa using hb)
  cases hTx:w.params.followText "set-order" with
  | true =>
    refine q _ [s.heap.objs.size,d] _ s.drawn (pickOrder (w.params.setOrder d ep) es).toList (λi s1=>(∃k:Nat,SIt s1.heap s.heap.objs.size (.int k 0) i d es.size ep)/\SAt s1.heap d es ep t) (qG _) push_lt (λb o e=>qI _ e) (hfp (by rw[r9])) (qej _ _) (λA' hA=>walk_text hA hTx (rP dlt)) ⟨⟨0,rB _ rfl⟩,xd.at λo e=>qI _ e⟩
  | false =>
    have h1:es.size<=1:=by
      rw[hTx]at dr
      rcases hp with hp | hp
      · rw[hp]at dr
        simp at dr
        omega
      · omega
    refine q _ [s.heap.objs.size,d] _ s.drawn es.toList _ (qG _) push_lt (λb o e=>qI _ e) (hfp (by rw[r9])) (vV _) (λA' hA=>walk_small hA hTx (t:=t) (ep:=ep) (rP dlt) h1 (by rw[hL,hTx];rfl)) ⟨.inl ⟨rfl,rB _ rfl⟩,xd.at λo e=>qI _ e⟩
end
end L2
namespace L2
open PySem PyProof.Rows
section
variable{prog:Program}{w:World}{A:Around}{E:Value->Shared->Prop}{s:Shared}
theorem hint_set{r:Addr}{Q:Bool->Shared->Prop}(hT:s.TypeIs (.ref r) "set")(h:Q false s):wpAny (model prog w) A (Builtin.List.listLengthHint (.ref r)) Q E s:=by
 unfold Builtin.List.listLengthHint;refine qF (vO hT PySem.F.slot_set_len.lookup ?_);generalize eid:("set.__len__" : String)=nm
 wp_delta
 rw[show splitId nm=some ("set", "__len__")from by subst eid;ac_rfl];subst eid;refine qF (wI (T := "set") (b:=true) hT (by rw[vG];kernel_rfl) ?_);refine uA (λz=>absurd z (by decide)) (λ_=>?_);refine uA (λ_=>?_) (λz=>absurd (by ac_rfl) z);exact qF (wpAny_typeOf hT (qQ h))
theorem set_collect{d:Addr}{es:Array (Int×Value)}{ep:Nat}{t:SetTable}{o:Obj}(hh:A.handled=none)(ho:s.heap.get? d=some o)(hex:o.ExactSet)(hd:o.data=.set es ep t)(hf:t.fits es.size=true)(hb:es.size<=sizeLine)(hp:t.plain=false\/es.size=0)(hL:t.led=!(w.params.followText "set-order")){R:List Value->Shared->Prop}(fin:∀(h':Heap) (tk:Nat) (d':Drawn) (ord:List (Int×Value)),(∀b o,s.heap.get? b=some o->h'.get? b=some o)->ord.Perm es.toList->R (ord.map (·.2)) {s with heap:=h',toks:=tk,drawn:=d'}) :
  wpAny (model prog w) A (collect (.ref d)) R E s:=by
 have dlt:=qU ho;unfold collect;refine qF (wpAny_runValue (uS entry_proto_collect' ?_));rw[uC PySem.F.plain_proto_collect _];show wpAny _ A.in1 (newList []>>=λl=>again (.builtin "list.__iadd__" ⟨[l,.ref d],[]⟩)) _ _ s;refine qF (yU ?_);refine qQ ⟨vC PySem.F.plain_list_iadd _,uS entry_list_iadd' ?_⟩;rw[uC PySem.F.plain_list_iadd _];show wpAny _ A.in1 (Builtin.List.listExtendWith (.ref s.heap.objs.size) (.ref d) (.ref s.heap.objs.size)) _ _ {s with heap:=s.heap.push {cls:=.type "list",data:=.seq ([]:List Value).toArray}};have g0:(s.heap.push {cls:=.type "list",data:=.seq ([]:List Value).toArray}).get? s.heap.objs.size=some {cls:=.type "list",data:=.seq #[]}:=rB _ rfl;have hd1:(s.heap.push {cls:=.type "list",data:=.seq ([]:List Value).toArray}).get? d=some o:=qI _ ho;have nSd:s.heap.objs.size≠d:=uG dlt;unfold Builtin.List.listExtendWith;have hT:Shared.TypeIs {s with heap:=s.heap.push {cls:=.type "list",data:=.seq ([]:List Value).toArray}} (.ref d) "set":=⟨o,hd1,hex.1⟩;refine qF (wpAny_typeOf hT ?_);have e1:Builtin.List.listSameRef (.ref s.heap.objs.size) (.ref d)=false:=by simp[Builtin.List.listSameRef,nSd]
 have e2:(Value.type "set" == Value.type "list")=false:=by decide
 have e3:(Value.type "set" == Value.type "tuple")=false:=by decide
 simp only[e1,e2,e3,Bool.or_false,Bool.false_eq_true,if_false];refine qF (iter_set (A:=A.in1) hh hd1 hex hd hf hb hp hL λit fp h2 d2 ord St l1 l2 k2 hfp pm W st=>?_);have g2:=k2 _ _ g0;have nSf:s.heap.objs.size∉fp:=λz=>by
  rcases hfp _ z with e | ⟨e,_⟩
  ·exact nSd e
  ·rw[r9]at e;exact absurd e (Nat.not_succ_le_self _)
 have loop:∀(h3:Heap) (c:Nat),St 0 {s with heap:=h3,drawn:=d2}->(∀b o,s.heap.get? b=some o->h3.get? b=some o)->h3.get? s.heap.objs.size=some {cls:=.type "list",data:=.seq #[] c} ->
   codeAny (model prog w) A (.builtin "list.extend.loop" ⟨[.ref s.heap.objs.size,.ref it,.ref s.heap.objs.size],[]⟩) (λr s'=>∃acc h' tk,r=.ok (.ret (.ref s.heap.objs.size))/\s'={s with heap:=h',toks:=tk,drawn:=d2} /\
    (∀b o,s.heap.get? b=some o->h'.get? b=some o)/\(∃c',h'.get? s.heap.objs.size=some {cls:=.type "list",dict:=none,data:=.seq acc c',slots:=#[]})/\acc.toList=ord.map (·.2)) {s with heap:=h3,drawn:=d2}:=by
  intro h3 c st3 k3 g3;refine codeAny_extend_loopS (W A.in1 hh) hb s.heap.objs.size nSf _ es.size 0 _ #[] c rfl (r8 _) st3 g3 (ItemsOf.nil _) λs' acc c' mv g4 items=>?_
  obtain⟨h',g',dd,tk',os'⟩:=s';obtain rfl:g'=s.gens:=mv.gens;obtain rfl:dd=d2:=mv.drawn;obtain rfl:os'=s.os:=mv.os;refine⟨acc,h',tk',rfl,rfl,λb o e=>mv.heap b o (λz=>?_) (k3 b o e),⟨c',g4⟩,?_⟩
  ·have lb:=qU e;rcases qO.mp z with z | z
   ·exact absurd lb (by rw[z];exact rX _)
   ·have z':b=it:=by simpa using z
    rw[r9]at l1;exact absurd lb (by rw[z'];exact Nat.not_lt_of_le (Nat.le_of_succ_le l1))
  ·have lo:ord.length=es.size:=by simpa using pm.length_eq
   apply yK;intro j;rw[qP]
   by_cases hj:j<acc.size
   ·obtain⟨e,z1,z2⟩:=items.2 j acc[j] (by simp[hj]);rw[z1,uT,yN hj,<-z2];rfl
   ·have ha:acc.size=es.size:=items.1;rw[rS (by simpa using u8 hj),rS (by omega)];rfl
 refine qF (yX (hint_set ⟨o,k2 _ _ hd1,hex.1⟩ ?_));refine uA (λ_=>?_) (λ_=>?_)
 ·refine qF (wpAny_rule (qF ?_));show wpAny _ _ (updateSeq s.heap.objs.size (·.push .none)>>=λ_=>updateSeq s.heap.objs.size (·.pop)) _ _ _;refine qF (wP g2 rfl ?_);have g3:=yO (Obj.mapSeq (·.push Value.none)) g2 rfl;refine wP (hz:=by seq_fits) g3 rfl ?_;have g4:=yO (Obj.mapSeq (·.pop)) g3 rfl;refine qQ ⟨vC PySem.F.plain_extend_loop _,vA (loop _ _ ?_ (λb o e=>qa6 ?_ (qa6 ?_ (k2 _ _ (qI _ e)))) g4) λr s' x=>?_⟩
  ·exact(W A.in1 hh).frame 0 _ _ _ st (qG _) λb hb o e=>by
    have nb:b≠s.heap.objs.size:=λz=>nSf (z ▸ hb)
    exact qa6 nb (qa6 nb e)
  ·exact rP (qU e)
  ·exact rP (qU e)
  ·obtain⟨acc,h',tk,rfl,rfl,k,⟨c',g⟩,ea⟩:=x;show wpAny _ A (load s.heap.objs.size>>=_) _ _ _;refine qF (wpAny_load g ?_);show wpAny _ _ (pure acc.toList) _ _ _;rw[ea];exact qQ (fin h' tk d2 ord k pm)
 ·refine qQ ⟨vC PySem.F.plain_extend_loop _,vA (loop _ _ st (λb o e=>k2 _ _ (qI _ e)) g2) λr s' x=>?_⟩;obtain⟨acc,h',tk,rfl,rfl,k,⟨c',g⟩,ea⟩:=x;show wpAny _ A (load s.heap.objs.size>>=_) _ _ _;refine qF (wpAny_load g ?_);show wpAny _ _ (pure acc.toList) _ _ _;rw[ea];exact qQ (fin h' tk d2 ord k pm)
theorem sorted_set{d:Addr}{es:Array (Int×Value)}{ep:Nat}{t:SetTable}{o:Obj}(hh:A.handled=none)(ho:s.heap.get? d=some o)(hex:o.ExactSet)(hd:o.data=.set es ep t)(hf:t.fits es.size=true)(hb:es.size<64)(hp:t.plain=false\/es.size=0)(hL:t.led=!(w.params.followText "set-order")){ks:List Str}(hS:StrsAre (es.toList.map (·.2)) ks){Q:Value->Shared->Prop}(fin:∀(D:Addr) (h':Heap) (tk:Nat) (d':Drawn) (out:List Value) (ss:List Str) (c:Nat),s.heap.get? D=none->(∀b o,s.heap.get? b=some o->h'.get? b=some o)->h'.get? D=some {cls:=.type "list",data:=.seq out.toArray c}->StrsAre out ss->ss.Perm ks->sortedS ss=true->Q (.ref D) {s with heap:=h',toks:=tk,drawn:=d'}) :
  wpAny (model prog w) A (call (.builtin "sorted") [.ref d]) Q E s:=by
 have hb':es.size<=sizeLine:=by rw[sizeLine_eq];omega
 refine Calls.call_function_entry kind_sorted plain_sorted entry_sorted (args_sorted1 _) ?_;unfold Builtin.«sorted»;refine qF (m:=checkCount "sorted" 1 1 _) (qQ ?_);refine qF (set_collect (A:=A.in1) hh ho hex hd hf hb' hp hL λh1 tk d1 ord k1 pm=>?_);have ln:(ord.map (·.2)).length=es.size:=by rw[qA];simpa using pm.length_eq
 refine qF (wpAny_newList ?_ (by rw[ln];exact hb'));have gD:(h1.push {cls:=.type "list",data:=.seq (ord.map (·.2)).toArray}).get? h1.objs.size=some (seqObj "list" (ord.map (·.2)).toArray 0):=rB _ rfl;obtain⟨ks',sk,pk⟩:∃ks',StrsAre (ord.map (·.2)) ks'/\ks'.Perm ks:=by
  refine⟨(ord.map (·.2)).map strOf,strsAre_map _ λv hv=>?_,?_⟩
  ·obtain⟨e,he,rfl⟩:=qV.mp hv;exact hS.all _ (qV.mpr ⟨e,pm.mem_iff.mp he,rfl⟩)
  ·rw[<-hS.strs];exact(pm.map _).map _
 refine qF (yX (vI slot_list_sort ⟨_,gD,rfl⟩ entry_list_sort (list_sort_treeK strKind_oneLt gD sk.keysOf (λv1 v2 rest e=>keyKind_strs (by rw[<-e];exact sk)) (by rw[ln];exact hb) λst' a1 a2=>⟨_,rfl,?_⟩) (args_list_sort _)));obtain⟨ss,h3,h4,h5⟩:=sorted_out_str sk a1 a2;refine qQ ⟨_,rfl,?_⟩;obtain⟨c,gc⟩:∃c,(sortedHeap (h1.push {cls:=.type "list",data:=.seq (ord.map (·.2)).toArray}) h1.objs.size (ord.map (·.2)) ((arrOf st').map (·.2))).get? h1.objs.size=some (seqObj "list" ((arrOf st').map (·.2)) c):=by
  have:=sortedHeap_at (out:=(arrOf st').map (·.2)) gD;exact this
 have lS:s.heap.get? h1.objs.size=none:=by
  cases z:s.heap.get? h1.objs.size with
  | none=>rfl
  | some o=>exact absurd (qU (k1 _ _ z)) (rX _)
 refine fin h1.objs.size _ tk d1 ((arrOf st').map (·.2)).toList ss c lS (λb o e=>?_) ?_ h3 (h4.trans pk) h5
 ·have lb:=qU (k1 b o e);rw[sortedHeap_old (rP lb) (by rw[r9];exact uW lb)];exact qI _ (k1 b o e)
 ·rw[gc]
end
end L2
namespace L2
open PySem PySem.Spec PyProof.Rows
theorem Inv.dr{X:Cx}{pins:List (Addr×Obj)}{σ:St}{H:Hp}{s:Shared}(I:Inv X pins σ H s)(d':Drawn):Inv X pins σ H {s with drawn:=d'}:=⟨I.ok,I.os,I.bare,I.base,I.loc,I.cell,I.free,I.freeC,I.pin,I.hok,I.len⟩
theorem dec_mem{κ:Type}[DecidableEq κ]{k:κ}{l:List κ}:decide (k∈l)=true↔k∈l:=qY
def once(ks:List Str):List Str:=ks.foldl one1 []
theorem one1_nd{κ:Type}[DecidableEq κ]{l:List κ}{v:κ}(h:l.Nodup):(one1 l v).Nodup:=by
 unfold one1
 split
 ·exact h
 ·rename_i n;rw[uV];refine⟨h,by simp,λa ha b hb=>?_⟩;have:b=v:=by simpa using hb
  subst this;exact λz=>n (z ▸ ha)
theorem qgX{κ:Type}[DecidableEq κ]:∀(ks l:List κ),l.Nodup->(ks.foldl one1 l).Nodup
 | [],l,h=>h
 | k::ks,l,h=>qgX ks (one1 l k) (one1_nd h)
theorem qf5{κ:Type}[DecidableEq κ](x:κ):∀(ks l:List κ),x∈ks.foldl one1 l↔x∈l\/x∈ks
 | [],l=>by simp
 | k :: ks, l => by
   rw[xY,qf5 x ks]
   have:x∈one1 l k↔x∈l\/x=k:=by
     have:=qho l k x
     rw[xD]at this
     simpa using this
   rw[this,qO,or_assoc]
theorem qfi(ks:List Str):(once ks).Nodup:=qgX ks [] List.nodup_nil
theorem qgy(ks:List Str)(x:Str):x∈once ks↔x∈ks:=by unfold once;rw[qf5];simp
theorem qfY{κ ρ:Type}[DecidableEq κ][DecidableEq ρ](f:κ->ρ)(inj:∀a b,f a=f b->a=b):∀(ks l:List κ),(ks.map f).foldl one1 (l.map f)=(ks.foldl one1 l).map f
 | [],l=>rfl
 | k :: ks, l => by
   rw[rH,xY,xY,<-qfY f inj ks (one1 l k)]
   congr 1
   unfold one1
   by_cases z:k∈l
   · rw[if_pos z,if_pos (yV z)]
   · rw[if_neg z,if_neg (λq=>by
       obtain⟨a,ha,e⟩:=qV.mp q
       exact z (inj _ _ e ▸ ha))]
     simp
theorem qeu{κ:Type}[DecidableEq κ]:∀(m l:List κ),m.Nodup->(∀x∈m,x∈l)->l.length=m.length->l.Perm m
 | [], l, _, _, h => by
   have:l=[]:=uM.mp h
   rw[this]
 | x :: m, l, nd, sub, h => by
   have hx:=sub x qJ
   obtain⟨nx,nm⟩:=uR.mp nd
   have p:=List.perm_cons_erase hx
   refine p.trans (List.Perm.cons _ (qeu m (l.erase x) nm (λy hy=>?_) ?_))
   · exact(List.mem_erase_of_ne (λz:y=x=>nx (z ▸ hy))).mpr (sub y (qN _ hy))
   · rw[List.length_erase_of_mem hx,h]
     rfl
def setS(w:World)(d:Addr)(ks:List Str):HO:=.ext λh=>∃o es ep t,h.get? d=some o/\o.ExactSet/\o.data=.set es ep t/\t.fits es.size=true/\(t.plain=false\/es.size=0)/\t.led=!(w.params.followText "set-order") /\
 es.size<scanBound/\∃us,StrsAre (es.toList.map (·.2)) us/\us.Perm ks
section
variable{X:Cx}
theorem qeo(hc:X.calm=true):qc8 X (.type "set") (λxs H Q=>∃(p:Addr) (ks:List Str),xs=[.ref p]/\SqL X.K H p (ks.map V.str)/\ks.length+1<scanBound/\∀d,H d=none->Q (.ref d) (upd H d (setS X.w d (once ks)))):=by
 intro pins s σ H xs us Q I r h;obtain⟨p,ks,rfl,hp,hb,q⟩:=h;obtain⟨u,rfl,rx⟩:=qd2 r;cases rx;obtain⟨its,rv,pl,hz⟩:=I.list hp;have hlen:its.toArray.size=ks.length:=by rw[rK,<-rv.length,qA]
 refine set_fromS (knd:=qbg X.prog X.w) (val:=λi=>Sum.inr (ks.getD i Str.empty)) (I.ok.hd hc) pl.isList (λi v e=>?_) (by rw[hlen];exact hb) λh' tk x np kp=>?_
 ·have e':its[i]?=some v:=by simpa using e
  have hi:i<ks.length:=by rw[<-hlen,rK];exact(qD.mp e').1
  obtain⟨u,e2,r2⟩:=rv.get (i:=i) (x:=.str ks[i]) (by rw[qP,qE hi];rfl);rw[e']at e2;cases e2;obtain⟨t,rfl⟩:=r2;have eg:ks.getD i Str.empty=ks[i]:=by simp[hi]
  exact⟨_,t,rfl,by rw[eg];exact qaU _ _ _ _⟩
 ·have em:met (λi=>(Sum.inr (ks.getD i Str.empty):Key)) its.toArray.size=(once ks).map (Sum.inr:Str->Key):=by
   unfold met once;rw[hlen,<-qfY (Sum.inr:Str->Key) (λa b e=>Sum.inr.inj e) ks []]
   congr 1
   apply yK;intro i;rw[qP,qP]
   by_cases h:i<ks.length
   ·rw[uJ h,qE h];simp[h]
   ·rw[rS (by simpa using u8 h),rS (u8 h)];rfl
  rw[em]at x;have keep:∀b o,s.heap.get? b=some o->h'.get? b=some o:=λb o e=>kp b o (qU e) e
  have hn:H s.heap.objs.size=none:=I.hok.fresh (qG _);refine⟨.ref s.heap.objs.size,_,I.laid (o:=setS X.w s.heap.objs.size (once ks)) keep (qG _) ?_,rfl,q _ hn⟩;obtain⟨o,es,ep,t,ho,hex,hd,hel,hmem,hsb,hf,hsz⟩:=x;obtain⟨o',es',ep',t',e1,e2,e3,e4⟩:=np;rw[ho]at e1;cases e1;rw[hd]at e2;cases e2;have all:∀e∈es.toList,∃y tk,e.2=.str y tk/\y∈once ks:=λe he=>by
   obtain⟨⟨k,hk,_⟩,_⟩:=hel e he;have t0:=(hmem k).mpr ⟨e,he,hk⟩;have this:k∈(once ks).map (Sum.inr:Str->Key):=dec_mem.mp t0;obtain⟨y,hy,rfl⟩:=qV.mp this;rcases keyIs_shape (show keyIs (Sum.inr y) e.2=true from hk)with⟨i,t,z,_⟩ | ⟨z,t,zz,ez⟩
   ·cases z
   ·cases zz;exact⟨y,t,ez,hy⟩
  have stt:StrsAre (es.toList.map (·.2)) ((es.toList.map (·.2)).map strOf):=strsAre_map _ λv hv=>by
   obtain⟨e,he,rfl⟩:=qV.mp hv;obtain⟨y,tk,e1,_⟩:=all e he;exact⟨y,tk,e1⟩
  refine⟨⟨o,es,ep,t,ho,hex,hd,hf,e3,e4,hsb,_,stt,?_⟩,⟨o,ho⟩,λg1 g2 y k=>?_⟩
  ·refine qeu _ _ (qfi ks) (λy hy=>?_) ?_
   ·obtain⟨e,he,hk⟩:=(hmem (Sum.inr y)).mp (dec_mem.mpr (yV hy));rcases keyIs_shape (show keyIs (Sum.inr y) e.2=true from hk)with⟨i,t,z,_⟩ | ⟨z,t,zz,ez⟩
    ·cases z
    ·cases zz;rw[xF];exact qV.mpr ⟨e,he,by show strOf e.2=y;rw[ez];rfl⟩
   ·rw[qA,qA,xC,hsz,qA]
  ·obtain⟨o1,es1,ep1,t1,z1,z2⟩:=y;exact⟨o1,es1,ep1,t1,k _ z1,z2⟩
def Rise(ss:List Str):Prop:=ss.Pairwise λa b=>a.cps.toList<b.cps.toList
theorem qdW(hc:X.calm=true)(hex:X.ex=[]):qc8 X (.builtin "sorted") (λxs H Q=>∃(d:Addr) (ks:List Str),xs=[.ref d]/\H d=some (setS X.w d ks)/\ks.length<64/\∀D ss,H D=none->ss.Perm ks->sortedS ss=true->Q (.ref D) (upd H D (.lst (ss.map V.str)))):=by
 intro pins s σ H xs us Q I r h;obtain⟨d,ks,rfl,hd,h64,q⟩:=h;obtain⟨u,rfl,rx⟩:=qd2 r;cases rx;obtain⟨⟨o,es,ep,t,ho,hexs,hdt,hf,hp,hL,hb,ks',st,pm⟩,_⟩:=I.hok d _ hd;have ls:es.size=ks.length:=by
  have h1:=st.length;rw[qA,xC]at h1;rw[h1,pm.length_eq]
 refine sorted_set (I.ok.hd hc) ho hexs hdt hf (by omega) hp hL st λD h' tk d' out ss c hD kp hg hs ps so=>?_
 have HD:H D=none:=by
  cases z:H D with
  | none=>rfl
  | some v =>
    obtain⟨o,e⟩:=(I.hok D v z).at
    rw[hD]at e
    cases e
 have pk:=ps.trans pm;have I2:=(I.kept (t':=tk) kp).dr d';have DL:D≠X.env.locals:=λz=>by
  have:=qU (Classical.choose_spec (let⟨m,⟨o,_,_,e,_⟩,_⟩:=I.loc;⟨o,e⟩:∃o,s.heap.get? X.env.locals=some o));obtain⟨m,⟨o,_,_,e,_⟩,_⟩:=I.loc;rw[z,e]at hD;cases hD
 refine⟨.ref D,_,I2.track (o:=.lst (ss.map V.str)) ?_ HD DL (λz c e w'=>?_) (λz hz w'=>?_) ?_,rfl,q D ss HD pk so⟩
 ·cases z:X.s₀.heap.get? D with
  | none=>rfl
  | some o =>
    obtain⟨o',e⟩:=I.base.there D o z (by rw[hex];simp)
    rw[hD]at e
    cases e
 ·obtain⟨v,o,e1,_⟩:=I.cell z c e;rw[w',hD]at e1;cases e1
 ·have e:=(I.pin z hz).1;rw[w',hD]at e;cases e
 ·have vs:∀{out:List Value} {ss:List Str},StrsAre out ss->Vals (ss.map V.str) out:=λ{out ss} h=>by
   induction h with
   | nil=>exact .nil
   | cons x t _ ih=>exact .cons ⟨t,rfl⟩ ih
  refine⟨?_,out,c,vs hs,hg⟩;rw[qA,pk.length_eq];exact yF (qaG (by omega))
end
structure Fx(P:Program)(w:World)(K:W.Frag)(mg:Str->Option Value)(base:Heap)(CX:CXT)(k:Nat)(x:Str)(ps:List Str)(sp:Sp):Prop where
 ex:∃f fd,FnOk P w K mg base CX k f fd ps sp/\Binds K fd ps []/\PySem.W.keepIn K (.ref f)=true/\mg x=some (.ref f)
section
variable{X:Cx}{CX:CXT}{k:Nat}{ps:List Str}{sp:Sp}{E:XK}{x:Str}{p pos:Pos}{e:Expr}{es:List Expr}{t:TA}
theorem qat(F:Fx X.prog X.w X.K X.mg X.base CX k x ps sp)(hr:Room k X.A)(hg:Gl X x)(hx:qdV CX X E)(ha:PA X (e::es) t)(hdb:(x == ("__debug__" : Str))=false:=by decide)(he:starEach (e::es) X.env=(false,eval e X.env)::starEach es X.env:=by rfl)(hpl:(backTo pos (starEach es X.env)).any (·.1)=false:=by rfl):PE X (.Call (.Name x p) (e::es) [] pos) (qie sp [] E t):=by
 obtain⟨f,fd,G,b,kp,m⟩:=F.ex;exact pe_call G hr hg m kp b .nil hx ha hdb he hpl
end
theorem CompScope.plain{X:Cx}{scope:Scope}{own:List Str}(h1:scope.kind=.function)(h2:∀y∈scope.names,y.2≠.cell)(h3:∀y∈scope.names,y.2=.local->scope.names.lookup y.1=some .local)(h4:∀y∈scope.names,y.2≠.free):CompScope X scope own [] [] :=
 ⟨h1,h2,h3,λy hy hf=>absurd hf (h4 y hy),rfl,λ_ z=>nomatch z⟩
theorem qfC{names:List (Str×NameKind)}{a:Str}(h:names.lookup a=some .cell):∀x∈[a],names.lookup x=some .cell\/names.lookup x=some .free:=λx hx=>by
 have:x=a:=by simpa using hx
 rw[this];exact .inl h
theorem CompScope.frees{X:Cx}{scope:Scope}{own fr:List Str}{ix:List Nat}(h1:scope.kind=.function)(h2:∀y∈scope.names,y.2≠.cell)(h3:∀y∈scope.names,y.2=.local->scope.names.lookup y.1=some .local)(h4:∀y∈scope.names,y.2=.free->y.1∈fr)(h5:ix.map (λj=>X.N[j]?)=fr.map some)(h6:∀x∈fr,scope.names.lookup x=some .free)(h7:∀x∈fr,X.env.scope.names.lookup x=some .cell\/X.env.scope.names.lookup x=some .free):CompScope X scope own fr ix :=
 ⟨h1,h2,h3,λy hy hf=>h7 _ (h4 y hy hf),h5,h6⟩
theorem qeX{lo:Int}{n own:Nat}{ix:List Nat}{g:TG}{tt:TT}{te:TE}{σ:St}{H:Hp}{Q:VK}(Pv:Nat->List V->St->Hp->Prop)(hz:n<sizeLine)(h0:Pv 0 [] (qcV own ix σ) H)(hl:∀i ys σ' H',i<=n->Pv i ys σ' H'->ys.length<=i)(hs:∀i ys σ' H',i<n->Pv i ys σ' H'->g (.int (lo+i)) σ' H' λσ2 H3=>tt σ2 H3 λb H4=>if b=true then te σ2 H4 λv H5=>Pv (i+1) (ys++[v]) σ2 H5 else Pv (i+1) ys σ2 H4)(hd:∀ys σ' H',Pv n ys σ' H'->∀D,H' D=none->Q (.ref D) (upd H' D (.lst ys))):qdy own ix g tt te (Itr lo n) σ H Q:=by
 refine⟨λi m ys σ H=>m=n-i/\i<=n/\Pv i ys σ H,⟨n,by simp,r8 _,h0⟩,?_⟩;rintro i m ys σ H ⟨rfl,hi,p⟩;have hy:=hl i ys σ H hi p;refine⟨by omega,?_⟩
 by_cases hlt:i<n
 ·refine .inr ⟨hlt,Pv (i+1),λzs σ' H' p'=>⟨n-(i+1),by omega,rfl,hlt,p'⟩,λx H' y=>?_⟩;obtain⟨e,y⟩:=y;subst e y;exact hs i ys σ _ hlt p
 ·have e:i=n:=by omega
  subst e;exact .inl ⟨qG _,hd ys σ H p⟩
theorem qf7{K:W.Frag}{a:Addr}{xs:List V}{own:Nat}{ix:List Nat}{g:TG}{tt:TT}{te:TE}{σ:St}{H:Hp}{Q:VK}(Pv:Nat->List V->St->Hp->Prop)(hz:xs.length<sizeLine)(h0:Pv 0 [] (qcV own ix σ) H)(hl:∀i ys σ' H',i<=xs.length->Pv i ys σ' H'->SqL K H' a xs/\ys.length<=i)(hs:∀i x ys σ' H' T,xs[i]?=some x->H' T=none->Pv i ys σ' H'->g (.ref T) σ' (upd H' T (.tup [.int (i:Nat),x])) λσ2 H3=>tt σ2 H3 λb H4=>if b=true then te σ2 H4 λv H5=>Pv (i+1) (ys++[v]) σ2 H5 else Pv (i+1) ys σ2 H4)(hd:∀ys σ' H',Pv xs.length ys σ' H'->∀D,H' D=none->Q (.ref D) (upd H' D (.lst ys))):qdy own ix g tt te (Ite K a) σ H Q:=by
 refine⟨λi m ys σ H=>m=xs.length-i/\i<=xs.length/\Pv i ys σ H,⟨xs.length,by simp,r8 _,h0⟩,?_⟩;rintro i m ys σ H ⟨rfl,hi,p⟩;obtain⟨q,hy⟩:=hl i ys σ H hi p;refine⟨by omega,?_⟩
 by_cases hlt:i<xs.length
 ·refine .inr ⟨⟨xs,xs[i],q,by simp[hlt]⟩,Pv (i+1),λzs σ' H' p'=>⟨xs.length-(i+1),by omega,rfl,hlt,p'⟩,λx H' y=>?_⟩;obtain⟨T,z,hT,e1,e2,y⟩:=y;subst e1 e2;exact hs i z ys σ _ T (y xs q) hT p
 ·have e:i=xs.length:=by omega
  subst e;exact .inl ⟨⟨xs,q,qG _⟩,hd ys σ H p⟩
def rEqP(neg:Bool):R2:=λx y H Q=>∃d e,DIn H x d/\DIn H y e/\PySem.W.kqdOk 9 d=true/\PySem.W.kqdOk 9 e=true/\(d=e->Q (.bl (!neg)) H)/\(d≠e->Q (.bl neg) H)
section
variable{X:Cx}
open Classical in
theorem qgz(hu:X.A.units+64<cLine):OpR X (compareOp .Eq) (rEqP false):=by
 intro pins s σ H x y v u Q I rx ry h;obtain⟨d,e,h1,h2,k1,k2,q1,q2⟩:=h;refine op_eqD hu pins s σ H x y v u Q I rx ry ⟨d,e,h1,h2,k1,k2,?_⟩;rw[if_neg qL]
 by_cases z:d=e
 ·rw[qB z];exact q1 z
 ·rw[qC z];exact q2 z
open Classical in
theorem qfL(hu:X.A.units+64<cLine):OpR X (compareOp .NotEq) (rEqP true):=by
 intro pins s σ H x y v u Q I rx ry h;obtain⟨d,e,h1,h2,k1,k2,q1,q2⟩:=h;refine op_neD hu pins s σ H x y v u Q I rx ry ⟨d,e,h1,h2,k1,k2,?_⟩;rw[if_pos rfl]
 by_cases z:d=e
 ·rw[qB z];exact q1 z
 ·rw[qC z];exact q2 z
theorem qg9{H:Hp}:∀(nms:List Str),DAll H (nms.map V.str) (nms.map PySem.W.Dat.str)
 | []=>.nil
 | x::l=>.cons (.str x) (qg9 l)
def rSlS:V->Option Int->Option Int->Hp->VK->Prop:=λx lo hi H Q=>∃z,x=.str z/\z.length<=sizeLine/\Q (.str (Txt.slice z lo hi)) H
theorem sl_str:SlR X rSlS:=by
 intro pins s σ H x v vl vu lo hi sl Q I rx hs pl pu h;obtain⟨z,rfl,hz,q⟩:=h;obtain⟨t,rfl⟩:=rx;cases pl with
 | none =>
   cases pu with
   | none=>exact⟨"str",_,PySem.F.slot_str_getitem.lookup,u5 _ _ _,uN (l:=none) (u:=none) (st:=none) hs rfl (vM ⟨qR (wL z _ _) hz,λt' k=>⟨.str (Txt.slice z none none),H,I.tok k,⟨t',rfl⟩,q⟩⟩)⟩
   | int j u=>exact⟨"str",_,PySem.F.slot_str_getitem.lookup,u5 _ _ _,uN (l:=none) (u:=some (j,u)) (st:=none) hs rfl (vM ⟨qR (wL z _ _) hz,λt' k=>⟨.str (Txt.slice z none (some j)),H,I.tok k,⟨t',rfl⟩,q⟩⟩)⟩
 | int i u =>
   cases pu with
   | none=>exact⟨"str",_,PySem.F.slot_str_getitem.lookup,u5 _ _ _,uN (l:=some (i,u)) (u:=none) (st:=none) hs rfl (vM ⟨qR (wL z _ _) hz,λt' k=>⟨.str (Txt.slice z (some i) none),H,I.tok k,⟨t',rfl⟩,q⟩⟩)⟩
   | int j u'=>exact⟨"str",_,PySem.F.slot_str_getitem.lookup,u5 _ _ _,uN (l:=some (i,u)) (u:=some (j,u')) (st:=none) hs rfl (vM ⟨qR (wL z _ _) hz,λt' k=>⟨.str (Txt.slice z (some i) (some j)),H,I.tok k,⟨t',rfl⟩,q⟩⟩)⟩
theorem qeI{x:Str}{j:Int}(h0:0<=j)(h1:j<=x.length):Txt.slice x (some j) none=⟨(x.cps.toList.drop j.toNat).toArray⟩:=by
 have:=beq_iff_eq.mp (slice_closes_from (x:=x) (i:=j) ⟨h0,h1⟩);rw[this,rQ];rw[rW];omega
end
end L2
namespace Gen
open PySem L2 Bk
theorem b_isinstance:bootBuiltins "isinstance" = some (.builtin "isinstance"):=by ac_rfl
theorem b_len:bootBuiltins "len" = some (.builtin "len"):=by ac_rfl
theorem b_all:bootBuiltins "all" = some (.builtin "all"):=by ac_rfl
theorem b_sorted:bootBuiltins "sorted" = some (.builtin "sorted"):=by ac_rfl
theorem b_int:bootBuiltins "int" = some (.type "int"):=by ac_rfl
theorem b_bool:bootBuiltins "bool" = some (.type "bool"):=by ac_rfl
theorem b_str:bootBuiltins "str" = some (.type "str"):=by ac_rfl
theorem b_list:bootBuiltins "list" = some (.type "list"):=by ac_rfl
theorem b_tuple:bootBuiltins "tuple" = some (.type "tuple"):=by ac_rfl
theorem b_set:bootBuiltins "set" = some (.type "set"):=by ac_rfl
structure Bn(mg:Str->Option Value):Prop where
 isinstance:mg "isinstance" = none
 len:mg "len" = none
 range:mg "range" = none
 sorted:mg "sorted" = none
 int:mg "int" = none
 bool:mg "bool" = none
 list:mg "list" = none
 tuple:mg "tuple" = none
 str:mg "str" = none
 set:mg "set" = none
 enumerate:mg "enumerate" = none
 all:mg "all" = none
 ver:mg "ValueError" = none
def StOk(H:Hp)(st:Addr):Prop:=∃x y:Int,H st=some (.lst [.int x,.int y])/\0<=y/\y<4294967296
abbrev qfg(st:Addr)(H H':Hp):Prop:=KeepN (λb=>b≠st) H H'
theorem StOk.same{H H':Hp}{st:Addr}(h:StOk H st)(s:Same H H'):StOk H' st:=by
 obtain⟨x,y,e,z⟩:=h;exact⟨x,y,s _ _ e,z⟩
theorem StOk.some{H:Hp}{st:Addr}(h:StOk H st):∃o,H st=some o:=by
 obtain⟨x,y,e,z⟩:=h;exact⟨_,e⟩
def qgB(K:W.Frag):Sp:=λvs H Q _=>∃(a:Addr) (ns:List Int) (k:Int),vs=[.ref a,.int k]/\SqL K H a (ns.map V.int)/\0<=k/\k<=100/\∀(st:Addr) (H':Hp),H st=none->StOk H' st->Same H H'->Q (.ref st) H'
def spTake:Sp:=λvs H Q _=>∃(st:Addr) (m:Int),vs=[.ref st,.int m]/\StOk H st/\0<m/\m<=1000000000000/\∀(r:Int) (H':Hp),0<=r->r<m->StOk H' st->qfg st H H'->Q (.int r) H'
def qbP(H:Hp):Addr->Prop:=λb=>H b=none
def NmOk(ds:List Nd)(x:Str):Prop:=x=noName\/(Name x/\∀c∈ds,c.nm≠x)
theorem names_push{ds:List Nd}{d:Nd}(h:qd1 ds)(n:NmOk ds d.nm):qd1 (ds++[d]):=by
 unfold qd1;rw[rT,qM]
 by_cases z:d.nm=noName
 ·have:([d].filter λd=>decide (d.nm≠noName))=[]:=by simp[z]
  rw[this,wK,rC];exact h
 ·have:([d].filter λd=>decide (d.nm≠noName))=[d]:=by simp[z]
  rw[this,uV];refine⟨h,by simp,λa ha b hb=>?_⟩;have hb':b=d.nm:=by simpa using hb
  subst hb';obtain⟨c,hc,rfl⟩:=qV.mp ha;rcases n with n | n
  ·exact absurd n z
  ·exact n.2 c (xL.mp hc).1
theorem int_at{ns:List Int}{k:Int}(h0:0<=k)(h:k<(ns.length:Int)):∃v:Int,atI (ns.map V.int) k=some (.int v):=by
 have hk:k.toNat<ns.length:=by omega
 have ek:k=((k.toNat:Nat):Int):=by omega
 have q:atI (ns.map V.int) ((k.toNat:Nat):Int)=some (.int ns[k.toNat]):=qbV (by rw[qP,qE hk]<;>rfl);rw[<-ek]at q;exact⟨_,q⟩
def small:Str:=Str.ofString "abcdefghijklmnopqrstuvwxyz"
theorem small_is:small.cps.toList=[97,98,99,100,101,102,103,104,105,106,107,108,109,110,111,112,113,114,115,116,117,118,119,120,121,122]:=by ac_rfl
theorem qgK{α:Type}{l:List α}{i:Int}(h0:0<=i)(h1:i<(l.length:Int)):∃c,atI l i=some c/\c∈l:=by
 have hi:i.toNat<l.length:=by omega
 have ei:i=((i.toNat:Nat):Int):=by omega
 have q:atI l ((i.toNat:Nat):Int)=some l[i.toNat]:=qbV (qE hi);rw[<-ei]at q;exact⟨_,q,yZ hi⟩
theorem qaz(x y:Str):(x++y).length=x.length+y.length:=by
 show(x.cps++y.cps).size=_;rw[Array.size_append];rfl
theorem qaC(x y:Str):(x++y).cps.toList=x.cps.toList++y.cps.toList:=by
 show(x.cps++y.cps).toList=_;exact vB
theorem small_str{x:Str}(h:∀c∈x.cps.toList,qh3 c):PyData.strOk x=true:=by
 show(x.cps.all λc=>decide (c<0x110000))=true;rw[yG];intro c hc;have:=h c (by simpa using hc);unfold qh3 at this;exact qB (by omega)
theorem strs_ok{nms:List Str}(h:∀x∈nms,Name x):PySem.W.kqdOk 9 (.list (nms.map PySem.W.Dat.str))=true:=by
 simp only[PySem.W.kqdOk,List.all_eq_true,List.mem_map,decide_eq_true_eq];rintro d ⟨x,hx,rfl⟩;have:=small_str (h x hx).2.2;simpa[PySem.W.kqdOk]using this
theorem strs_at{nms:List Str}{i:Int}(h0:0<=i)(h1:i<((nms.map V.str).length:Int)):∃y,atI (nms.map V.str) i=some (.str y)/\y∈nms:=by
 obtain⟨v,e,m⟩:=qgK h0 h1;obtain⟨y,my,rfl⟩:=qV.mp m;exact⟨y,e,my⟩
theorem notes_app(a b:List Th):qaj (a++b)=qaj a++qaj b:=List.filterMap_append
theorem qbl{α β:Type}{F:α->β->Prop}:∀{a b:List α} {c d:List β},Paired F a c->Paired F b d->Paired F (a++b) (c++d)
 | _,_,_,_,.nil,h=>h
 | _,_,_,_,.cons q t,h=>.cons q (qbl t h)
end Gen
namespace L2
end L2
namespace K10
open PySem L2 Bk Gen
def top(i:Nat):Stmt:=PySem.Challenge.pw_leafpress_k10_whole_any_rows_read.main.body.getD i (.Pass ⟨0,0,0,0⟩)
abbrev sStream:Stmt:=top 94
abbrev sTake:Stmt:=top 95
section
variable{P:Program}{w:World}{K:W.Frag}{mg:Str->Option Value}{base:Heap}
theorem scStream:FnScope ["_law_script", "_law_k"] ["_law_script", "_law_k"] (qaf sStream):=⟨rfl,rfl,rfl,by ac_rfl,rfl,by ac_rfl,by ac_rfl⟩
theorem ok_stream{f:Addr}{fd:FuncData}(F:Fun K "_law_stream" "_law_stream" sStream f fd)(T:Bn mg):FnOk P w K mg base CX0 1 f fd ["_law_script", "_law_k"] (qgB K):=by
 refine F.ok scStream (λvs H Q E h=>?_) (λcdv A outer s H vs Q E hr h=>?_)
 ·obtain⟨a,ns,k,rfl,_⟩:=h;rfl
 ·obtain⟨a,ns,k,rfl,hS,k0,k1,q⟩:=h;refine⟨_,(qab (qaH (qak op_lt (pv 1) (qal call_len_seq (by rfl) T.len b_len (qaa (pv 0) pa_nil)) (qap _)) (qad (qai (qaR (qaa (qan ix_list (pv 0) (pv 1) (λ_ _=>rfl)) (qaa (qaM op_add (qaM op_add (qaM op_mod (qan ix_list (pv 0) (pv 1) (λ_ _=>rfl)) qag) (qaM op_mul (pv 1) (pv 1))) qag) pa_nil))))) pss_nil)
   (qad (qai (qaR (qaa (qaM op_add (qaM op_mul (qaM op_mul (pv 1) (pv 1)) qag) qag) (qaa (qaM op_add (pv 1) qag) pa_nil)))))),?_⟩
  have kk:0<=k*k/\k*k<=10000:=by
   have h1:=Int.mul_nonneg k0 k0;have h2:k*k<=100*100:=Int.mul_le_mul k1 k1 k0 (by decide);omega
  refine⟨_,rfl,_,rfl,a,_,rfl,.inl hS,_,_,rfl,rfl,_,rfl,?_⟩;refine ite2 (λc=>?_) (λc=>?_)
  ·have c':k<(((ns.map V.int).length:Nat):Int):=rL c;rw[qA]at c';obtain⟨v,hv⟩:=int_at (ns:=ns) k0 c';refine⟨_,rfl,_,rfl,a,_,_,_,rfl,rfl,hS,hv,?_⟩;refine⟨_,rfl,_,rfl,a,_,_,_,rfl,rfl,hS,hv,_,_,rfl,rfl,(by show(0:Int)<2147483629;decide),_,rfl,_,rfl,_,_,rfl,rfl,.inl ⟨by omega,by omega⟩,_,_,rfl,rfl,_,_,rfl,rfl,(by show 2<=sizeLine;decide),λl hl=>?_⟩;have m1:=wN v (show(2147483629:Int)≠0 by decide);have m2:=vU v (show(0:Int)<2147483629 by decide);exact q l _ hl ⟨v,_,upd_same,by omega,by omega⟩ (qac hl _)
  ·refine⟨_,rfl,_,rfl,_,_,rfl,rfl,.inl ⟨by omega,by omega⟩,_,_,rfl,rfl,.inl ⟨by omega,by omega⟩,_,_,rfl,rfl,_,rfl,_,_,rfl,rfl,(by show 2<=sizeLine;decide),λl hl=>?_⟩;exact q l _ hl ⟨_,_,upd_same,by omega,by omega⟩ (qac hl _)
theorem scTake:FnScope ["_law_stream_here", "_law_most", "_law_digit"] ["_law_stream_here", "_law_most"] (qaf sTake):=⟨rfl,rfl,rfl,by ac_rfl,rfl,by ac_rfl,by ac_rfl⟩
theorem ok_take{f:Addr}{fd:FuncData}(F:Fun K "_law_take" "_law_take" sTake f fd):FnOk P w K mg base CX0 1 f fd ["_law_stream_here", "_law_most"] spTake:=by
 refine F.ok scTake (λvs H Q E h=>?_) (λcdv A outer s H vs Q E hr h=>?_)
 ·obtain⟨st,m,rfl,_⟩:=h;rfl
 ·obtain⟨st,m,rfl,⟨x,y,hst,y0,y1⟩,m0,m1,q0⟩:=h;have q:∀r x' y':Int,0<=r->r<m->0<=y'->y'<4294967296->Q (.int r) (upd H st (.lst [.int x',.int y'])):=λr x' y' r0 r1 z0 z1=>q0 r _ r0 r1 ⟨x',y',upd_same,z0,z1⟩ λb o n e=>by rw[qax n];exact e
  refine⟨_,(qab (qaH (PW.pt (qdv (qak op_eq (qan ix_list (pv 0) qag (λ_ _=>rfl)) qag (qap _)) (qcr (qak op_eq (qan ix_list (pv 0) qag (λ_ _=>rfl)) (qen un_neg qag) (qap _))))) (qab (qh0 (qaM op_mod (qaM op_add (qaM op_mul (qan ix_list (pv 0) qag (λ_ _=>rfl)) qag) qag) qag) (qiz (pv 0) qag set_list))
   (qad (qai (qaM op_mod (qaM op_mod (qaM op_mul (qan ix_list (pv 0) qag (λ_ _=>rfl)) (qan ix_list (pv 0) qag (λ_ _=>rfl))) qag) (pv 1))))) pss_nil)
   (qab (qau (i:=2) scTake.nd (by rfl) (by trivial) (qaM op_mod (qan ix_list (pv 0) qag (λ_ _=>rfl)) (pv 1)))
   (qab (qh0 (qaM op_fdivL (qan ix_list (pv 0) qag (λ_ _=>rfl)) (pv 1)) (qiz (pv 0) qag set_list))
   (qad (qai (pv 2)))))),?_⟩
  have mm:∀v:Int,0<=v % m/\v % m<m:=λv=>⟨wN v (by omega),vU v m0⟩
  have empty:∀Q':VK,Q'=Q->tSeq (tAsg (tOp (rI (λ_ j=>0<j) λi j=>.int (i % j)) (tOp (rI0 λi j=>.int (i+j)) (tOp (rI CMul λi j=>.int (i*j)) (tOp (rIxL K) (tVar 0) (tC (.int 1))) (tC (.int 48271))) (tC (.int 12345))) (tC (.int 2147483647))) (gSub (tVar 0) (tC (.int 1)) rSetL))
    (tRet (tOp (rI (λ_ j=>0<j) λi j=>.int (i % j)) (tOp (rI (λ_ j=>0<j) λi j=>.int (i % j)) (tOp (rI CMul λi j=>.int (i*j)) (tOp (rIxL K) (tVar 0) (tC (.int 1))) (tOp (rIxL K) (tVar 0) (tC (.int 1)))) (tC (.int 2147483629))) (tVar 1)))
    {nx:=λ_ _=>False,rt:=Q'} [some (.ref st),some (.int m),none] H:=by
   rintro Q' rfl;refine⟨_,rfl,st,_,_,_,rfl,rfl,SqL.of hst,rfl,_,_,rfl,rfl,.inl ⟨by omega,by omega⟩,_,_,rfl,rfl,_,_,rfl,rfl,(by show(0:Int)<2147483647;decide),_,rfl,st,_,1,1,rfl,rfl,hst,rfl,?_⟩;have z0:=wN (y*48271+12345) (show(2147483647:Int)≠0 by decide);have z1:=vU (y*48271+12345) (show(0:Int)<2147483647 by decide);have hst':upd H st (.lst [.int x,.int ((y*48271+12345) % 2147483647)]) st=some (.lst [.int x,.int ((y*48271+12345) % 2147483647)]):=upd_same;refine⟨_,rfl,st,_,_,_,rfl,rfl,SqL.of hst',rfl,_,rfl,st,_,_,_,rfl,rfl,SqL.of hst',rfl,_,_,rfl,rfl,.inl (show -(2 ^ 64)<(y*48271+12345) % 2147483647/\(y*48271+12345) % 2147483647<2 ^ 64 from⟨by omega,by omega⟩),_,_,rfl,rfl,(by show(0:Int)<2147483629;decide),_,rfl,_,_,rfl,rfl,m0,?_⟩;exact q _ x _ (mm _).1 (mm _).2 z0 (by omega)
  refine⟨_,rfl,st,_,_,_,rfl,rfl,SqL.of hst,rfl,rfl,_,rfl,?_⟩
  by_cases x0:x=0
  ·rw[qB (show V.int x=V.int 0 by rw[x0])];refine iteT (iteT ?_);exact empty _ rfl
  ·rw[qC (show¬V.int x=V.int 0 from λz=>x0 (V.int.inj z))];refine iteF ⟨_,rfl,st,_,_,_,rfl,rfl,SqL.of hst,rfl,_,rfl,rfl,_,rfl,?_⟩
   by_cases x1:x=-1
   ·rw[qB (show V.int x=V.int (-1) by rw[x1])];refine iteT ?_;exact empty _ rfl
   ·rw[qC (show¬V.int x=V.int (-1)from λz=>x1 (V.int.inj z))];refine iteF ?_;refine⟨_,rfl,st,_,_,_,rfl,rfl,SqL.of hst,rfl,_,rfl,_,_,rfl,rfl,m0,?_⟩;refine⟨_,rfl,st,_,_,_,rfl,rfl,SqL.of hst,rfl,_,rfl,_,_,rfl,rfl,⟨m0,by omega⟩,_,rfl,st,_,0,0,rfl,rfl,hst,rfl,?_⟩;refine⟨_,rfl,?_⟩;exact q _ (x / m) y (mm x).1 (mm x).2 y0 y1
end
end K10
namespace Gen
open PySem L2 Bk PyProof.Rows PySem.Spec
theorem rising_all:∀(l:List Str) (x:Str),risingS x l=true->(∀y∈l,¬y.cps.toList<x.cps.toList)/\l.Pairwise λa b=>¬b.cps.toList<a.cps.toList
 | [],x,_=>⟨(λy hy=>nomatch hy),List.Pairwise.nil⟩
 | y :: r, x, h => by
   have h':(!ltCps y.cps.toList x.cps.toList && risingS y r)=true:=h
   rw[rG]at h'
   obtain⟨h1,h2⟩:=h'
   have n1:¬y.cps.toList<x.cps.toList:=by
     rw[ltCps_eq]at h1
     simpa using h1
   obtain⟨a,b⟩:=rising_all r y h2
   refine⟨λz hz=>?_,List.Pairwise.cons (λz hz=>a z hz) b⟩
   rcases qO.mp hz with rfl | hz
   · exact n1
   · intro lt
     exact a z hz (Std.lt_of_lt_of_le lt (wA.mp n1))
theorem sorted_all{l:List Str}(h:sortedS l=true):l.Pairwise λa b=>¬b.cps.toList<a.cps.toList:=by
 cases l with
 | nil=>exact List.Pairwise.nil
 | cons x r =>
   obtain⟨a,b⟩:=rising_all r x h
   exact List.Pairwise.cons a b
theorem qdx{x y:Str}(h:x.cps.toList=y.cps.toList):x=y:=by
 obtain⟨⟨x⟩⟩:=x;obtain⟨⟨y⟩⟩:=y;cases h;rfl
theorem qhN{l:List Str}(h:sortedS l=true)(n:l.Nodup):l.Pairwise λa b=>a.cps.toList<b.cps.toList:=by
 have:=(sorted_all h).and n;refine this.imp λ{a b} q=>?_
 by_cases z:a.cps.toList<b.cps.toList
 ·exact z
 ·exact absurd (qdx (List.le_antisymm (wA.mp q.1) (wA.mp z))) q.2
theorem inV_strs{x:Str}{nms:List Str}(h:inV (.str x) (nms.map V.str)=false):∀y∈nms,y≠x:=by
 intro y hy z;have:inV (.str x) (nms.map V.str)=true:=by
  unfold inV;rw[wH];exact⟨.str y,yV hy,by show(y == x)=true;rw[z];simp⟩
 rw[h]at this;cases this
theorem qeE(nms:List Str):(nms.map V.str).all flatV=true:=by
 rw[xB];intro v hv;obtain⟨x,_,rfl⟩:=qV.mp hv;rfl
theorem qcc{α β:Type}(f:α->β){ts:List α}{i:Nat}{t:α}(h:ts[i]?=some t):(ts.take (i+1)).map f=(ts.take i).map f++[f t]:=by
 rw[rO,h,qM];rfl
theorem qdu{as:List Addr}{i:Nat}{x:V}(h:(as.map V.ref)[i]?=some x):∃a,as[i]?=some a/\x=.ref a:=by
 rw[qP]at h;cases e:as[i]? with
 | none=>rw[e]at h;cases h
 | some t=>rw[e]at h;cases h;exact⟨t,rfl,rfl⟩
end Gen
namespace Gen
open PySem L2 Bk PyProof.Rows
theorem qhq(ks:List Str):(once ks).length<=ks.length:=by
 have:∀(a b:List Str),(a.foldl one1 b).length<=a.length+b.length:=by
  intro a
  induction a with
  | nil=>intro b;simp
  | cons x a ih =>
    intro b
    rw[xY]
    have h1:=ih (one1 b x)
    have h2:=qgL b x
    have h3:(one1 b x).length<=b.length+1:=by rw[h2];split<;>omega
    simp only[List.length_cons]
    omega
 simpa[once]using this ks []
end Gen
namespace Gen
open PySem L2 Bk
end Gen
namespace L2
theorem qa0{t u:TS}{D:Ends}{σ:St}{H:Hp}(P:St->Hp->Prop)(h:∀D':Ends,(∀σ' H',P σ' H'->D'.nx σ' H')->t D' σ H)(k:∀σ' H',P σ' H'->u D σ' H'):tSeq t u D σ H:=h _ k
end L2
namespace Gen
open PySem L2 Bk
theorem kdt(k k':Kd):decide (V.str k.s=V.str k'.s)=decide (k=k'):=by
 by_cases h:k=k'
 ·rw[qB h,h];simp
 ·rw[qC h];exact qC λz=>h ((Kd.inj k k').mp (V.str.inj z))
end Gen
namespace Bk
open PySem L2
open PySem.W (Dat kqdOk)
def thgD:Sum Str Int->Dat
 | .inl w=>.str w
 | .inr k=>.int k
def thD:Th->Dat
 | .int n=>.int n
 | .tri s x t=>.tuple [.str s.s,thgD x,.int t]
def ndD(d:Nd):Dat:=.tuple [.int d.e,.str d.k.s,.str d.nm,.list (d.mks.map Dat.str),.list (d.st.map thD)]
def bkD(ds:List Nd):Dat:=.list (ds.map ndD)
section
variable{N:Addr->Prop}{H:Hp}
theorem th_in{v:V}{x:Th}(h:ItAt N H v x):DIn H v (thD x):=by
 cases x with
 | int n=>cases h;exact .int n
 | tri s x t =>
   obtain⟨a,rfl,_,e⟩:=h
   refine .tup e (.cons (.str _) (.cons ?_ (.cons (.int _) .nil)))
   cases x with
   | inl w=>exact .str w
   | inr k=>exact .int k
theorem qh5{vs:List V}{l:List Th}(p:Paired (ItAt N H) vs l):DAll H vs (l.map thD):=by
 induction p with
 | nil=>exact .nil
 | cons q t ih=>exact .cons (th_in q) ih
theorem nd_in{a:Addr}{d:Nd}(h:NdAt N H a d):DIn H (.ref a) (ndD d):=by
 obtain⟨_,m,s,e,_,em,_,vs,es,p⟩:=h;exact .tup e (.cons (.int _) (.cons (.str _) (.cons (.str _) (.cons (.lst em (qg9 _)) (.cons (.lst es (qh5 p)) .nil)))))
theorem nds_in{as:List Addr}{ds:List Nd}(p:NdsAt N H as ds):DAll H (as.map V.ref) (ds.map ndD):=by
 induction p with
 | nil=>exact .nil
 | cons q t ih=>exact .cons (nd_in q) ih
theorem qg8{p:Addr}{ds:List Nd}(h:BookAt N H p ds):DIn H (.ref p) (bkD ds):=by
 obtain⟨as,e,q⟩:=h;exact .lst e (nds_in q)
end
theorem low_str{x:Str}(h:∀c∈x.cps.toList,c<128):PyData.strOk x=true:=by
 show(x.cps.all λc=>decide (c<0x110000))=true;rw[yG];intro c hc;have:=h c (by simpa using hc);exact qB (by omega)
theorem qiC(k:Kd):PyData.strOk k.s=true:=by cases k<;>ac_rfl
theorem qdz(s:So):PyData.strOk s.s=true:=by cases s<;>ac_rfl
theorem word_low:∀c∈wordSigns,c<128:=by decide
theorem qfc{w:Str}(h:Word w):PyData.strOk w=true:=low_str λc hc=>word_low c (h.2.2 c hc)
theorem qcB{n:Str}(h:n=noName\/Name n):PyData.strOk n=true:=by
 rcases h with rfl | h
 ·ac_rfl
 ·exact Gen.small_str h.2.2
theorem pc_ok{x:Th}(h:PcOk x):kqdOk 6 (thD x)=true:=by
 cases x with
 | int n=>cases h
 | tri s x t =>
   cases s<;>cases x<;>first | (exfalso;exact h) | skip
   · have:=qfc h.1
     simp[thD,thgD,kqdOk,this,qdz]
   · have:=qcB (.inr h.1)
     simp[thD,thgD,kqdOk,this,qdz]
   · simp[thD,thgD,kqdOk,qdz]
theorem qgE{k:Kd}{l:List Th}(h:Stuff k l):∀x∈l,kqdOk 6 (thD x)=true:=by
 intro x hx;cases k<;>first
  | (obtain⟨h1,_⟩:=h;exact pc_ok (h1 x hx))
  | (obtain⟨a,b,rfl,_⟩:=h;rcases qO.mp hx with rfl | hx;rfl;have:x=.int b:=(by simpa using hx);subst this;rfl)
  | (have:l=[]:=h;subst this;cases hx)
theorem nd_ok{d:Nd}(h:Form d):kqdOk 8 (ndD d)=true:=by
 have h1:=qcB h.nm;have h2:∀m∈d.mks,PyData.strOk m=true:=λm hm=>qcB (.inr (h.mks.2.1 m hm))
 have h3:=qgE h.st;simp only[ndD,kqdOk,List.all_cons,List.all_nil,Bool.and_true,Bool.and_eq_true,List.all_eq_true,List.mem_map];refine⟨trivial,qiC _,h1,?_,?_⟩
 ·rintro x ⟨m,hm,rfl⟩;exact h2 m hm
 ·rintro x ⟨m,hm,rfl⟩;exact h3 m hm
theorem qiV{ds:List Nd}(h:∀d∈ds,Form d):kqdOk 9 (bkD ds)=true:=by
 simp only[bkD,kqdOk,List.all_eq_true,List.mem_map];rintro x ⟨d,hd,rfl⟩;exact nd_ok (h d hd)
def bodyNd:Nd:=⟨-1,.body,noName,[],[]⟩
theorem body_form:Form bodyNd:=⟨.inl rfl,⟨by decide,(λm hm=>nomatch hm),List.Pairwise.nil⟩,rfl⟩
end Bk
namespace Gen
open PySem L2 Bk
end Gen
namespace L2
open PySem PySem.Spec PyProof.Rows
def TJ:=Str->St->Hp->VK->Prop
def PJ(X:Cx)(es:List Expr)(t:TJ):Prop :=
 ∀(out:Str) (pins:List (Addr×Obj)) (s:Shared) (σ:St) (H:Hp) (Q:VK),Inv X pins σ H s->t out σ H Q->wpAny (model X.prog X.w) X.A (joinParts out (evalEach es X.env)) (EP X pins σ Q) X.xe s
def tJnil:TJ:=λout _ H Q=>out.length<=sizeLine/\Q (.str out) H
def qhe(te:TE)(t:TJ):TJ:=λout σ H Q=>te σ H λx H1=>∃y,x=.str y/\(out++y).length<=sizeLine/\t (out++y) σ H1 Q
section
variable{X:Cx}{e a b:Expr}{es:List Expr}{te:TE}{t:TJ}{pos:Pos}
theorem pj_nil:PJ X [] tJnil:=λout pins s σ H Q I h=>joinParts_nil ⟨.str out,H,I.tok _,⟨_,rfl⟩,h.2⟩ h.1
theorem qbX(he:PE X e te)(hr:PJ X es t)(hs:evalEach (e::es) X.env=eval e X.env::evalEach es X.env:=by rfl):PJ X (e::es) (qhe te t):=by
 intro out pins s σ H Q I h;rw[hs];refine joinParts_cons (thn (he pins s σ H _ I h) λv s1 ⟨x,H1,I1,r1,q1⟩=>?_);obtain⟨y,rfl,hz,q⟩:=q1;obtain⟨tk,rfl⟩:=r1;exact⟨hz,hr (out++y) pins s1 σ H1 Q I1 q⟩
theorem qdr(h:PJ X (a::b::es) t)(hs:evalEach (a::b::es) X.env=eval a X.env::eval b X.env::evalEach es X.env:=by rfl):PE X (.JoinedStr (a::b::es) pos) (λσ H Q=>t Str.empty σ H Q):=by
 intro pins s σ H Q I hq;refine JoinedStr_many ?_;rw[<-hs];exact h Str.empty pins s σ H Q I hq
theorem qgr(he:PE X e te):PE X (.FormattedValue e (-1) none pos) (λσ H Q=>te σ H λx H1=>∃y,x=.str y/\y.length<=sizeLine/\Q (.str y) H1):=by
 intro pins s σ H Q I hq;refine FormattedValue_plain (thn (he pins s σ H _ I hq) λv s1 ⟨x,H1,I1,r1,q1⟩=>?_);obtain⟨y,rfl,hz,q⟩:=q1;obtain⟨tk,rfl⟩:=r1;exact formatField_str (λt' k=>⟨.str y,H1,I1.tok _,⟨_,rfl⟩,q⟩) hz
end
structure FunD(K:W.Frag)(x qual:Str)(st:Stmt)(f:Addr)(fd:FuncData):Prop where
 ex:∃(oc:Value) (od:Option Addr) (dV kV doc pm:Value) (an:Option Addr) (cdv ct:Value) (osl:Array (Option Value)),
  fd=PySem.W.fnOf x qual (qbG st) (qbk st) (qaf st) dV kV doc pm an cdv ct/\K.lookup f=some ⟨oc,od,.func fd,osl⟩/\PySem.W.codeIn K cdv qual=true
 kp:PySem.W.keepIn K (.ref f)=true
theorem FunD.ok{P:Program}{w:World}{K:W.Frag}{mg:Str->Option Value}{base:Heap}{CX:CXT}{x qual:Str}{st:Stmt}{f:Addr}{fd:FuncData}{N ps:List Str}{k:Nat}{sp:Sp}(F:FunD K x qual st f fd)(S:FnScope N ps (qaf st))(len:∀vs H Q E,sp vs H Q E->vs.length=ps.length)(hbody:∀(cdv:Value) (A:Around) (outer:List Env) (s:Shared) (H:Hp) (vs:List V) (Q:VK) (E:XK),Room k (A.deeper (envOfC qual (qaf st) s.heap.objs.size f cdv))->sp vs H Q E ->
   ∃t,PSs (cxOf CX P w K mg base N qual (qaf st) f cdv A outer s H E) (qbk st) t/\t {nx:=λ_ H'=>Q .non H',rt:=Q} (qfh N vs) H):FnOk P w K mg base CX (k+1) f fd ps sp:=by
 obtain⟨oc,od,dV,kV,doc,pm,an,cdv,ct,osl,rfl,lk,hcd⟩:=F.ex;exact qi0 lk hcd S len λA outer s H vs Q E hr hsp=>hbody cdv A outer s H vs Q E hr hsp
theorem fund_mk{K:W.Frag}{x qual:Str}{st:Stmt}{f:Addr}{oc:Value}{od an:Option Addr}{osl:Array (Option Value)}{dV kV doc pm cdv ct:Value}(l:K.lookup f=some ⟨oc,od,.func (PySem.W.fnOf x qual (qbG st) (qbk st) (qaf st) dV kV doc pm an cdv ct),osl⟩)(c:PySem.W.codeIn K cdv qual=true)(k:PySem.W.keepIn K (.ref f)=true):FunD K x qual st f (PySem.W.fnOf x qual (qbG st) (qbk st) (qaf st) dV kV doc pm an cdv ct) :=
 ⟨⟨oc,od,dV,kV,doc,pm,an,cdv,ct,osl,rfl,l,c⟩,k⟩
theorem qij{K:W.Frag}{h:Heap}{mg:Str->Option Value}{x:Str}{C:Addr}{bm:List Value}{newId:String}(X:K.In h)(G:h.Ns mainGlobals mg)(e:PySem.W.nsIn K mainGlobals x=some (some (.ref C)))(q:PySem.W.excIn K C bm newId=true):OwnCls x C bm newId mg h:=by
 refine⟨PySem.W.mg_of X G e,?_⟩;simp only[PySem.W.excIn]at q
 split at q
 case h_2=>exact absurd q qL
 case h_1 dd cd sl hK =>
  split at q
  case h_2=>exact absurd q qL
  case h_1 C2 tl a0 a1 a2 a3 nn a5 em es =>
   simp only[Bool.and_eq_true,beq_iff_eq,Bool.not_eq_true']at q;have q1:=q.1.1.1.1.1;have q2:=q.1.1.1.1.2;have q3:=q.1.1.1.2;have q4:=q.1.1.2;have q5:=q.1.2;have q6:=q.2;subst q1 q2;cases cd;cases sl;simp only at em q3 q5 q6 es;subst em q3 es;exact⟨tl,_,_,_,_,_,_,_,_,_,dd,a0,a1,a2,a3,a5,_,X _ _ hK,.of_isNs (PySem.W.isNs_of_in X q5),PySem.W.nsMap_none_of_in X q5 q6,PySem.W.tail_of_in X q4⟩
section
variable{X:Cx}{e:Expr}{te:TE}{pos:Pos}
theorem qcs{i:Int}(h:i.natAbs<10 ^ 100):i.natAbs.log2<1920:=by
 by_cases z:i.natAbs=0
 ·rw[z];decide
 ·exact(Nat.log2_lt z).mpr (qX h (by ac_rfl))
theorem qhS(he:PE X e te):PE X (.FormattedValue e (-1) none pos) (λσ H Q=>te σ H λx H1=>∃i:Int,x=.int i/\i.natAbs<10 ^ 100/\((Str.ofString (toString i)).length<=1921->Q (.str (Str.ofString (toString i))) H1)):=by
 intro pins s σ H Q I hq;refine FormattedValue_plain (thn (he pins s σ H _ I hq) λv s1 ⟨x,H1,I1,r1,q1⟩=>?_);obtain⟨i,rfl,hz,q⟩:=q1;obtain⟨tk,rfl⟩:=r1;refine formatField_int_small (qcs hz) ⟨.str (Str.ofString (toString i)),H1,(I1.tok _).tok _,⟨_,rfl⟩,q ?_⟩;rw[PySem.ofString_length];exact PySem.int_text_length_le (k:=1920) (by decide) (qcs hz)
end
theorem qh8{X:Cx}{es:List Expr}{k:Nat}{t:TGs}{n:Nat}{pos:Pos}(K:W.Frag)(hK:X.K=K)(hc:X.calm=true)(h:PGs X es t)(hn:(assignEach es X.env).length=n:=by rfl)(hst:(assignEach es X.env).findIdx? (·.1)=none:=by rfl):PG X (.Tuple es k pos) (gTup K n t):=by
 subst hK;exact qdj hc h hn hst
end L2
namespace Gen
open PySem L2 Bk
section
variable{X:Cx}
theorem qdn{e:Expr}{te:TE}{T:Str}{T':String}{p1 p2 pos:Pos}(hi:X.mg "isinstance" = none)(g1:Gl X "isinstance")(hT:X.mg T=none)(gT:Gl X T)(bT:bootBuiltins T=some (.type T'))(he:PE X e te)(hn:T ≠ "__name__":=by decide)(hd:(T == ("__debug__" : Str))=false:=by decide)(h1:starEach [e,.Name T p2] X.env=(false,eval e X.env)::starEach [.Name T p2] X.env:=by rfl)(h2:starEach [.Name T p2] X.env=(false,eval (.Name T p2) X.env)::starEach [] X.env:=by rfl)(h3:(backTo pos (starEach [.Name T p2] X.env)).any (·.1)=false:=by rfl) :
  PE X (.Call (.Name "isinstance" p1) [e,.Name T p2] [] pos) (tCB (λxs H Q=>∃x c t b,xs=[x,c]/\TyOf X.K H x t/\(∃cv,(∀u,RelV c u->u=cv)/\PySem.W.kitOne X.K t cv=some b)/\Q (.bl b) H) (qg7 te (qg7 (tC (.ty T')) tNil))) :=
 qal call_isinst g1 hi b_isinstance (qaa he (qaa (pe_bltn (v:=.ty T') gT hT bT rfl hn hd) pa_nil h2) h1) (by decide) (by decide) h1 h3
end
section
variable{K:W.Frag}
theorem k_ii:PySem.W.kitOne K (.type "int") (.type "int")=some true:=by unfold PySem.W.kitOne;rw[if_pos (by decide)]
theorem k_ib:PySem.W.kitOne K (.type "int") (.type "bool")=some false:=by
 unfold PySem.W.kitOne;rw[if_neg (by decide)];show(if PySem.W.kitMeta "bool" = true then PySem.W.subIn K (.type "int") (.type "bool")else none)=_;rw[if_pos (by ac_rfl)];show(fastBuiltinMro "int").map (·.contains (Value.type "bool"))=some false;ac_rfl
theorem k_ss:PySem.W.kitOne K (.type "str") (.type "str")=some true:=by unfold PySem.W.kitOne;rw[if_pos (by decide)]
theorem k_ll:PySem.W.kitOne K (.type "list") (.type "list")=some true:=by unfold PySem.W.kitOne;rw[if_pos (by decide)]
theorem k_tt:PySem.W.kitOne K (.type "tuple") (.type "tuple")=some true:=by unfold PySem.W.kitOne;rw[if_pos (by decide)]
end
end Gen
namespace L2
open PySem PySem.Spec PyProof.Rows
theorem turn_str{P:Program}{w:World}{K:W.Frag}{tg:Expr}(x:Str)(t:Tok)(it:Addr):Turn P w K tg (Its x) [it] it (λi h=>h.IsStrIter it "str_ascii_iterator" x t i) where
 mem:=by simp
 obj:=λi h st b hb=>by
  have e:b=it:=by simpa using hb
  subst e;obtain⟨o,e,c,d⟩:=st;exact⟨o,e,λv z=>by rw[d]at z;cases z⟩
 keep:=λi h h' st k=>by
  obtain⟨o,ho,r⟩:=st;exact⟨o,k it (by simp) o ho,r⟩
 item:=by
  intro X hP hw hK hc i pins s σ H E I hf st hg;subst hP hw hK;have hg':i<x.cps.size:=hg;obtain⟨f0,f1,f2,f3,f4,f5⟩:=hf it (by simp);have hx:x.cps[i]?=some x.cps[i]:=by simp[hg']
  refine wpAny_pyNext_ascii_item st hx λh' st' sb=>?_
  have I1:Inv X pins σ H {s with heap:=h',toks:=s.toks+1}:=I.turned (t':=s.toks+1) (λb o hb e=>(sb.2 b hb).trans e) f0 f1 f3 f4 f5;obtain⟨o,e,c,d⟩:=id st';exact⟨_,rfl,qh9 (s:={s with heap:=h',toks:=s.toks+1}) e c d (by decide) ⟨.str ⟨#[x.cps[i]]⟩,H,I1,⟨_,rfl⟩,⟨rfl,_,hx,rfl⟩,st',λb hb=>(hf b hb).1⟩⟩
 done:=by
  intro X hP hw hK hc i pins s σ H E I hf st hg;subst hP hw hK;have hg':x.cps.size<=i:=hg;obtain⟨f0,f1,f2,f3,f4,f5⟩:=hf it (by simp);exact wpAny_pyNext_ascii_end (I.ok.hd hc) st (by simp[hg']) λh' eb=>⟨rfl,I.turned (t':=s.toks) (λb o hb e=>eb b o hb e) f0 f1 f3 f4 f5⟩
 self:=λ_ _ _ _ _ st h=>wpAny_pyIter_striter_ascii st h
def iStr(tl:TE):TI:=λσ H R=>tl σ H λx H1=>∃z,x=.str z/\z.cps.all (·< 128)=true/\R (Its z) H1
section
variable{X:Cx}{tg:Expr}
theorem qhO{l:Expr}{tl:TE}(hl:PE X l tl):PI X tg l (iStr tl):=by
 intro pins s σ H R I h;refine thn (hl pins s σ H _ I h) λv s1 ⟨x,H1,I1,r1,q1⟩=>?_
 obtain⟨z,rfl,ha,q⟩:=q1;obtain⟨t,rfl⟩:=r1;refine wpAny_pyIter_ascii ha ?_;refine⟨s1.heap.objs.size,[s1.heap.objs.size],_,_,H1,rfl,I1.kept (t':=s1.toks) λb o e=>qI _ e,turn_str z t _,⟨_,rB _ rfl,rfl,rfl⟩,λb hb=>?_,q⟩;have e:b=s1.heap.objs.size:=by simpa using hb
 subst e;exact I1.fpOk (qG _) (I1.hok.fresh (qG _))
end
theorem qfs{x:Str}{own:Nat}{ix:List Nat}{g:TG}{tt:TT}{te:TE}{σ:St}{H:Hp}{Q:VK}(Pv:Nat->List V->St->Hp->Prop)(hz:x.cps.size<sizeLine)(h0:Pv 0 [] (qcV own ix σ) H)(hl:∀i ys σ' H',i<=x.cps.size->Pv i ys σ' H'->ys.length<=i)(hs:∀i c ys σ' H',x.cps[i]?=some c->Pv i ys σ' H'->g (.str ⟨#[c]⟩) σ' H' λσ2 H3=>tt σ2 H3 λb H4=>if b=true then te σ2 H4 λv H5=>Pv (i+1) (ys++[v]) σ2 H5 else Pv (i+1) ys σ2 H4)(hd:∀ys σ' H',Pv x.cps.size ys σ' H'->∀D,H' D=none->Q (.ref D) (upd H' D (.lst ys))):qdy own ix g tt te (Its x) σ H Q:=by
 refine⟨λi m ys σ H=>m=x.cps.size-i/\i<=x.cps.size/\Pv i ys σ H,⟨x.cps.size,by simp,r8 _,h0⟩,?_⟩;rintro i m ys σ H ⟨rfl,hi,p⟩;have hy:=hl i ys σ H hi p;refine⟨by omega,?_⟩
 by_cases hlt:i<x.cps.size
 ·refine .inr ⟨hlt,Pv (i+1),λzs σ' H' p'=>⟨x.cps.size-(i+1),by omega,rfl,hlt,p'⟩,λv H' y=>?_⟩;obtain⟨e,c,hc,e2⟩:=y;subst e e2;exact hs i c ys σ _ hc p
 ·have e:i=x.cps.size:=by omega
  subst e;exact .inl ⟨qG _,hd ys σ H p⟩
theorem qc2{K:W.Frag}{a:Addr}{xs:List V}{g:TG}{tb:TS}{D:Ends}{σ:St}{H:Hp}(Pv:Nat->St->Hp->Prop)(h0:Pv 0 σ H)(hl:∀i σ H,i<=xs.length->Pv i σ H->SqL K H a xs)(hs:∀i x σ H T,xs[i]?=some x->H T=none->Pv i σ H->g (.ref T) σ (upd H T (.tup [.int (i:Nat),x])) λσ2 H2=>tb {D with nx:=Pv (i+1),ct:=Pv (i+1),bk:=D.nx} σ2 H2)(hd:∀σ H,Pv xs.length σ H->D.nx σ H) :
  ∃W:Nat->Nat->St->Hp->Prop,(∃m,W 0 m σ H)/\∀i m σ H,W i m σ H ->
   ((Ite K a).stop i H/\D.nx σ H)\/((Ite K a).go i H/\∃N:St->Hp->Prop,(∀σ' H',N σ' H'->∃m',m'<m/\W (i+1) m' σ' H')/\∀x H',(Ite K a).yld i H x H'->g x σ H' λσ2 H2=>tb {D with nx:=N,ct:=N,bk:=D.nx} σ2 H2):=by
 refine⟨λi m σ H=>m=xs.length-i/\i<=xs.length/\Pv i σ H,⟨xs.length,by simp,r8 _,h0⟩,?_⟩;rintro i m σ H ⟨rfl,hi,p⟩;have q:=hl i σ H hi p
 by_cases hlt:i<xs.length
 ·refine .inr ⟨⟨xs,xs[i],q,by simp[hlt]⟩,Pv (i+1),λσ' H' p'=>⟨xs.length-(i+1),by omega,rfl,hlt,p'⟩,λx H' y=>?_⟩;obtain⟨T,z,hT,e1,e2,y⟩:=y;subst e1 e2;exact hs i z σ _ T (y xs q) hT p
 ·have e:i=xs.length:=by omega
  subst e;exact .inl ⟨⟨xs,q,qG _⟩,hd σ H p⟩
def rInS(neg:Bool):R2:=λx y H Q=>∃(c:Nat) (j:Str),x=.str ⟨#[c]⟩/\y=.str j/\Q (.bl (if neg=true then !decide (c∈j.cps.toList)else decide (c∈j.cps.toList))) H
theorem qeK{X:Cx}:OpR X (compareOp .In) (rInS false):=by
 intro pins s σ H x y v u Q I rx ry h;obtain⟨c,j,rfl,rfl,q⟩:=h;refine op_in_str pins s σ H _ _ v u Q I rx ry ⟨_,j,rfl,rfl,?_⟩;rw[StrLaws.found_one];exact q
section
variable{X:Cx}
theorem call_lenSetS:qc8 X (.builtin "len") (λxs H Q=>∃(d:Addr) (ks:List Str),xs=[.ref d]/\H d=some (setS X.w d ks)/\Q (.int ks.length) H):=by
 intro pins s σ H xs us Q I r h;obtain⟨d,ks,rfl,hd,q⟩:=h;obtain⟨u,rfl,rx⟩:=qd2 r;cases rx;obtain⟨x,_⟩:=I.hok d _ hd;obtain⟨o,es,ep,t,ho,hex,hdt,hf,_,_,hb,us,sa,pm⟩:=x;have hn:es.size=ks.length:=by
  have h1:=sa.length;have h2:=pm.length_eq;rw[qA,xC]at h1;omega
 refine call_len_set ho hex hdt hf (by unfold scanBound at hb;omega) ?_;exact⟨.int ks.length,H,I.tok _,⟨_,by rw[hn]⟩,q⟩
theorem call_rng1:qc8 X (.type "range") (λxs H Q=>∃n:Nat,xs=[.int n]/\n<=1000000/\∀r,H r=none->Q (.ref r) (upd H r (.rng 0 n))):=by
 intro pins s σ H xs us Q I r h;obtain⟨n,rfl,hn,q⟩:=h;obtain⟨u,rfl,t,rfl⟩:=qd2 r;refine call_range_1 ⟨.ref s.heap.objs.size,upd H s.heap.objs.size (.rng 0 n),I.laid (λb o e=>qI _ e) (qG _) ?_,rfl,q _ (I.hok.fresh (qG _))⟩;exact⟨_,_,_,rB _ rfl⟩
theorem ints_vals{n:Nat}{acc:Array Value}(h:ItemsOf (λ(i:Nat) (v:Value)=>∃t,v=Value.int ((0:Int)+i*1) t) acc n):Vals ((Bk.nums n).map V.int) acc.toList:=by
 obtain⟨h1,h2⟩:=h;have:∀(l:List Value) (k:Nat),(∀j v,l[j]?=some v->∃t,v=Value.int (((k+j:Nat):Int)) t)->Vals (((List.range' k l.length).map λ(i:Nat)=>(i:Int)).map V.int) l:=by
  intro l
  induction l with
  | nil=>intro k _;exact .nil
  | cons v l ih =>
    intro k hk
    obtain⟨t,e⟩:=hk 0 v rfl
    refine .cons ⟨t,by rw[e];rfl⟩ (ih (k+1) λj w hw=>?_)
    obtain⟨t,e⟩:=hk (j+1) w (by simpa using hw)
    exact⟨t,by rw[e];congr 2;omega⟩
 have hl:acc.toList.length=n:=by rw[xC];exact h1
 have:=this acc.toList 0 λj v hv=>by
  obtain⟨t,e⟩:=h2 j v (by simpa using hv);exact⟨t,by rw[e];congr 1;omega⟩
 rw[hl]at this;unfold Bk.nums;rw[List.range_eq_range'];exact this
theorem call_list_rng(hc:X.calm=true):qc8 X (.type "list") (λxs H Q=>∃(r:Addr) (n:Nat),xs=[.ref r]/\n<=1000000/\H r=some (.rng 0 n)/\∀l,H l=none->Q (.ref l) (upd H l (.lst ((Bk.nums n).map V.int)))):=by
 intro pins s σ H xs us Q I r h;obtain⟨a,n,rfl,hn,ha,q⟩:=h;obtain⟨u,rfl,rx⟩:=qd2 r;cases rx;obtain⟨t,u,v,e⟩:∃t u v,s.heap.get? a=some {cls:=.type "range",data:=.fields #[.int 0 t,.int n u,.int 1 v]}:=I.hok a _ ha;refine call_list_range (n:=n) (I.ok.hd hc) (a:=0) (b:=n) (c:=1) e (small_one (by omega) (by omega) (by omega) (by omega)) (by rw[rangeSize_one];split<;>omega) (by omega) λh' tk acc c' kp e' it=>?_
 refine⟨.ref s.heap.objs.size,upd H s.heap.objs.size (.lst ((Bk.nums n).map V.int)),I.laid kp (qG _) ?_,rfl,q _ (I.hok.fresh (qG _))⟩;have hl:((Bk.nums n).map V.int).length=n:=by simp[Bk.nums]
 have hz:n<=sizeLine:=by
  have:sizeLine=16777216:=by decide
  omega
 exact⟨by rw[hl];exact hz,acc.toList,c',ints_vals it,by simpa using e'⟩
structure KDict(P:Program)(w:World)(K:W.Frag)(a:Addr)(kvs:List (Key×Value)):Prop where
 ex:∃o es ep,K.lookup a=some o/\o.ExactDict/\o.data=.dict es ep/\KeysOf (qbg P w) es/\Pairs (qbg P w) es.toList kvs/\(kvs.map (·.1)).Nodup
def rIxD(P:Program)(w:World)(K:W.Frag):R2:=λx y H Q=>∃(a:Addr) (k:Str) (kvs:List (Key×Value)) (u:Value) (v:V),x=.ref a/\y=.str k/\KDict P w K a kvs/\valueAt kvs (.inr k)=some u/\RelV v u/\Q v H
theorem ix_kdict{X:Cx}:IxR X (rIxD X.prog X.w X.K):=by
 intro value slice pins s σ H x y v u Q I rx ry h hs;obtain⟨a,k,kvs,z,zv,rfl,rfl,⟨o,es,ep,lk,ed,dt,ko,pr,nd⟩,hv,rz,q⟩:=h;cases rx;obtain⟨t,rfl⟩:=ry;have ho:s.heap.get? a=some o:=I.bk a o (I.mod.kin a o lk);have dd:s.heap.DictOf (qbg X.prog X.w) a kvs:=⟨o,es,ep,ho,ed,dt,ko,pr,nd⟩;have fin:∀s',Inv X pins σ H s'->EP X pins σ Q z s':=λs' I'=>⟨zv,H,I',rz,q⟩
 exact vH (x:=z) dd.typeIs PySem.F.slot_dict_getitem.lookup
  (wpAny_getItem_of (Q:=λr s'=>r=z/\EP X pins σ Q r s') (qaU _ _ _ _) dd.mapOf hv ⟨rfl,fin _ (I.tok _)⟩) hs
def repS(z:Str)(n:Nat):Str:=⟨(List.replicate n z.cps).foldl (·++ ·) #[]⟩
def rMulS:R2:=λx y H Q=>∃(z:Str) (n:Nat),x=.str z/\y=.int n/\z.length=1/\n<=1000/\Q (.str (repS z n)) H
theorem qgW{α:Type}(a:Array α):∀(n:Nat) (acc:Array α),((List.replicate n a).foldl (·++ ·) acc).size=acc.size+n*a.size
 | 0,acc=>by simp
 | n + 1, acc => by
   rw[rZ,xY,qgW a n,Array.size_append,Nat.succ_mul]
   omega
theorem qgl(z:Str)(n:Nat):(repS z n).length=n*z.length:=by
 show((List.replicate n z.cps).foldl (·++ ·) #[]).size=_;rw[qgW];simp;rfl
theorem op_mulS:OpR X (binaryOp .Mult) rMulS:=by
 intro pins s σ H x y v u Q I rx ry h;obtain⟨z,n,rfl,rfl,hz,hn,q⟩:=h;obtain⟨t,rfl⟩:=rx;obtain⟨t',rfl⟩:=ry;refine PySem.P.mul_str ?_ ?_ ?_ ?_
 ·simp;omega
 ·intro h1 h2 h3;rw[hz]at h3;have:(1:Int)<=(2 ^ 63-1) / (n:Int):=by
   rw[Int.le_ediv_iff_mul_le (by omega)];omega
  omega
 ·intro h1 h2;rw[hz];unfold Builtin.Str.tooLong sizeLine
  exact decide_eq_false (by have : (2 : Nat) ^ 24 = 16777216 := by decide
                            simp;omega)
 ·by_cases h1:(n:Int)<1
  ·rw[if_pos h1];have e:n=0:=by omega
   subst e;exact⟨by decide,⟨.str (repS z 0),H,I.tok _,⟨_,rfl⟩,q⟩⟩
  ·rw[if_neg h1]
   by_cases h2:(((n:Int) == 1) || z.length == 0)=true
   ·rw[if_pos h2];have e:n=1:=by
     rw[hz]at h2;simp at h2;omega
    subst e;have ez:repS z 1=z:=by
     unfold repS;simp
    rw[ez]at q;exact⟨.str z,H,I,⟨_,rfl⟩,q⟩
   ·rw[if_neg h2];refine⟨?_,⟨.str (repS z n),H,I.tok _,⟨_,rfl⟩,q⟩⟩;show(repS z n).length<=sizeLine;rw[qgl,hz];have:sizeLine=16777216:=by decide
    omega
theorem strs_of:∀{zs:List Str} {us:List Value},Vals (zs.map V.str) us->∃l:List (Str×Tok),us=strValues l/\l.map (·.1)=zs
 | [],_,.nil=>⟨[],rfl,rfl⟩
 | z :: zs, _, .cons ⟨t, h⟩ r => by
   obtain⟨l,e1,e2⟩:=strs_of r
   subst h e1
   exact⟨(z,t)::l,rfl,by rw[rH,e2]⟩
theorem qhB{B:Nat}:∀{zs:List Str},(∀z∈zs,z.length<=B)->(zs.map (·.length)).sum<=zs.length*B
 | [],_=>by simp
 | z :: r, h => by
   have h1:=h z qJ
   have h2:=qhB (zs:=r) λy hy=>h y (qN _ hy)
   simp only[List.map_cons,List.sum_cons,List.length_cons,Nat.succ_mul]
   omega
def rJoin(K:W.Frag):V->List V->Hp->VK->Prop:=λx xs H Q=>∃(sep:Str) (p:Addr) (zs:List Str),x=.str sep/\xs=[.ref p]/\SqL K H p (zs.map V.str)/\(∀z∈zs,z.length<=5000)/\zs.length<=1000/\sep.length<=10/\Q (.str (Str.join sep zs)) H
theorem mt_join:MtR X "str.join" (rJoin X.K):=by
 intro pins s σ H x xs v us Q I rx rv h;obtain⟨sep,p,zs,rfl,rfl,hq,hb,hn,hs,q⟩:=h;obtain⟨t,rfl⟩:=rx;obtain⟨u,rfl,ru⟩:=Vals.one rv;cases ru;obtain⟨its,rv,pl,hz⟩:=I.list hq;obtain⟨l,e1,e2⟩:=strs_of rv;have hj:Txt.join sep zs=Str.join sep zs:=StrLaws.glued_eq_join sep zs;refine PySem.SC.join (l:=l) (texts:=zs) (by rw[<-e1];exact pl.isList) e2 (joinOk_of ?_) λt' k=>⟨.str (Txt.join sep zs),H,I.tok k,⟨_,rfl⟩,by rw[hj];exact q⟩
 have h1:=qhB hb;have h2:zs.length*sep.length<=1000*10:=Nat.mul_le_mul hn hs;have h3:zs.length*5000<=1000*5000:=yS _ hn;omega
end
end L2
namespace Gen
open PySem L2 Bk
def qaI(ds:List Nd)(n:Int)(i:Nat):List Int:=((List.range i).filter λj=>decide (ds[j]?.map Nd.e=some n)).map λ(j:Nat)=>(j:Int)
theorem qbx{ds:List Nd}{n:Int}{i:Nat}{d:Nd}(h:ds[i]?=some d)(e:d.e=n):qaI ds n (i+1)=qaI ds n i++[(i:Int)]:=by
 unfold qaI;rw[vK,rT,qM];simp[h,e]
theorem qb8{ds:List Nd}{n:Int}{i:Nat}{d:Nd}(h:ds[i]?=some d)(e:¬d.e=n):qaI ds n (i+1)=qaI ds n i:=by
 unfold qaI;rw[vK,rT,qM];simp[h,e]
theorem qcS(ds:List Nd)(n:Int)(i:Nat):(qaI ds n i).length<=i:=by
 unfold qaI;rw[qA];exact qR (yC ..) (by simp)
def qdb(C:Addr):Sp:=λvs H Q E=>∃(p:Addr) (n:Int) (ds:List Nd) (N:Addr->Prop),vs=[.ref p,.int n]/\BookAt N H p ds/\ds.length<=1000/\n.natAbs<10 ^ 50 /\
 ((¬ (0<=n/\n < ds.length)/\∀ H',Same H H'->E (.ref C) none H') \/
  ((0<=n/\n<ds.length)/\∀l H',H l=none->Same H H'->H' l=some (.lst ((qaI ds n ds.length).map V.int))->Q (.ref l) H'))
theorem qiO{H:Hp}:∀(xs:List Int),DAll H (xs.map V.int) (xs.map PySem.W.Dat.int)
 | []=>.nil
 | x::l=>.cons (.int x) (qiO l)
theorem qh1(xs:List Int):PySem.W.kqdOk 9 (.list (xs.map PySem.W.Dat.int))=true:=by
 simp only[PySem.W.kqdOk,List.all_eq_true,List.mem_map];rintro x ⟨d,hd,rfl⟩;rfl
end Gen
namespace Bk
open PySem L2 Gen
abbrev T(x:String):Str:=Str.ofString x
def qce(t:Int):Str:=repS (T "*") t.toNat
def thS:Th->Str
 | .int n=>T (toString n)
 | .tri .note _ _=>T "{}"
 | .tri .page (.inl n) t=>qce t++T "{" ++ n++T "}"
 | .tri .word (.inl w) t=>qce t++w
 | _=>noName
def w1(d:Nd):List Str:=if d.nm=noName then[]else[T "#" ++ d.nm]
def w2(d:Nd):List Str:=d.mks.map (T "." ++ ·)
def w3(d:Nd):List Str:=if d.st.length>0 then T "|" :: d.st.map thS else[]
def qcv(d:Nd):Str:=Str.join (T " ") (((d.k.s::w1 d)++w2 d)++w3 d)
theorem qdt(s x:Str):Str.join s [x]=x:=rfl
theorem qcy(s x y:Str)(r:List Str):Str.join s (x::y::r)=x++s++Str.join s (y::r):=rfl
inductive Lev(ds:List Nd):Nat->Nat->Prop
 | top {i:Nat} {d:Nd}:ds[i]?=some d->d.e=-1->Lev ds i 0
 | up {i j l:Nat} {d:Nd}:ds[i]?=some d->d.e=(j:Int)->j<i->Lev ds j l->Lev ds i (l+1)
theorem qc6{t:Int}(h1:t<=3):(qce t).length<=3:=by
 unfold qce;rw[qgl,show(T "*").length=1 by ac_rfl];omega
theorem qhP{n:Int}(h:n.natAbs<10 ^ 100):(T (toString n)).length<=1921:=by
 show(Str.ofString (toString n)).length<=1921;rw[PySem.ofString_length];exact PySem.int_text_length_le (k:=1920) (by decide) (qcs h)
theorem pc_len{x:Th}(h:PcOk x):(thS x).length<=1921:=by
 cases x with
 | int n=>cases h
 | tri s x t =>
   cases s<;>cases x<;>first | (exfalso;exact h) | skip
   · have h1:=h.1.2.1
     have h2:=qc6 h.2.2
     show(qce t++_).length<=1921
     rw[qaz]
     omega
   · have h1:=h.1.2.1
     have h2:=qc6 h.2.2
     show(qce t++T "{" ++ _++T "}").length<=1921
     rw[qaz,qaz,qaz,show(T "{").length=1 by ac_rfl,show(T "}").length=1 by ac_rfl]
     omega
   · show(T "{}").length<=1921
     ac_rfl
theorem qeh{n:Int}(h1:1<=n)(h2:n<=2000):n.natAbs<10 ^ 100:=qX (show n.natAbs<10000 by omega) (by ac_rfl)
theorem qgw{k:Kd}{l:List Th}(h:Stuff k l):l.length<=60/\∀x∈l,(thS x).length<=1921:=by
 cases k<;>first
  | exact⟨h.2.2,λx hx=>pc_len (h.1 x hx)⟩
  | (obtain ⟨a,b,rfl,a1,a2,b1,b2⟩:=h
     refine⟨by show 2<=60;decide,λx hx=>?_⟩
     rcases qO.mp hx with rfl | hx
     · exact qhP (qeh a1 a2)
     · have:x=.int b:=(by simpa using hx)
       subst this
       exact qhP (qeh b1 b2))
  | (have:l=[]:=h
     subst this
     exact⟨by decide,λx hx=>nomatch hx⟩)
theorem qgU{B:Nat}(l:List Str)(h:∀x∈l,x.length<=B):(Str.join (T " ") l).length<=l.length*B+l.length:=by
 have h1:=StrLaws.join_length_le (T " ") l;have h2:=qhB h;rw[show(T " ").length=1 by ac_rfl]at h1;omega
theorem kd_len(k:Kd):k.s.length<=7:=by cases k<;>ac_rfl
theorem qim{n:Str}(h:n=noName\/Name n):n.length<=8:=by
 rcases h with rfl | h
 ·ac_rfl
 ·exact h.2.1
end Bk
namespace Gen
open PySem L2 Bk
structure Nums(mg:Str->Option Value):Prop where
 elder:∃t,mg "ELDER" = some (.int 0 t)
 kind:∃t,mg "KIND" = some (.int 1 t)
 name:∃t,mg "NAME" = some (.int 2 t)
 marks:∃t,mg "MARKS" = some (.int 3 t)
 stuff:∃t,mg "STUFF" = some (.int 4 t)
 sort:∃t,mg "SORT" = some (.int 0 t)
 thing:∃t,mg "THING" = some (.int 1 t)
 tone:∃t,mg "TONE" = some (.int 2 t)
def spPiece:Sp:=λvs H Q _=>∃(a:Addr) (s:So) (x:Sum Str Int) (t:Int),vs=[.ref a]/\H a=some (.tup [.str s.s,thV x,.int t])/\PcOk (.tri s x t)/\Q (.str (thS (.tri s x t))) H
def spStuff:Sp:=λvs H Q _=>∃(k:Kd) (s:Addr) (st:List Th) (N:Addr->Prop),vs=[.str k.s,.ref s]/\StAt N H s st/\Stuff k st/\st.length>0/\∀l H',H l=none->Same H H'->H' l=some (.lst ((st.map thS).map V.str))->Q (.ref l) H'
def spNode:Sp:=λvs H Q _=>∃(a:Addr) (d:Nd) (N:Addr->Prop),vs=[.ref a]/\NdAt N H a d/\Form d/\∀H',Same H H'->Q (.str (qcv d)) H'
def gtS(l:Nat):Str:=repS (T ">") l
def qbJ(L:Nat->Nat)(ds:List Nd)(i:Nat):List Str:=(List.range i).map λj=>match ds[j]? with
 | some d=>gtS (L j)++qcv d
 | none=>noName
theorem rows_step{L:Nat->Nat}{ds:List Nd}{i:Nat}{d:Nd}(h:ds[i]?=some d):qbJ L ds (i+1)=qbJ L ds i++[gtS (L i)++qcv d]:=by
 unfold qbJ;rw[vK,qM];simp[h]
theorem qdG(L:Nat->Nat)(ds:List Nd)(i:Nat):(qbJ L ds i).length=i:=by simp[qbJ]
theorem qhy{L:Nat->Nat}{ds:List Nd}{n i:Nat}{d:Nd}(hi:i<n)(h:ds[i]?=some d):(qbJ L ds n)[i]?=some (gtS (L i)++qcv d):=by
 unfold qbJ;rw[qP,uJ hi];simp[h]
def Levs(ds:List Nd)(L:Nat->Nat):Prop:=∀i,i<ds.length->Lev ds i (L i)/\L i<=i
def spRows:Sp:=λvs H Q _=>∃(p:Addr) (ds:List Nd) (L:Nat->Nat) (N:Addr->Prop),vs=[.ref p]/\BookAt N H p ds/\ds.length<=1000/\(∀d∈ds,Form d)/\Levs ds L/\∀l H',H l=none->Same H H'->H' l=some (.lst ((qbJ L ds ds.length).map V.str))->Q (.ref l) H'
theorem qd6{H H':Hp}{x:Addr}(hx:H x=none)(s:Same H H')(o:HO):Same H (upd H' x o):=λb u e=>by
 rw[qax (qam e hx)];exact s b u e
theorem sot(k k':So):decide (V.str k.s=V.str k'.s)=decide (k=k'):=by
 by_cases h:k=k'
 ·rw[qB h,h];exact qB rfl
 ·rw[qC h];refine qC λz=>h ?_
  have:=V.str.inj z;rw[So.inj]at this;exact this
theorem nmt(x:Str):decide (V.str x=V.str (Str.ofString ""))=decide (x=noName):=by
 by_cases h:x=noName
 ·rw[qB h,h];exact qB rfl
 ·rw[qC h];exact qC λz=>h (V.str.inj z)
theorem qbH{α β:Type}{F:α->β->Prop}{as:List α}{ds:List β}(h:Paired F as ds){i:Nat}{a:α}(e:as[i]?=some a):∃d,ds[i]?=some d/\F a d:=by
 induction h generalizing i with
 | nil=>cases e
 | @cons a b l1 l2 q t ih =>
   cases i with
   | zero=>cases e;exact⟨b,rfl,q⟩
   | succ i=>exact ih (by simpa using e)
theorem qfM(d:Nd)(h:Form d):(((d.k.s::w1 d)++w2 d)++w3 d).length<=67/\∀x∈((d.k.s::w1 d)++w2 d)++w3 d,x.length<=1921:=by
 have hk:=kd_len d.k;have hn:=qim h.nm;obtain⟨s1,s2⟩:=qgw h.st;have l1:(w1 d).length<=1:=by unfold w1;split<;>simp
 have l2:(w2 d).length<=4:=by unfold w2;rw[qA];exact h.mks.1
 have l3:(w3 d).length<=61:=by unfold w3;split<;>simp<;>omega
 constructor
 ·rw[qH,qH,qT];omega
 ·intro x hx;rcases qW.mp hx with hx | hx
  ·rcases qW.mp hx with hx | hx
   ·rcases qO.mp hx with rfl | hx
    ·omega
    ·unfold w1 at hx
     split at hx
     ·cases hx
     ·have:x=T "#" ++ d.nm:=by simpa using hx
      rw[this,qaz,show(T "#").length=1 by ac_rfl];omega
   ·unfold w2 at hx;obtain⟨m,hm,rfl⟩:=qV.mp hx;have:=(h.mks.2.1 m hm).2.1;rw[qaz,show(T ".").length=1 by ac_rfl];omega
  ·unfold w3 at hx
   split at hx
   ·rcases qO.mp hx with rfl | hx
    ·ac_rfl
    ·obtain⟨m,hm,rfl⟩:=qV.mp hx;exact s2 m hm
   ·cases hx
theorem node_len{d:Nd}(h:Form d):(qcv d).length<=200000:=by
 obtain⟨h1,h2⟩:=qfM d h;have h3:=qgU _ h2;have h4:(((d.k.s::w1 d)++w2 d)++w3 d).length*1921<=67*1921:=yS _ h1;show(Str.join (T " ") (((d.k.s::w1 d)++w2 d)++w3 d)).length<=_;omega
theorem qik(l:Nat):(gtS l).length=l:=by
 unfold gtS;rw[qgl,show(T ">").length=1 by ac_rfl,Nat.mul_one]
end Gen
namespace Bk
open PySem L2 Gen
open PySem.W (Dat kqdOk)
theorem pc_ok8{x:Th}(h:PcOk x):kqdOk 8 (thD x)=true:=by
 cases x with
 | int n=>cases h
 | tri s x t =>
   cases s<;>cases x<;>first | (exfalso;exact h) | skip
   · have:=qfc h.1
     simp[thD,thgD,kqdOk,this,qdz]
   · have:=qcB (.inr h.1)
     simp[thD,thgD,kqdOk,this,qdz]
   · simp[thD,thgD,kqdOk,qdz]
end Bk
namespace Bk
open PySem L2 Gen
def Low(x:Str):Prop:=x.cps.all (·< 128)=true
def greatS:Str:=T "ABCDEFGHIJKLMNOPQRSTUVWXYZ"
def figS:Str:=T "0123456789"
def pointS:Str:=T ".,-;:'()!?"
theorem signs_split:wordSigns=small.cps.toList++(greatS.cps.toList++(figS.cps.toList++pointS.cps.toList)):=by ac_rfl
def qeG(x:Str):Bool:=decide (1<=(x.length:Int)/\(x.length:Int)<=20) && (x.cps.toList.map λc=>decide (c∈wordSigns)).all id
def qdc(x:Str):Bool:=decide (1<=(x.length:Int)/\(x.length:Int)<=8) && (x.cps.toList.map λc=>decide (c∈small.cps.toList)).all id
theorem qfG(c:Nat):c∈small.cps.toList↔qh3 c:=by
 rw[small_is];have all:∀c∈[97,98,99,100,101,102,103,104,105,106,107,108,109,110,111,112,113,114,115,116,117,118,119,120,121,122],97<=c/\c<=122:=by ac_rfl
 have back:∀d<26,97+d∈[97,98,99,100,101,102,103,104,105,106,107,108,109,110,111,112,113,114,115,116,117,118,119,120,121,122]:=by ac_rfl
 refine⟨λh=>all c h,λh=>?_⟩;have h1:=h.1;have h2:=h.2;have:=back (c-97) (by omega)
 rwa [show 97+(c-97)=c by omega]at this
theorem all_map{p:Nat->Bool}{l:List Nat}:(l.map p).all id=true↔∀c∈l,p c=true:=by
 rw[xB];constructor
 ·intro h c hc;exact h _ (qV.mpr ⟨c,hc,rfl⟩)
 ·intro h y hy;obtain⟨c,hc,rfl⟩:=qV.mp hy;exact h c hc
theorem qgT{x:Str}(h:Word x):qeG x=true:=by
 unfold qeG;rw[rG,qY,all_map];exact⟨⟨by have:=h.1;omega,by have:=h.2.1;omega⟩,λc hc=>qB (h.2.2 c hc)⟩
theorem qdk{x:Str}(h:Name x):qdc x=true:=by
 unfold qdc;rw[rG,qY,all_map];exact⟨⟨by have:=h.1;omega,by have:=h.2.1;omega⟩,λc hc=>qB ((qfG c).mpr (h.2.2 c hc))⟩
theorem qcI{x:Str}(h:∀c∈x.cps.toList,c<128):Low x:=by
 unfold Low;rw[yG];intro c hc;exact qB (h c (by simpa using hc))
theorem Word.low{x:Str}(h:Word x):Low x:=qcI λc hc=>word_low c (h.2.2 c hc)
theorem Name.low{x:Str}(h:Name x):Low x:=qcI λc hc=>by have:=(h.2.2 c hc).2;omega
def pieceB:Th->Bool
 | .tri .note (.inr k) t=>decide (0<=k/\k<=60) && decide (0<=t/\t<=0)
 | .tri .word (.inl w) t=>decide (0<=t/\t<=3) && qeG w
 | .tri .page (.inl n) t=>decide (0<=t/\t<=3) && qdc n
 | _=>false
def PcForm:Th->Prop
 | .tri .note (.inr _) _=>True
 | .tri .word (.inl w) _ | .tri .page (.inl w) _ | .tri .sign (.inl w) _=>Low w/\w.length<=1000
 | _=>False
theorem qdw{x:Th}(h:PcOk x):pieceB x=true:=by
 cases x with
 | int n=>cases h
 | tri s x t =>
   cases s<;>cases x<;>first | (exfalso;exact h) | skip
   · show(decide _ && qeG _)=true
     rw[qgT h.1,wT,qY]
     exact h.2
   · show(decide _ && qdc _)=true
     rw[qdk h.1,wT,qY]
     exact h.2
   · show(decide _ && decide _)=true
     rw[rG,qY,qY]
     exact⟨⟨h.1,h.2.1⟩,by rw[h.2.2];exact⟨Int.le_refl _,Int.le_refl _⟩⟩
theorem qeq{x:Th}(h:PcOk x):PcForm x:=by
 cases x with
 | int n=>cases h
 | tri s x t =>
   cases s<;>cases x<;>first | (exfalso;exact h) | skip
   · exact⟨h.1.low,by have:=h.1.2.1;omega⟩
   · exact⟨h.1.low,by have:=h.1.2.1;omega⟩
   · trivial
end Bk
namespace Gen
open PySem L2 Bk
structure Glob(mg:Str->Option Value):Prop where
 sm:∃t,mg "SMALL_LETTERS" = some (.str small t)
 gr:∃t,mg "GREAT_LETTERS" = some (.str greatS t)
 fi:∃t,mg "FIGURES" = some (.str figS t)
 po:∃t,mg "WORD_POINTS" = some (.str pointS t)
 mw:∃t,mg "MOST_WORD_SIGNS" = some (.int 20 t)
 mn:∃t,mg "MOST_NAME_SIGNS" = some (.int 8 t)
 nodes:∃t,mg "MOST_NODES" = some (.int 60 t)
 marks:∃t,mg "MOST_MARKS" = some (.int 4 t)
 pieces:∃t,mg "MOST_PIECES" = some (.int 60 t)
 level:∃t,mg "GREATEST_LEVEL" = some (.int 6 t)
 tone:∃t,mg "GREATEST_TONE" = some (.int 3 t)
 pict:∃t,mg "GREATEST_PICTURE" = some (.int 2000 t)
def spWhole:Sp:=λvs H Q _=>∃v lo hi:Int,vs=[.int v,.int lo,.int hi]/\Q (.bl (decide (lo<=v/\v<=hi))) H
def spWSign:Sp:=λvs H Q _=>∃c:Nat,vs=[.str ⟨#[c]⟩]/\Q (.bl (decide (c∈wordSigns))) H
def spWordB:Sp:=λvs H Q _=>∃x:Str,vs=[.str x]/\Low x/\x.length<=1000/\∀H',Same H H'->Q (.bl (qeG x)) H'
def spNameB:Sp:=λvs H Q _=>∃x:Str,vs=[.str x]/\Low x/\x.length<=1000/\∀H',Same H H'->Q (.bl (qdc x)) H'
def spPieceB:Sp:=λvs H Q _=>∃(a:Addr) (s:So) (x:Sum Str Int) (t:Int),vs=[.ref a]/\H a=some (.tup [.str s.s,thV x,.int t])/\PcForm (.tri s x t)/\∀H',Same H H'->Q (.bl (pieceB (.tri s x t))) H'
end Gen
namespace K10
open PySem L2 Bk Gen
abbrev sIsWhole:Stmt:=top 11
abbrev sIsWordSign:Stmt:=top 12
abbrev sIsWord:Stmt:=top 13
abbrev sIsName:Stmt:=top 14
abbrev sIsPiece:Stmt:=top 42
section
variable{P:Program}{w:World}{K:W.Frag}{mg:Str->Option Value}{base:Heap}
theorem scIsWhole:FnScope ["value", "low", "high"] ["value", "low", "high"] (qaf sIsWhole):=⟨rfl,rfl,rfl,by ac_rfl,rfl,by ac_rfl,by ac_rfl⟩
theorem ok_is_whole{f:Addr}{fd:FuncData}(F:Fun K "is_whole" "is_whole" sIsWhole f fd)(T:Bn mg):FnOk P w K mg base CX0 1 f fd ["value", "low", "high"] spWhole:=by
 refine F.ok scIsWhole (λvs H Q E h=>?_) (λcdv A outer s H vs Q E hr h=>?_)
 ·obtain⟨v,lo,hi,rfl,_⟩:=h;rfl
 ·obtain⟨v,lo,hi,rfl,q⟩:=h;refine⟨_,(qad (qai (qdY (qdn T.isinstance (by rfl) T.int (by rfl) b_int (pv 0)) (qdY (pe_not (qdn T.isinstance (by rfl) T.bool (by rfl) b_bool (pv 0))) (qda (pe_chain op_le op_le (pv 1) (pv 0) (pv 2))))))),?_⟩;refine⟨_,rfl,_,_,_,_,rfl,.int v,⟨_,λu r=>r,k_ii⟩,_,rfl,iteT ?_⟩;refine⟨_,rfl,_,_,_,_,rfl,.int v,⟨_,λu r=>r,k_ib⟩,_,rfl,_,rfl,iteT ?_⟩;refine⟨_,rfl,_,rfl,_,_,rfl,rfl,_,rfl,?_⟩;refine ite2 (λc=>?_) (λc=>?_)
  ·have c':lo<=v:=rL c;refine⟨_,rfl,_,_,rfl,rfl,?_⟩;have e:decide (lo<=v/\v<=hi)=decide (v<=hi):=by simp[c']
   rw[e]at q;exact q
  ·have c':¬lo<=v:=λz=>c (qB z)
   have e:decide (lo<=v/\v<=hi)=false:=by simp[c']
   rw[e]at q;exact q
theorem scIsWordSign:FnScope ["sign"] ["sign"] (qaf sIsWordSign):=⟨rfl,rfl,rfl,by ac_rfl,rfl,by ac_rfl,by ac_rfl⟩
theorem ok_is_word_sign{f:Addr}{fd:FuncData}(F:Fun K "is_word_sign" "is_word_sign" sIsWordSign f fd)(U:Glob mg):FnOk P w K mg base CX0 1 f fd ["sign"] spWSign:=by
 refine F.ok scIsWordSign (λvs H Q E h=>?_) (λcdv A outer s H vs Q E hr h=>?_)
 ·obtain⟨c,rfl,_⟩:=h;rfl
 ·obtain⟨c,rfl,q⟩:=h;obtain⟨_,g_SMALL_LETTERS⟩:=U.sm;obtain⟨_,g_GREAT_LETTERS⟩:=U.gr;obtain⟨_,g_FIGURES⟩:=U.fi;obtain⟨_,g_WORD_POINTS⟩:=U.po;refine⟨_,(qad (qai (qhJ (qaW qeK (pv 0) (qae (v:=.str (Str.ofString "abcdefghijklmnopqrstuvwxyz")) (by rfl) g_SMALL_LETTERS ⟨_,rfl⟩) (by with_unfolding_all rfl)) (qhJ (qaW qeK (pv 0) (qae (v:=.str (Str.ofString "ABCDEFGHIJKLMNOPQRSTUVWXYZ")) (by rfl) g_GREAT_LETTERS ⟨_,rfl⟩) (by with_unfolding_all rfl)) (qhJ (qaW qeK (pv 0) (qae (v:=.str (Str.ofString "0123456789")) (by rfl) g_FIGURES ⟨_,rfl⟩) (by with_unfolding_all rfl)) (qda (qaW qeK (pv 0) (qae (v:=.str (Str.ofString ".,-;:'()!?")) (by rfl) g_WORD_POINTS ⟨_,rfl⟩) (by with_unfolding_all rfl)))))))),?_⟩;rw[signs_split]at q;refine⟨_,rfl,c,small,rfl,rfl,_,rfl,?_⟩;rw[if_neg qL]
  by_cases h1:c∈small.cps.toList
  ·rw[qB h1];rw[qB (xX _ h1)]at q;exact iteT q
  rw[qC h1];refine iteF ⟨_,rfl,c,greatS,rfl,rfl,_,rfl,?_⟩;rw[if_neg qL]
  by_cases h2:c∈greatS.cps.toList
  ·rw[qB h2];rw[qB (qZ _ (xX _ h2))]at q;exact iteT q
  rw[qC h2];refine iteF ⟨_,rfl,c,figS,rfl,rfl,_,rfl,?_⟩;rw[if_neg qL]
  by_cases h3:c∈figS.cps.toList
  ·rw[qB h3];rw[qB (qZ _ (qZ _ (xX _ h3)))]at q;exact iteT q
  rw[qC h3];refine iteF ⟨_,rfl,c,pointS,rfl,rfl,?_⟩;rw[if_neg qL];have e:decide (c∈small.cps.toList++(greatS.cps.toList++(figS.cps.toList++pointS.cps.toList)))=decide (c∈pointS.cps.toList):=by
   simp only[List.mem_append,h1,h2,h3,false_or]
  rw[e]at q;exact q
theorem scIsWord:FnScope ["value"] ["value"] (qaf sIsWord):=⟨rfl,rfl,rfl,by ac_rfl,rfl,by ac_rfl,by ac_rfl⟩
theorem ok_is_word{f:Addr}{fd:FuncData}(F:Fun K "is_word" "is_word" sIsWord f fd)(T:Bn mg)(U:Glob mg)(F_is_word_sign:Fx P w K mg base CX0 1 "is_word_sign" ["sign"] spWSign):FnOk P w K mg base CX0 2 f fd ["value"] spWordB:=by
 refine F.ok scIsWord (λvs H Q E h=>?_) (λcdv A outer s H vs Q E hr h=>?_)
 ·obtain⟨x,rfl,_⟩:=h;rfl
 ·obtain⟨x,rfl,lo,le,q⟩:=h;obtain⟨_,g_MOST_WORD_SIGNS⟩:=U.mw;have hr_is_word_sign:=hr;have sz:sizeLine=16777216:=by decide
  have xs:x.cps.size=x.length:=rfl;have xl:x.cps.toList.length=x.length:=xC;refine⟨_,(qab (qaH (PW.pt (qdv (qbj (qaZ (qdn T.isinstance (by rfl) T.str (by rfl) b_str (pv 0)))) (qcr (qbj (qcF op_le op_le qag (qal call_len_str (by rfl) T.len b_len (qaa (pv 0) pa_nil)) (qae (v:=.int 20) (by rfl) g_MOST_WORD_SIGNS ⟨_,rfl⟩)))))) (qad (qai qdP)) pss_nil)
   (qad (qai (qal (qco (by rfl)) (by rfl) T.all b_all (qaa (qba (own:=["sign"]) (by rfl) (CompScope.plain (by rfl) (by ac_rfl) (by ac_rfl) (by ac_rfl)) (qhO (pv 0)) (λcl C s2 H2 fp=>(qaw (i:=0) (by show(["sign"]:List Str).Nodup;ac_rfl) (by rfl) (by trivial) (by trivial))) (λcl C s2 H2 fp=>qbn) (λcl C s2 H2 fp=>(qat F_is_word_sign hr_is_word_sign (by rfl) qay (qaa (pv 0) pa_nil)))) pa_nil))))),?_⟩
  refine⟨_,rfl,_,_,_,_,rfl,.str x,⟨_,λu r=>r,k_ss⟩,_,rfl,iteF ?_⟩;refine⟨_,rfl,x,rfl,by omega,_,_,rfl,rfl,_,rfl,?_⟩;have no:¬(1<=(x.length:Int)/\(x.length:Int)<=20)->Q (.bl false) H:=λc=>by
   have:=q H (Same.refl H);unfold qeG at this;rw[qC c,uL]at this;exact this
  refine ite2 (λc1=>?_) (λc1=>?_)
  rotate_left
  ·refine⟨_,rfl,iteT ?_⟩;exact no λz=>c1 (qB z.1)
  refine⟨_,_,rfl,rfl,_,rfl,?_⟩
  by_cases c:1<=(x.length:Int)/\(x.length:Int)<=20
  rotate_left
  ·rw[qC (λz=>c ⟨rL c1,z⟩:¬(x.length:Int)<=20)];exact iteT (no c)
  rw[qB c.2];refine iteF ?_;refine⟨_,rfl,x,rfl,lo,qfs (λi ys σ' H'=>H'=H/\ys=((x.cps.toList.take i).map λc=>decide (c∈wordSigns)).map V.bl/\∃z,σ'=[z]) (by omega) ⟨rfl,rfl,none,rfl⟩ ?_ ?_ ?_⟩
  ·rintro i ys σ' H' hi ⟨rfl,rfl,_⟩;rw[qA,qA,rN];exact yM _ _
  ·rintro i c ys σ' H' hc ⟨rfl,rfl,z,rfl⟩;refine⟨_,rfl,c,rfl,rfl,?_,_,rfl⟩;rw[xF,xF,qcc (V.bl∘λc=>decide (c∈wordSigns)) (by simpa using hc)];rfl
  ·rintro ys σ' H' ⟨rfl,rfl,_⟩ D hD;have eT:x.cps.toList.take x.cps.size=x.cps.toList:=rQ (by omega);rw[eT];refine⟨D,_,rfl,SqL.of upd_same,?_⟩;have:=q _ (qac hD (.lst ((x.cps.toList.map λc=>decide (c∈wordSigns)).map V.bl)));unfold qeG at this;rw[qB c,xP]at this;exact this
theorem scIsName:FnScope ["value"] ["value"] (qaf sIsName):=⟨rfl,rfl,rfl,by ac_rfl,rfl,by ac_rfl,by ac_rfl⟩
theorem ok_is_name{f:Addr}{fd:FuncData}(F:Fun K "is_name" "is_name" sIsName f fd)(T:Bn mg)(U:Glob mg):FnOk P w K mg base CX0 1 f fd ["value"] spNameB:=by
 refine F.ok scIsName (λvs H Q E h=>?_) (λcdv A outer s H vs Q E hr h=>?_)
 ·obtain⟨x,rfl,_⟩:=h;rfl
 ·obtain⟨x,rfl,lo,le,q⟩:=h;obtain⟨_,g_MOST_NAME_SIGNS⟩:=U.mn;obtain⟨_,g_SMALL_LETTERS⟩:=U.sm;have sz:sizeLine=16777216:=by decide
  have xs:x.cps.size=x.length:=rfl;have xl:x.cps.toList.length=x.length:=xC;refine⟨_,(qab (qaH (PW.pt (qdv (qbj (qaZ (qdn T.isinstance (by rfl) T.str (by rfl) b_str (pv 0)))) (qcr (qbj (qcF op_le op_le qag (qal call_len_str (by rfl) T.len b_len (qaa (pv 0) pa_nil)) (qae (v:=.int 8) (by rfl) g_MOST_NAME_SIGNS ⟨_,rfl⟩)))))) (qad (qai qdP)) pss_nil)
   (qad (qai (qal (qco (by rfl)) (by rfl) T.all b_all (qaa (qba (own:=["sign"]) (by rfl) (CompScope.plain (by rfl) (by ac_rfl) (by ac_rfl) (by ac_rfl)) (qhO (pv 0)) (λcl C s2 H2 fp=>(qaw (i:=0) (by show(["sign"]:List Str).Nodup;ac_rfl) (by rfl) (by trivial) (by trivial))) (λcl C s2 H2 fp=>qbn) (λcl C s2 H2 fp=>(qaW qeK (pv 0) (qae (v:=.str (Str.ofString "abcdefghijklmnopqrstuvwxyz")) (by rfl) g_SMALL_LETTERS ⟨_,rfl⟩) (by with_unfolding_all rfl)))) pa_nil))))),?_⟩
  refine⟨_,rfl,_,_,_,_,rfl,.str x,⟨_,λu r=>r,k_ss⟩,_,rfl,iteF ?_⟩;refine⟨_,rfl,x,rfl,by omega,_,_,rfl,rfl,_,rfl,?_⟩;have no:¬(1<=(x.length:Int)/\(x.length:Int)<=8)->Q (.bl false) H:=λc=>by
   have:=q H (Same.refl H);unfold qdc at this;rw[qC c,uL]at this;exact this
  refine ite2 (λc1=>?_) (λc1=>?_)
  rotate_left
  ·refine⟨_,rfl,iteT ?_⟩;exact no λz=>c1 (qB z.1)
  refine⟨_,_,rfl,rfl,_,rfl,?_⟩
  by_cases c:1<=(x.length:Int)/\(x.length:Int)<=8
  rotate_left
  ·rw[qC (λz=>c ⟨rL c1,z⟩:¬(x.length:Int)<=8)];exact iteT (no c)
  rw[qB c.2];refine iteF ?_;refine⟨_,rfl,x,rfl,lo,qfs (λi ys σ' H'=>H'=H/\ys=((x.cps.toList.take i).map λc=>decide (c∈small.cps.toList)).map V.bl/\∃z,σ'=[z]) (by omega) ⟨rfl,rfl,none,rfl⟩ ?_ ?_ ?_⟩
  ·rintro i ys σ' H' hi ⟨rfl,rfl,_⟩;rw[qA,qA,rN];exact yM _ _
  ·rintro i c ys σ' H' hc ⟨rfl,rfl,z,rfl⟩;refine⟨_,rfl,c,small,rfl,rfl,rfl,?_,_,rfl⟩;rw[xF,xF,qcc (V.bl∘λc=>decide (c∈small.cps.toList)) (by simpa using hc)];rfl
  ·rintro ys σ' H' ⟨rfl,rfl,_⟩ D hD;have eT:x.cps.toList.take x.cps.size=x.cps.toList:=rQ (by omega);rw[eT];refine⟨D,_,rfl,SqL.of upd_same,?_⟩;have:=q _ (qac hD (.lst ((x.cps.toList.map λc=>decide (c∈small.cps.toList)).map V.bl)));unfold qdc at this;rw[qB c,xP]at this;exact this
theorem scIsPiece:FnScope ["piece"] ["piece"] (qaf sIsPiece):=⟨rfl,rfl,rfl,by ac_rfl,rfl,by ac_rfl,by ac_rfl⟩
theorem ok_is_piece{f:Addr}{fd:FuncData}(F:Fun K "is_piece" "is_piece" sIsPiece f fd)(T:Bn mg)(U:Glob mg)(N:Nums mg)(F_is_whole:Fx P w K mg base CX0 1 "is_whole" ["value", "low", "high"] spWhole)(F_is_word:Fx P w K mg base CX0 2 "is_word" ["value"] spWordB)(F_is_name:Fx P w K mg base CX0 1 "is_name" ["value"] spNameB):FnOk P w K mg base CX0 3 f fd ["piece"] spPieceB:=by
 refine F.ok scIsPiece (λvs H Q E h=>?_) (λcdv A outer s H vs Q E hr h=>?_)
 ·obtain⟨a,so,x,t,rfl,_⟩:=h;rfl
 ·obtain⟨a,so,x,t,rfl,ha,fm,q⟩:=h;obtain⟨_,g_SORT⟩:=N.sort;obtain⟨_,g_THING⟩:=N.thing;obtain⟨_,g_TONE⟩:=N.tone;obtain⟨_,g_MOST_PIECES⟩:=U.pieces;obtain⟨_,g_GREATEST_TONE⟩:=U.tone;have hr_is_whole:Room 1 _:=hr.mono (by decide);have hr_is_name:Room 1 _:=hr.mono (by decide);have hr_is_word:=hr;refine⟨_,(qab (qaH (PW.pt (qdv (qbj (qaZ (qdn T.isinstance (by rfl) T.tuple (by rfl) b_tuple (pv 0)))) (qcr (qak op_ne (qal call_len_seq (by rfl) T.len b_len (qaa (pv 0) pa_nil)) qag (qap _))))) (qad (qai qdP)) pss_nil)
   (qab (qaH (qak op_eq (qan ix_tup (pv 0) (qae (v:=.int 0) (by rfl) g_SORT ⟨_,rfl⟩) (λ_ _=>rfl)) qah (qap _)) (qad (qai (qdY (qat F_is_whole hr_is_whole (by rfl) qay (qaa (qan ix_tup (pv 0) (qae (v:=.int 1) (by rfl) g_THING ⟨_,rfl⟩) (λ_ _=>rfl)) (qaa qag (qaa (qae (v:=.int 60) (by rfl) g_MOST_PIECES ⟨_,rfl⟩) pa_nil)))) (qda (qat F_is_whole hr_is_whole (by rfl) qay (qaa (qan ix_tup (pv 0) (qae (v:=.int 2) (by rfl) g_TONE ⟨_,rfl⟩) (λ_ _=>rfl)) (qaa qag (qaa qag pa_nil)))))))) pss_nil)
   (qab (qaH (qbj (qaZ (qat F_is_whole hr_is_whole (by rfl) qay (qaa (qan ix_tup (pv 0) (qae (v:=.int 2) (by rfl) g_TONE ⟨_,rfl⟩) (λ_ _=>rfl)) (qaa qag (qaa (qae (v:=.int 3) (by rfl) g_GREATEST_TONE ⟨_,rfl⟩) pa_nil)))))) (qad (qai qdP)) pss_nil)
   (qab (qaH (qak op_eq (qan ix_tup (pv 0) (qae (v:=.int 0) (by rfl) g_SORT ⟨_,rfl⟩) (λ_ _=>rfl)) qah (qap _)) (qad (qai (qat F_is_word hr_is_word (by rfl) qay (qaa (qan ix_tup (pv 0) (qae (v:=.int 1) (by rfl) g_THING ⟨_,rfl⟩) (λ_ _=>rfl)) pa_nil)))) pss_nil)
   (qad (qai (qdY (qaW op_eq (qan ix_tup (pv 0) (qae (v:=.int 0) (by rfl) g_SORT ⟨_,rfl⟩) (λ_ _=>rfl)) qah (qap _)) (qda (qat F_is_name hr_is_name (by rfl) qay (qaa (qan ix_tup (pv 0) (qae (v:=.int 1) (by rfl) g_THING ⟨_,rfl⟩) (λ_ _=>rfl)) pa_nil)))))))))),?_⟩
  refine⟨_,rfl,_,_,_,_,rfl,.tup ha,⟨_,λu r=>r,k_tt⟩,_,rfl,iteF ?_⟩;refine⟨_,rfl,a,_,rfl,.inr (SqT.of ha),rfl,_,rfl,iteF ?_⟩;refine⟨_,rfl,a,_,_,_,rfl,rfl,SqT.of ha,rfl,rfl,_,rfl,?_⟩;rw[show decide (V.str so.s=V.str (Str.ofString "note"))=decide (so=.note)from sot so .note];cases so<;>cases x<;>first | (exfalso;exact fm) | skip
  ·-- a word
   refine iteF ?_;refine⟨_,rfl,a,_,_,_,rfl,rfl,SqT.of ha,rfl,t,0,3,rfl,_,rfl,?_⟩
   by_cases c:0<=t/\t<=3
   rotate_left
   ·rw[qC c];refine iteT ?_;have:=q H (Same.refl H);dsimp only[pieceB]at this;rw[qC c,uL]at this;exact this
   rw[qB c];refine iteF ?_;refine⟨_,rfl,a,_,_,_,rfl,rfl,SqT.of ha,rfl,rfl,_,rfl,?_⟩;rw[show decide (V.str So.word.s=V.str (Str.ofString "word"))=decide (So.word=.word)from sot .word .word];refine iteT ?_;refine⟨_,rfl,a,_,_,_,rfl,rfl,SqT.of ha,rfl,_,rfl,fm.1,fm.2,λH' s'=>?_⟩;have:=q H' s';dsimp only[pieceB]at this;rw[qB c,xP]at this;exact this
  ·-- a page
   refine iteF ?_;refine⟨_,rfl,a,_,_,_,rfl,rfl,SqT.of ha,rfl,t,0,3,rfl,_,rfl,?_⟩
   by_cases c:0<=t/\t<=3
   rotate_left
   ·rw[qC c];refine iteT ?_;have:=q H (Same.refl H);dsimp only[pieceB]at this;rw[qC c,uL]at this;exact this
   rw[qB c];refine iteF ?_;refine⟨_,rfl,a,_,_,_,rfl,rfl,SqT.of ha,rfl,rfl,_,rfl,?_⟩;rw[show decide (V.str So.page.s=V.str (Str.ofString "word"))=decide (So.page=.word)from sot .page .word];refine iteF ?_;refine⟨_,rfl,a,_,_,_,rfl,rfl,SqT.of ha,rfl,rfl,_,rfl,?_⟩;rw[show decide (V.str So.page.s=V.str (Str.ofString "page"))=decide (So.page=.page)from sot .page .page];refine iteT ?_;refine⟨_,rfl,a,_,_,_,rfl,rfl,SqT.of ha,rfl,_,rfl,fm.1,fm.2,λH' s'=>?_⟩;have:=q H' s';dsimp only[pieceB]at this;rw[qB c,xP]at this;exact this
  ·-- a note
   rename_i k;refine iteT ?_;refine⟨_,rfl,a,_,_,_,rfl,rfl,SqT.of ha,rfl,k,0,60,rfl,_,rfl,?_⟩;have:=q H (Same.refl H);dsimp only[pieceB]at this
   by_cases c:0<=k/\k<=60
   ·rw[qB c]at this⊢;refine iteT ?_;rw[xP]at this;exact⟨_,rfl,a,_,_,_,rfl,rfl,SqT.of ha,rfl,t,0,0,rfl,this⟩
   ·rw[qC c]at this⊢;exact iteF this
  ·-- another sort
   refine iteF ?_;have qq:=q H (Same.refl H);refine⟨_,rfl,a,_,_,_,rfl,rfl,SqT.of ha,rfl,t,0,3,rfl,_,rfl,?_⟩
   by_cases c:0<=t/\t<=3
   rotate_left
   ·rw[qC c];exact iteT qq
   rw[qB c];refine iteF ?_;refine⟨_,rfl,a,_,_,_,rfl,rfl,SqT.of ha,rfl,rfl,_,rfl,?_⟩;rw[show decide (V.str So.sign.s=V.str (Str.ofString "word"))=decide (So.sign=.word)from sot .sign .word];refine iteF ?_;refine⟨_,rfl,a,_,_,_,rfl,rfl,SqT.of ha,rfl,rfl,_,rfl,?_⟩;rw[show decide (V.str So.sign.s=V.str (Str.ofString "page"))=decide (So.sign=.page)from sot .sign .page];exact iteF qq
end
end K10
namespace Bk
open PySem L2
def eldR(ds:List Nd):Nat->Int->List Int
 | 0,_=>[]
 | m+1,ab=>ab::eldR ds m (match ds[ab.toNat]? with | some d=>d.e | none=>-1)
theorem qdE(ds:List Nd):∀(m:Nat) (ab:Int),(eldR ds m ab).length=m
 | 0,_=>rfl
 | m+1,ab=>by rw[eldR,qT,qdE ds m]
theorem qdq{ds:List Nd}{j m:Nat}{d:Nd}(h:ds[j]?=some d):eldR ds (m+1) (j:Int)=(j:Int)::eldR ds m d.e:=by
 rw[eldR,rM,h]
def RemE(ds:List Nd)(ab:Int)(m:Nat):Prop:=(ab=-1/\m=0)\/∃j k:Nat,ab=j/\Lev ds j k/\m=k+1
theorem qcm{ds:List Nd}{i l:Nat}{d:Nd}(h:Lev ds i l)(e':ds[i]?=some d):RemE ds d.e l:=by
 cases h with
 | top e h=>rw[e']at e;cases e;exact .inl ⟨h,rfl⟩
 | up e h1 h2 h3=>rw[e']at e;cases e;exact .inr ⟨_,_,h1,h3,rfl⟩
theorem Lev.nd{ds:List Nd}{i l:Nat}(h:Lev ds i l):∃d,ds[i]?=some d:=by
 cases h with
 | top e h=>exact⟨_,e⟩
 | up e h1 h2 h3=>exact⟨_,e⟩
theorem same_put{H H':Hp}{L:Addr}{o:HO}(s:Same H H')(h:H L=none):Same H (upd H' L o):=λb u e=>by rw[qax (qam e h)];exact s b u e
end Bk
namespace Gen
open PySem L2 Bk
def spElders:Sp:=λvs H Q _=>∃(p:Addr) (i l:Nat) (d:Nd) (ds:List Nd) (N:Addr->Prop),vs=[.ref p,.int i]/\BookAt N H p ds/\ds[i]?=some d/\Lev ds i l/\l<=999 /\
 ∀(L:Addr) (H':Hp),H L=none->Same H H'->H' L=some (.lst ((eldR ds l d.e).map V.int))->Q (.ref L) H'
def spLevelS:Sp:=λvs H Q _=>∃(p:Addr) (i l:Nat) (ds:List Nd) (N:Addr->Prop),vs=[.ref p,.int i]/\BookAt N H p ds/\Lev ds i l/\l<=999/\∀H',Same H H'->Q (.int l) H'
end Gen
namespace L2
open PySem PySem.Spec PyProof.Rows
section
variable{X:Cx}{CX:CXT}{k:Nat}{ps:List Str}{sp:Sp}{E:XK}{x:Str}{p pos:Pos}
theorem qfy(F:Fx X.prog X.w X.K X.mg X.base CX k x ps sp)(hr:Room k X.A)(hg:Gl X x)(hx:qdV CX X E)(hdb:(x == ("__debug__" : Str))=false:=by decide):PE X (.Call (.Name x p) [] [] pos) (qie sp [] E tNil):=by
 obtain⟨f,fd,G,b,kp,m⟩:=F.ex;exact pe_call0 G hr hg m kp b .nil hx hdb
end
end L2
namespace Bk
open PySem L2
theorem qfj(x:Str)(l:List Str):inV (.str x) (l.map V.str)=decide (x∈l):=by
 by_cases h:x∈l
 ·rw[qB h];unfold inV;rw[wH];exact⟨.str x,yV h,by show(x == x)=true;simp⟩
 ·rw[qC h];unfold inV;rw[v0];intro v hv;obtain⟨y,hy,rfl⟩:=qV.mp hv;show¬(y == x)=true;intro z;exact h ((beq_iff_eq.mp z) ▸ hy)
end Bk
namespace Bk
open PySem L2
open PySem.W (Dat kqdOk)
end Bk
namespace Gen
open PySem L2 Bk
end Gen
namespace L2
open PySem PySem.Spec PyProof.Rows
section
variable{κ:Type}[DecidableEq κ]
def valV(kvs:List (κ×V))(k:κ):Option V:=(kvs.find? λkv=>decide (kv.1=k)).map (·.2)
def putK(kvs:List (κ×V))(k:κ)(v:V):List (κ×V) :=
 if(kvs.any λkv=>decide (kv.1=k))=true then kvs.map (λkv=>if kv.1=k then(kv.1,v)else kv)else kvs++[(k,v)]
theorem qbC{p:κ×V}{r:List (κ×V)}{k:κ}(e:p.1=k):valV (p::r) k=some p.2:=by simp[valV,List.find?_cons,e]
theorem qbD{p:κ×V}{r:List (κ×V)}{k:κ}(e:¬p.1=k):valV (p::r) k=valV r k:=by simp[valV,List.find?_cons,e]
theorem qd3(k:κ):∀kvs:List (κ×V),(kvs.any λkv=>decide (kv.1=k))=(valV kvs k).isSome
 | []=>rfl
 | p :: r => by
   rw[xQ]
   by_cases e:p.1=k
   · simp only[qbC e,decide_eq_true e,Bool.true_or,Option.isSome_some]
   · rw[qbD e,qC e,wE];exact qd3 k r
theorem qgQ(k j:κ)(y:V):∀kvs:List (κ×V),valV (kvs.map λkv=>if kv.1=k then(kv.1,y)else kv) j=(valV kvs j).map λx=>if j=k then y else x
 | []=>rfl
 | p :: r => by
   have ih:=qgQ k j y r
   rw[rH]
   by_cases h:p.1=k
   · rw[if_pos h]
     by_cases e:p.1=j
     · rw[qbC (p:=(p.1,y)) e,qbC e,vL,if_pos (e.symm.trans h)]
     · rw[qbD (p:=(p.1,y)) e,qbD e,ih]
   · rw[if_neg h]
     by_cases e:p.1=j
     · rw[qbC (p:=p) e,qbC e,vL,if_neg (λz=>h (e.trans z))]
     · rw[qbD (p:=p) e,qbD e,ih]
theorem qgb(k j:κ)(y:V):∀kvs:List (κ×V),valV kvs k=none->valV (kvs++[(k,y)]) j=if j=k then some y else valV kvs j
 | [], _ => by
   by_cases e:k=j
   · rw[if_pos e.symm];exact qbC (p:=(k,y)) e
   · rw[if_neg (λz=>e z.symm)];exact qbD (p:=(k,y)) e
 | p :: r, hn => by
   rw[xN]
   have hk:¬p.1=k:=λz=>by rw[qbC z]at hn;cases hn
   rw[qbD hk]at hn
   have ih:=qgb k j y r hn
   by_cases e:p.1=j
   · rw[qbC e,qbC e,if_neg (λz=>hk (e.trans z))]
   · rw[qbD e,qbD e,ih]
theorem qgZ(kvs:List (κ×V))(k j:κ)(y:V):valV (putK kvs k y) j=if j=k then some y else valV kvs j:=by
 unfold putK
 by_cases a:(kvs.any λkv=>decide (kv.1=k))=true
 ·rw[if_pos a,qgQ];rw[qd3]at a
  by_cases e:j=k
  ·obtain⟨x,hx⟩:=Option.isSome_iff_exists.mp a;rw[if_pos e,e,hx,vL,if_pos rfl]
  ·rw[if_neg e];cases valV kvs j with
   | none=>rfl
   | some x=>rw[vL,if_neg e]
 ·rw[if_neg a];refine qgb k j y kvs ?_;rw[qd3]at a;cases q:valV kvs k with
  | none=>rfl
  | some x=>rw[q]at a;exact(a rfl).elim
theorem qcC(kvs:List (κ×V))(k:κ)(v:V):(putK kvs k v).length<=kvs.length+1:=by
 unfold putK
 split
 ·rw[qA];omega
 ·rw[qH,qT,List.length_nil];omega
theorem RelO.isSome_eq{o:Option V}{u:Option Value}(r:RelO o u):o.isSome=u.isSome:=by
 cases o with
 | none => cases u with
   | none=>rfl
   | some _=>exact(show False from r).elim
 | some _ => cases u with
   | none=>exact(show False from r).elim
   | some _=>rfl
theorem KV.val{kvs:List (κ×V)}{vs:List (κ×Value)}(r:KV kvs vs)(k:κ):RelO (valV kvs k) (valueAt vs k):=by
 unfold KV at r
 induction r with
 | nil=>exact True.intro
 | @cons p q ps qs h t ih =>
   obtain⟨h1,h2⟩:=h
   by_cases e:p.1=k
   · have e':q.1=k:=h1.symm.trans e
     have b:valueAt (q::qs) k=some q.2:=by simp[valueAt,List.find?_cons,e']
     rw[qbC e,b];exact h2
   · have e':¬q.1=k:=λz=>e (h1.trans z)
     have b:valueAt (q::qs) k=valueAt qs k:=by simp[valueAt,List.find?_cons,e']
     rw[qbD e,b];exact ih
theorem KV.any{kvs:List (κ×V)}{vs:List (κ×Value)}(r:KV kvs vs)(k:κ):(kvs.any λkv=>decide (kv.1=k))=vs.any λkv=>decide (kv.1=k):=by
 unfold KV at r
 induction r with
 | nil=>rfl
 | cons h t ih=>rw[xQ,xQ,ih,h.1]
theorem KV.repl{kvs:List (κ×V)}{vs:List (κ×Value)}(r:KV kvs vs)(k:κ){y:V}{u:Value}(ry:RelV y u) :
  KV (kvs.map λkv=>if kv.1=k then(kv.1,y)else kv) (vs.map λkv=>if kv.1=k then(kv.1,u)else kv):=by
 unfold KV at r⊢
 induction r with
 | nil=>exact .nil
 | @cons p q ps qs h t ih =>
   rw[rH,rH]
   refine .cons ?_ ih
   obtain⟨h1,h2⟩:=h
   by_cases e:p.1=k
   · rw[if_pos e,if_pos (h1.symm.trans e)];exact⟨h1,ry⟩
   · rw[if_neg e,if_neg (λz=>e (h1.trans z))];exact⟨h1,h2⟩
theorem KV.put{kvs:List (κ×V)}{vs:List (κ×Value)}(r:KV kvs vs)(k:κ){y:V}{u:Value}(ry:RelV y u):KV (putK kvs k y) (stored vs k u):=by
 unfold putK stored;rw[r.any k]
 by_cases e:(vs.any λkv=>decide (kv.1=k))=true
 ·rw[if_pos e,if_pos e];exact r.repl k ry
 ·rw[if_neg e,if_neg e];exact Paired.snoc r ⟨rfl,ry⟩
theorem KV.length{kvs:List (κ×V)}{vs:List (κ×Value)}(r:KV kvs vs):kvs.length=vs.length:=Paired.length r
end
theorem qig{P:Program}{w:World}{k:Key}{u:Value}(r:RelV (kV k) u):(qbg P w).is k u=true:=by
 cases k with
 | inl i=>obtain⟨t,e⟩:=(show∃t,u=Value.int i t from r);subst e;exact mixKind_int P w i t
 | inr x=>obtain⟨t,e⟩:=(show∃t,u=Value.str x t from r);subst e;exact qaU P w x t
theorem qfQ{P:Program}{w:World}:∀{ks:List Key} {us:List Value},Vals (ks.map kV) us->ItemsAre (qbg P w) ks us
 | [],_,r=>by rw[wK]at r;cases r;exact .nil
 | k :: ks, _, r => by
   rw[rH]at r
   cases r with
   | cons h t=>exact .cons (qig h) (qfQ t)
abbrev KT(H:Hp):List (List Key×V)->List (List Key×Addr×Value)->Prop:=Paired λp q=>p.1=q.1/\H q.2.1=some (.tup (p.1.map kV))/\RelV p.2 q.2.2
theorem KT.val{H:Hp}{kvs:List (List Key×V)}{xs:List (List Key×Addr×Value)}(r:KT H kvs xs)(k:List Key):RelO (valV kvs k) ((atKey xs k).map (·.2)):=by
 induction r with
 | nil=>exact True.intro
 | @cons p q ps qs h t ih =>
   obtain⟨h1,_,h2⟩:=h
   by_cases e:p.1=k
   · have e':q.1=k:=h1.symm.trans e
     have b:atKey (q::qs) k=some q.2:=by simp[atKey,List.find?_cons,e']
     rw[qbC e,b];exact h2
   · have e':¬q.1=k:=λz=>e (h1.trans z)
     have b:atKey (q::qs) k=atKey qs k:=by simp[atKey,List.find?_cons,e']
     rw[qbD e,b];exact ih
theorem KT.repl{H:Hp}{kvs:List (List Key×V)}{xs:List (List Key×Addr×Value)}(r:KT H kvs xs)(k:List Key){y:V}{u:Value}(ry:RelV y u) :
  KT H (kvs.map λkv=>if kv.1=k then(kv.1,y)else kv) (xs.map (putAt k u)):=by
 induction r with
 | nil=>exact .nil
 | @cons p q ps qs h t ih =>
   rw[rH,rH]
   refine .cons ?_ ih
   obtain⟨h1,h2,h3⟩:=h
   unfold putAt
   by_cases e:p.1=k
   · rw[if_pos e,if_pos (h1.symm.trans e)];exact⟨h1,h2,ry⟩
   · rw[if_neg e,if_neg (λz=>e (h1.trans z))];exact⟨h1,h2,h3⟩
theorem KT.put{H:Hp}{kvs:List (List Key×V)}{xs:List (List Key×Addr×Value)}(r:KT H kvs xs)(k:List Key){b:Addr}{y:V}{u:Value}(hb:H b=some (.tup (k.map kV)))(ry:RelV y u) :
  KT H (putK kvs k y) (storedH xs k b u):=by
 have e:(kvs.any λkv=>decide (kv.1=k))=(atKey xs k).isSome:=by
  rw[qd3,(r.val k).isSome_eq,Option.isSome_map]
 unfold putK storedH;rw[e]
 by_cases q:(atKey xs k).isSome=true
 ·rw[if_pos q,if_pos q];exact r.repl k ry
 ·rw[if_neg q,if_neg q];exact Paired.snoc r ⟨rfl,hb,ry⟩
theorem KT.keeps{H H':Hp}{kvs:List (List Key×V)}{xs:List (List Key×Addr×Value)}(r:KT H kvs xs)(ht:∀b ys,H b=some (.tup ys)->H' b=some (.tup ys)):KT H' kvs xs :=
 Paired.mapP r λ_ _ z=>⟨z.1,ht _ _ z.2.1,z.2.2⟩
section
variable{P:Program}{w:World}{H:Hp}{h:Heap}{a:Addr}
theorem qiT{u:HO}(ok:HOk P w H h)(e:Rd H a u):ObjOk P w H h a u:=e.ok ok
theorem qiL{kvs:List (Key×V)}(ok:HOk P w H h)(e:Rd H a (.dK kvs)):kvs.length<=sizeLine/\(a == sysModules)=false/\∃vs,KV kvs vs/\h.DictOf (qbg P w) a vs :=
 show ObjOk P w H h a (.dK kvs)from qiT ok e
theorem qiY{kvs:List (Key×V)}(ok:HOk P w H h)(e:H a=some (.dK kvs)):kvs.length<=sizeLine/\(a == sysModules)=false/\∃vs,KV kvs vs/\h.DictOf (qbg P w) a vs:=qiL ok (.inl e)
theorem qh4{ks:List Key}(ok:HOk P w H h)(e:H a=some (.tup (ks.map kV))):(tupleKind (qbg P w)).is h ks a:=by
 obtain⟨_,its,r,o,h1,h2,n,h3⟩:=(show ObjOk P w H h a (.tup (ks.map kV))from ok a _ e);exact⟨o,its.toArray,n,h1,h2,h3,by simpa using qfQ r⟩
theorem qiQ{kvs:List (List Key×V)}(ok:HOk P w H h)(e:Rd H a (.dT kvs)):kvs.length<=sizeLine/\(a == sysModules)=false /\
  ∃xs,KT H kvs xs/\h.DictOfH (tupleKind (qbg P w)) a xs:=by
 obtain⟨z,y,xs,r,o,es,ep,h1,h2,h3,h4,h5⟩:=(show ObjOk P w H h a (.dT kvs)from qiT ok e);refine⟨z,y,xs,r,o,es,ep,h1,h2,h3,h4,λx hx=>?_,h5⟩;have all:∀{l:List (List Key×V)} {m:List (List Key×Addr×Value)},KT H l m->∀x∈m,(tupleKind (qbg P w)).is h x.1 x.2.1:=by
  intro l m q
  induction q with
  | nil=>intro x hx;exact nomatch hx
  | @cons p q ps qs hq t ih =>
    intro x hx
    rcases qO.mp hx with e | hx
    · subst e
      exact qh4 ok (by rw[<-hq.1];exact hq.2.1)
    · exact ih x hx
 exact all r x hx
theorem dt_of{kvs:List (List Key×V)}(ok:HOk P w H h)(e:H a=some (.dT kvs)):kvs.length<=sizeLine/\(a == sysModules)=false /\
  ∃xs,KT H kvs xs/\h.DictOfH (tupleKind (qbg P w)) a xs:=qiQ ok (.inl e)
end
def DGet(H:Hp)(a:Addr)(y:V)(r:Option V):Prop :=
 (∃kvs k,Rd H a (.dK kvs)/\y=kV k/\r=valV kvs k)\/∃kvs k b,Rd H a (.dT kvs)/\y=.ref b/\H b=some (.tup (k.map kV))/\r=valV kvs k
def DPut(H:Hp)(a:Addr)(y v:V)(H':Hp):Prop :=
 (∃kvs k,H a=some (.dK kvs)/\y=kV k/\kvs.length<sizeLine/\H'=upd H a (.dK (putK kvs k v))) \/
 ∃kvs k b,H a=some (.dT kvs)/\y=.ref b/\H b=some (.tup (k.map kV))/\kvs.length<sizeLine/\H'=upd H a (.dT (putK kvs k v))
theorem DGet.k{H:Hp}{a:Addr}{kvs:List (Key×V)}{k:Key}(e:H a=some (.dK kvs)):DGet H a (kV k) (valV kvs k):=.inl ⟨kvs,k,.inl e,rfl,rfl⟩
theorem DPut.k{H:Hp}{a:Addr}{kvs:List (Key×V)}{k:Key}{v:V}(e:H a=some (.dK kvs))(hl:kvs.length<sizeLine):DPut H a (kV k) v (upd H a (.dK (putK kvs k v))):=.inl ⟨kvs,k,e,rfl,hl,rfl⟩
section
variable{X:Cx}{pins:List (Addr×Obj)}{σ:St}{H:Hp}{s:Shared}{a:Addr}{y v:V}{u r:Value}{o:Option V}{A:Around}{E:Value->Shared->Prop}
theorem Inv.big(I:Inv X pins σ H s):sysModules<s.heap.objs.size:=by
 have h:mainGlobals<s.heap.objs.size:=(I.mod.glob.keeps I.bk).lt;exact uF (by decide) h
theorem d_getItem{Q:Value->Shared->Prop}(hu:A.units+1<cLine)(I:Inv X pins σ H s)(g:DGet H a y (some v))(ry:RelV y u)(h:∀w' s',Inv X pins σ H s'->RelV v w'->Q w' s') :
  wpAny (model X.prog X.w) A (getItem (.ref a) u) Q E s:=by
 rcases g with⟨kvs,k,e,ey,l⟩ | ⟨kvs,k,b,e,ey,eb,l⟩
 ·subst ey;obtain⟨z,hd,vs,rel,dd⟩:=qiL I.hok e;obtain⟨w',hw,rw'⟩:=RelO.some_of (v:=v) (o:=valueAt vs k) (by rw[l];exact rel.val k);exact wpAny_getItem_of (qig ry) dd.mapOf hw (h w' _ (I.tok _) rw')
 ·subst ey;cases(show u=Value.ref b from ry);obtain⟨z,hd,xs,rel,dd⟩:=qiQ I.hok e;obtain⟨w',hw,rw'⟩:=RelO.some_of (v:=v) (o:=(atKey xs k).map (·.2)) (by rw[l];exact rel.val k);obtain⟨p,hp,hp2⟩:=Option.map_eq_some_iff.mp hw;refine wpAny_getItem_heap (tupleKind_room_in1 hu) (qh4 I.hok eb) dd hp ?_;rw[hp2];exact h w' _ (I.tok _) rw'
theorem qgs{h':Heap}{t':Nat}{ob:HO}(I:Inv X pins σ H s)(mu:Mut (H a))(hs:Heap.SameBut a s.heap h')(he:∃q,h'.get? a=some q)(new:ObjOk X.prog X.w (upd H a ob) h' a ob) :
  Inv X pins σ (upd H a ob) {s with heap:=h',toks:=t'} :=
 I.write (x:=a) (e:=a) mu (.inl rfl) (λb q hb z=>(hs.2 b hb).trans z) he new
theorem qiy{P:Program}{w:World}{H':Hp}{h':Heap}{kvs:List (Key×V)}{vs:List (Key×Value)}(z:kvs.length<=sizeLine)(hd:(a == sysModules)=false)(rel:KV kvs vs)(dd:h'.DictOf (qbg P w) a vs) :
  ObjOk P w H' h' a (.dK kvs):=⟨z,hd,vs,rel,dd⟩
theorem d_setItem{H':Hp}{Q:Unit->Shared->Prop}(hu:A.units+1<cLine)(I:Inv X pins σ H s)(g:DPut H a y v H')(ry:RelV y u)(rv:RelV v r)(h:∀s',Inv X pins σ H' s'->Q () s') :
  wpAny (model X.prog X.w) A (setItem (.ref a) u r) Q E s:=by
 rcases g with⟨kvs,k,e,ey,l,eH⟩ | ⟨kvs,k,b,e,ey,eb,l,eH⟩
 ·subst ey eH;obtain⟨z,hd,vs,rel,dd⟩:=qiY I.hok e;have hz:vs.length<=sizeLine:=by rw[<-rel.length];exact z
  have hl:(putK kvs k v).length<=sizeLine:=by have:=qcC kvs k v;omega
  refine wpAny_setItem_pairs (hsz:=hz) (qig ry) dd λh' dd' hs=>h _ ?_
  have he:∃q,h'.get? a=some q:=let⟨q,_,_,hq,_⟩:=dd';⟨q,hq⟩;exact qgs I (by rw[e];exact True.intro) hs he (qiy hl hd (rel.put k rv) dd')
 ·subst ey eH;cases(show u=Value.ref b from ry);obtain⟨z,hd,xs,rel,dd⟩:=dt_of I.hok e;have hz:xs.length<=sizeLine:=by rw[<-Paired.length rel];exact z
  have hl:(putK kvs k v).length<=sizeLine:=by have:=qcC kvs k v;omega
  refine wpAny_setItem_heap (hsz:=hz) (tupleKind_room_in1 hu) (qh4 I.hok eb) dd λh' dd' hs=>h _ ?_
  obtain⟨q,es,ep,hq,h2,h3,h4,_,h5⟩:=dd';refine qgs I (by rw[e];exact True.intro) hs ⟨q,hq⟩ ⟨hl,hd,_,(rel.put k eb rv).keeps λc ys ec=>?_,q,es,ep,hq,h2,h3,h4,h5⟩;rw[qax (qhc ec e (λz=>nomatch z))];exact ec
end
def NoSl(i:Expr):Prop:=∀ov iv,subscripted i false ov iv=operate [ov,iv] (getItem ov iv)
theorem subD_of{prog:Program}{w:World}{A:Around}{E:Value->Shared->Prop}{s:Shared}{env:Env}{value slice:Expr}{pos:Pos}{T id:String}{Q:Value->Shared->Prop}(hl:typeLookup (.type T) "__getitem__" = pure (some (.builtin id)))(hs:NoSl slice)(h:wpAny (model prog w) A (eval value env) (λo s₁=>wpAny (model prog w) A (eval slice env) (λi s₂=>s₂.TypeIs o T/\wpAny (model prog w) A (getItem o i) Q E s₂) E s₁) E s) :
  wpAny (model prog w) A (eval (.Subscript value slice pos) env) Q E s:=by
 refine Subscript_ (xJ h (λo s₁ h₁=>xJ h₁ (λi s₂ h₂=>?_) λ_ _ x=>x) λ_ _ x=>x);obtain⟨hT,h₂⟩:=h₂;unfold subscriptTail;refine qF ?_;rw[getitemInPython_of_ne hT.not_modules];refine qF (vO hT hl ?_);have fin:wpAny (model prog w) A (subscripted slice false o i) (λr s₃=>wpAny (model prog w) A (letTemporaryGo value o r>>=λ_=>pure r) Q E s₃) E s₂:=by
  rw[hs o i];exact wpAny_operating (xJ h₂ (λr s₃ h₃=>qF (wpAny_letTemporaryGo (qQ h₃))) λ_ _ x=>x)
 first
  | exact qQ (qF fin)
  | exact qF (qQ (qF fin))
  | exact qF fin
theorem dict_typeIs{X:Cx}{pins:List (Addr×Obj)}{σ:St}{H:Hp}{s:Shared}{a:Addr}{y:V}{o:Option V}(I:Inv X pins σ H s)(g:DGet H a y o):s.TypeIs (.ref a) "dict":=by
 rcases g with⟨kvs,k,e,_,_⟩ | ⟨kvs,k,b,e,_,_,_⟩
 ·obtain⟨_,_,vs,_,dd⟩:=qiL I.hok e;exact dd.typeIs
 ·obtain⟨_,_,xs,_,dd⟩:=qiQ I.hok e;exact dd.typeIs
def tDGet(td ty:TE):TE:=λσ H Q=>td σ H λx H1=>ty σ H1 λy H2=>∃a v,x=.ref a/\DGet H2 a y (some v)/\Q v H2
def sDPut(td ty tv:TE):TS:=λD σ H=>tv σ H λv H1=>td σ H1 λx H2=>ty σ H2 λy H3=>∃a H4,x=.ref a/\DPut H3 a y v H4/\D.nx σ H4
section
variable{X:Cx}{o i e value:Expr}{pos pos' tpos:Pos}{td ty tv:TE}
theorem pe_dget(hu:X.A.units+1<cLine)(ho:PE X o td)(hi:PE X i ty)(hs:NoSl i):PE X (.Subscript o i pos) (tDGet td ty):=by
 intro pins s σ H Q I h;refine subD_of PySem.F.slot_dict_getitem.lookup hs (thn (ho pins s σ H _ I h) λu s1 ⟨x,H1,I1,rx,q1⟩=>thn (hi pins s1 σ H1 _ I1 q1) λiv s2 ⟨y,H2,I2,ry,a,v,ex,g,q2⟩=>?_);subst ex;obtain rfl:u=Value.ref a:=rx;exact⟨dict_typeIs I2 g,d_getItem hu I2 g ry λw' s3 I3 rw'=>⟨v,H2,I3,rw',q2⟩⟩
theorem ps_dput(hu:X.A.units+1<cLine)(ho:PE X o td)(hi:PE X i ty)(hv:PE X value tv)(hs:swapsWith value (some (.Subscript o i pos')) pos.line X.env=pure false) :
  PS X (.Assign [.Subscript o i pos'] value pos) (sDPut td ty tv):=by
 intro pins s σ H D I h;refine wpAny_Assign_Subscript (thn (hv pins s σ H _ I h) λr s1 ⟨v,H1,I1,rv,q1⟩=>thn (ho pins s1 σ H1 _ I1 q1) λu s2 ⟨x,H2,I2,rx,q2⟩=>thn (hi pins s2 σ H2 _ I2 q2) λiv s3 ⟨y,H3,I3,ry,a,H4,ex,g,q3⟩=>?_) hs;subst ex;obtain rfl:u=Value.ref a:=rx;exact d_setItem hu I3 g ry rv λs4 I4=>⟨σ,H4,I4,q3⟩
end
theorem dk_empty{P:Program}{w:World}{H:Hp}(h:Heap)(hb:sysModules<h.objs.size):ObjOk P w H (h.push {cls:=.type "dict",data:=.dict #[]}) h.objs.size (.dK []) :=
 ⟨r8 _,beq_eq_false_iff_ne.mpr (Ne.symm (rP hb)),[],.nil,Heap.DictOf.new h⟩
end L2
namespace Gd
open PySem L2 Gen
end Gd
namespace L2
open PySem PySem.Spec PyProof.Rows
end L2
namespace Gen
open PySem L2 Bk
end Gen
namespace L2
open PySem PySem.Spec PyProof.Rows
def Itd(hi:Int)(n:Nat):It:=⟨λi _=>i<n,λi H x H'=>H'=H/\x=.int (hi-i),λi _=>n<=i⟩
theorem turn_down{P:Program}{w:World}{K:W.Frag}{tg:Expr}(it:Addr)(hi:Int)(n:Nat):Turn P w K tg (Itd hi n) [it] it (λi h=>IsRangeIter h it (hi+(i:Nat)*(-1)) ((n:Int)-(i:Nat)) (-1)) where
 mem:=by simp
 obj:=λi h st b hb=>by
  obtain rfl:b=it:=by simpa using hb
  refine⟨_,st,λv z=>?_⟩;have z':Data.fields _=Data.cell v:=z;cases z'
 keep:=λi h h' st k=>k it (by simp) _ st
 item:=by
  intro X hP hw hK hc i pins s σ H E I hf st hg;subst hP hw hK;obtain⟨f0,f1,f2,f3,f4,f5⟩:=hf it (by simp);refine(Walks.range (prog:=X.prog) (w:=X.w) (I.ok.hd hc) it hi (-1) n).item i s _ _ hg st λv h' tk hv st' kk=>?_
  obtain⟨t,rfl⟩:=hv;have I1:Inv X pins σ H {s with heap:=h',toks:=tk}:=I.turned (λb o hb e=>kk b o (by simpa using hb) e) f0 f1 f3 f4 f5;refine⟨_,rfl,qh9 (s:={s with heap:=h',toks:=tk}) (n := "range_iterator") st' rfl rfl (by decide) ⟨.int (hi-i),H,I1,⟨t,?_⟩,⟨rfl,rfl⟩,st',λb hb=>(hf b hb).1⟩⟩;rw[show hi+(i:Int)*(-1)=hi-i by omega]
 done:=by
  intro X hP hw hK hc i pins s σ H E I hf st hg;subst hP hw hK;obtain⟨f0,f1,f2,f3,f4,f5⟩:=hf it (by simp);refine wpAny_pyNext_range_end (I.ok.hd hc) st (by have z:n<=i:=hg;omega) λh' eb=>⟨rfl,I.turned (t':=s.toks) (λb o hb e=>eb b o hb e) f0 f1 f3 f4 f5⟩
 self:=λ_ _ _ _ _ st h=>wpAny_pyIter_rangeiter st h
theorem qfV(a b:Int):Builtin.Range.rangeSize a b (-1)=if a>b then a-b else 0:=by
 unfold Builtin.Range.rangeSize;rw[if_neg (by decide)]
 split
 ·rw[show -(-1:Int)=1 by decide,Int.ediv_one];omega
 ·rfl
theorem small_down{a b:Int}(ha:-(2 ^ 62)<=a)(ha':a<2 ^ 62)(hb:-(2 ^ 62)<=b)(hb':b<2 ^ 62):Builtin.Range.small a b (-1)=true:=by
 unfold Builtin.Range.small;rw[qfV];rw[if_neg (show¬((-1:Int)>0) by decide)];simp only[Builtin.Range.rangeFitsLong,Bool.and_eq_true,Bool.or_eq_true,decide_eq_true_eq,beq_iff_eq]
 split<;>omega
def iRngD(ta:TA):TI:=λσ H R=>ta σ H λvs H1=>∃i j:Int,vs=[.int i,.int j,.int (-1)]/\(-(2 ^ 62)<=i/\i<2 ^ 62/\-(2 ^ 62)<=j/\j<2 ^ 62)/\R (Itd i (i-j).toNat) H1
section
variable{X:Cx}{tg:Expr}
theorem down_it{pins:List (Addr×Obj)}{σ:St}{H:Hp}{s:Shared}{R:It->Hp->Prop}{E:Value->Shared->Prop}{lo hi:Int}{t u v:Tok}{tk:Nat}(I:Inv X pins σ H s)(h1:-(2 ^ 62)<=lo)(h2:lo<2 ^ 62)(h3:-(2 ^ 62)<=hi)(h4:hi<2 ^ 62)(q:R (Itd lo (lo-hi).toNat) H) :
  wpAny (model X.prog X.w) X.A (pyIter (.ref s.heap.objs.size)) (PIE X pins σ tg R) E {s with heap:=s.heap.push {cls:=.type "range",data:=.fields #[.int lo t,.int hi u,.int (-1) v]},toks:=tk}:=by
 refine wpAny_pyIter_range (IsRange.new ..) (small_down h1 h2 h3 h4) ?_;have I1:Inv X pins σ H {s with heap:=s.heap.push {cls:=.type "range",data:=.fields #[.int lo t,.int hi u,.int (-1) v]},toks:=tk}:=I.kept λb o e=>qI _ e
 refine⟨(s.heap.push {cls:=.type "range",data:=.fields #[.int lo t,.int hi u,.int (-1) v]}).objs.size,[(s.heap.push {cls:=.type "range",data:=.fields #[.int lo t,.int hi u,.int (-1) v]}).objs.size],_,_,H,rfl,I1.kept (t':=tk) λb o e=>qI _ e,turn_down _ lo (lo-hi).toNat,?_,λb hb=>?_,q⟩
 ·have e1:lo+((0:Nat):Int)*(-1)=lo:=by simp
  have e2:(((lo-hi).toNat:Nat):Int)-((0:Nat):Int)=Builtin.Range.rangeSize lo hi (-1):=by rw[qfV];split<;>omega
  show IsRangeIter _ _ (lo+((0:Nat):Int)*(-1)) ((((lo-hi).toNat:Nat):Int)-((0:Nat):Int)) (-1);rw[e1,e2];exact rB _ rfl
 ·obtain rfl:b=(s.heap.push {cls:=.type "range",data:=.fields #[.int lo t,.int hi u,.int (-1) v]}).objs.size:=by simpa using hb
  exact I1.fpOk (qG _) (I1.hok.fresh (qG _))
theorem pi_rangeD{a b c:Expr}{ta:TA}{p pos:Pos}(hg:Gl X "range")(hm:X.mg "range" = none)(ha:PA X [a,b,c] ta)(hs:starEach [a,b,c] X.env=[(false,eval a X.env),(false,eval b X.env),(false,eval c X.env)]:=by rfl)(hs2:starEach [b,c] X.env=[(false,eval b X.env),(false,eval c X.env)]:=by rfl) :
  PI X tg (.Call (.Name "range" p) [a,b,c] [] pos) (iRngD ta):=by
 intro pins s σ H R I h;refine Call_ (qdR I hg hm boot_range (xT (thn (ha pos pins s σ H _ I h) λus s1 ⟨vs,H1,I1,r1,q1⟩=>?_) (by rw[hs,hs2]) (by rw[hs2];rfl)));obtain⟨i,j,e,⟨q1,q2,q3,q4⟩,q⟩:=q1;subst e;cases r1 with
 | cons r rr => cases rr with
   | cons r' rr => cases rr with
     | cons r'' rr =>
       cases rr
       obtain⟨t,rfl⟩:=r
       obtain⟨t',rfl⟩:=r'
       obtain⟨t'',rfl⟩:=r''
       exact call_range_3 (by decide) (down_it I1 q1 q2 q3 q4 q) (.inl (PyProof.noPylong_small (by decide)))
end
theorem for_down{hi:Int}{n:Nat}{g:TG}{tb:TS}{D:Ends}{σ:St}{H:Hp}(Pv:Nat->St->Hp->Prop)(h0:Pv 0 σ H)(hs:∀i σ H,i<n->Pv i σ H->g (.int (hi-i)) σ H λσ2 H2=>tb {D with nx:=Pv (i+1),ct:=Pv (i+1),bk:=D.nx} σ2 H2)(hd:∀σ H,Pv n σ H->D.nx σ H) :
  ∃W:Nat->Nat->St->Hp->Prop,(∃m,W 0 m σ H)/\∀i m σ H,W i m σ H ->
   ((Itd hi n).stop i H/\D.nx σ H)\/((Itd hi n).go i H/\∃N:St->Hp->Prop,(∀σ' H',N σ' H'->∃m',m'<m/\W (i+1) m' σ' H')/\∀x H',(Itd hi n).yld i H x H'->g x σ H' λσ2 H2=>tb {D with nx:=N,ct:=N,bk:=D.nx} σ2 H2):=by
 refine⟨λi m σ H=>m=n-i/\i<=n/\Pv i σ H,⟨n,by simp,r8 _,h0⟩,λi m σ H ⟨em,hi',p⟩=>?_⟩;subst em
 by_cases hlt:i<n
 ·refine .inr ⟨hlt,Pv (i+1),λσ' H' p'=>⟨n-(i+1),by omega,rfl,hlt,p'⟩,λx H' ⟨e,y⟩=>?_⟩;subst e y;exact hs i σ _ hlt p
 ·obtain rfl:i=n:=by omega
  exact .inl ⟨qG _,hd σ H p⟩
end L2
namespace Bk
open PySem L2 Gen
def qha(n:Int)(d:Nd):Bool:=decide (d.e=n)
def kk(l:List Nd)(n:Int):List Kd:=(l.filter (qha n)).map (·.k)
theorem qiu(a b:List Nd)(n:Int):kk (a++b) n=kk a n++kk b n:=by unfold kk;rw[rT,qM]
theorem qdL(d:Nd)(l:List Nd)(n:Int):kk (d::l) n=(if d.e=n then[d.k]else[])++kk l n:=by
 unfold kk;rw[yY]
 by_cases h:d.e=n
 ·simp[qha,h]
 ·simp[qha,h]
inductive Up(ds:List Nd):Nat->Nat->Nat->Prop
 | here {a:Nat}:Up ds a a 0
 | step {a b j m:Nat} {d:Nd}:ds[a]?=some d->d.e=(j:Int)->Up ds j b m->Up ds a b (m+1)
theorem Up.trans{ds:List Nd}{a b m:Nat}(x:Up ds a b m):∀{c n:Nat},Up ds b c n->∃k,Up ds a c k:=by
 induction x with
 | here=>intro c n y;exact⟨n,y⟩
 | step h1 h2 _ ih =>
   intro c n y
   obtain⟨k,z⟩:=ih y
   exact⟨k+1,.step h1 h2 z⟩
theorem qgu(ds:List Nd)(n:Int):∀i,i<=ds.length->(qaI ds n i).map (λ(j:Int)=>(ds[j.toNat]?).map (·.k))=(kk (ds.take i) n).map some
 | 0,_=>rfl
 | i + 1, hi => by
   have ed:ds[i]?=some ds[i]:=qE (by omega)
   have ih:=qgu ds n i (by omega)
   rw[rO,ed,rR,qiu,qM,<-ih]
   by_cases h:(ds[i]).e=n
   · rw[qbx ed h,qM]
     simp[kk,qha,h]
     exact⟨_,ed,rfl⟩
   · rw[qb8 ed h]
     simp[kk,qha,h]
end Bk
namespace Gen
open PySem L2 Bk
def kindsAll:List Kd:=[.body,.case,.shelf,.grid,.text,.head,.picture,.aside,.note]
def spNotesA:Sp:=λvs H Q _=>∃(s:Addr) (st:List Th) (N:Addr->Prop),vs=[.ref s]/\StAt N H s st/\(∀x∈st,PcOk x)/\st.length<=60/\∀l H',H l=none->Same H H'->H' l=some (.lst ((qaj st).map V.int))->Q (.ref l) H'
structure NdNew(M N:Addr->Prop)(H:Hp)(a:Addr)(d:Nd):Prop where
 na:M a
 ex:∃m s,H a=some (.tup [.int d.e,.str d.k.s,.str d.nm,.ref m,.ref s])/\M m/\H m=some (.lst (d.mks.map V.str))/\M s/\∃vs,H s=some (.lst vs)/\Paired (ItAt N H) vs d.st
def spCopied:Sp:=λvs H Q _=>∃(a:Addr) (d:Nd) (N:Addr->Prop),vs=[.ref a]/\NdAt N H a d/\∀a' H',NdNew (qbP H) N H' a' d->Same H H'->Q (.ref a') H'
theorem once_self:∀{ks:List Str},ks.Nodup->once ks=ks:=by
 have:∀(ks l:List Str),(l++ks).Nodup->ks.foldl one1 l=l++ks:=by
  intro ks
  induction ks with
  | nil=>intro l _;simp
  | cons k ks ih =>
    intro l h
    have nk:k∉l:=λhk=>by
      rw[uV]at h
      exact h.2.2 k hk k qJ rfl
    have e:one1 l k=l++[k]:=by
      unfold one1
      simp[nk]
    rw[xY,e,ih (l++[k]) (by simpa using h)]
    simp
 intro ks h;exact(this ks [] (by simpa using h)).trans (by simp)
theorem rise_eq:∀{l m:List Str},l.Perm m->(l.Pairwise λa b=>a.cps.toList<b.cps.toList)->(m.Pairwise λa b=>a.cps.toList<b.cps.toList)->l=m
 | [],m,p,_,_=>p.nil_eq
 | x::l,[],p,_,_=>absurd p.eq_nil (by simp)
 | x :: l, y :: m, p, h1, h2 => by
   rw[List.pairwise_cons]at h1 h2
   have e:x=y:=by
     have hx:x∈y::m:=p.subset qJ
     have hy:y∈x::l:=p.symm.subset qJ
     rcases qO.mp hx with z | hx
     · exact z
     rcases qO.mp hy with z | hy
     · exact z.symm
     exact absurd (h1.1 y hy) (List.lt_asymm (h2.1 x hx))
   subst e
   rw[rise_eq ((List.perm_cons x).mp p) h1.2 h2.2]
end Gen
namespace Bk
open PySem L2
end Bk
namespace L2
open PySem PySem.Spec PyProof.Rows
end L2
namespace Gen
open PySem L2 Bk
end Gen
namespace Bd
open PySem L2 Bk Gen Gd
theorem pc_ok5{x:Th}(h:PcOk x):PySem.W.kqdOk 5 (thD x)=true:=by
 cases x with
 | int n=>cases h
 | tri s x t =>
   cases s<;>cases x<;>first | (exfalso;exact h) | skip
   · have:=qfc h.1
     simp[thD,thgD,PySem.W.kqdOk,this,qdz]
   · have:=qcB (.inr h.1)
     simp[thD,thgD,PySem.W.kqdOk,this,qdz]
   · simp[thD,thgD,PySem.W.kqdOk,qdz]
theorem stuff_ok5{k:Kd}{l:List Th}(h:Stuff k l):∀x∈l,PySem.W.kqdOk 5 (thD x)=true:=by
 intro x hx;cases k<;>first
  | (obtain⟨h1,_⟩:=h;exact pc_ok5 (h1 x hx))
  | (obtain⟨a,b,rfl,_⟩:=h;rcases qO.mp hx with rfl | hx;rfl;have:x=.int b:=(by simpa using hx);subst this;rfl)
  | (have:l=[]:=h;subst this;cases hx)
theorem bk_ok8{ds:List Nd}(h:∀d∈ds,Form d):PySem.W.kqdOk 8 (bkD ds)=true:=by
 simp only[bkD,PySem.W.kqdOk,List.all_eq_true,List.mem_map];rintro _ ⟨d,hd,rfl⟩;have f:=h d hd;have h1:=qcB f.nm;have h2:∀m∈d.mks,PyData.strOk m=true:=λm hm=>qcB (.inr (f.mks.2.1 m hm))
 have h3:=stuff_ok5 f.st;simp only[ndD,PySem.W.kqdOk,List.all_cons,List.all_nil,Bool.and_true,Bool.and_eq_true,List.all_eq_true,List.mem_map];refine⟨trivial,qiC _,h1,?_,?_⟩
 ·rintro x ⟨m,hm,rfl⟩;exact h2 m hm
 ·rintro x ⟨m,hm,rfl⟩;exact h3 m hm
end Bd
namespace Br
open PySem L2 Bk Gen Gd Bd
end Br
namespace L2
open PySem PySem.Spec PyProof.Rows
section
variable{X:Cx}
def rIndexS(K:W.Frag):V->List V->Hp->VK->Prop:=λx vs H Q=>∃(l:Addr) (os:List Str) (y:Str) (j:Nat),x=.ref l/\vs=[.str y]/\H l=some (.lst (os.map V.str))/\os.length<=100000/\os[j]?=some y/\(∀i:Nat,i<j->os[i]?≠some y)/\Q (.int j) H
theorem mt_indexS:MtR X "list.index" (rIndexS X.K):=by
 intro pins s σ H x xs v us Q I rx rv h;obtain⟨l,os,y,j,rfl,rfl,hH,lz,hj,hlt,q⟩:=h;cases rx;obtain⟨u,rfl,ru⟩:=Vals.one rv;obtain⟨t,rfl⟩:=ru;obtain⟨z,its,n,r,hl,e⟩:=I.lstM hH;rw[qA]at hl;have at':∀(i:Nat) (hi:i<its.toArray.size),∃o t',os[i]?=some o/\its.toArray[i]=.str o t':=λi hi=>by
  have hi':i<os.length:=by rw[hl];simpa using hi
  obtain⟨w',e2,r2⟩:=r.get (i:=i) (x:=V.str os[i]) (by rw[qP,qE hi'];rfl);obtain⟨t',e4⟩:=r2;refine⟨os[i],t',qE hi',?_⟩;have e3:its.toArray[i]=w':=by
   have:=(qD.mp e2).2;simpa using this
  rw[e3,e4]
 have jl:j<its.toArray.size:=by
  have:=(qD.mp hj).1;rw[rK];omega
 have sl:sizeLine=16777216:=by decide
 refine vY F.slot_list_index ⟨_,e,rfl⟩ F.entry_list_index (F.args_list_index_2 _ _)
  (PySem.SeqAt.list_indexAt l its.toArray n none #[] (.str y t) (λw'=>match w' with | .str i _=>i == y | _=>false) j jl (by rw[rK]at jl;omega) ?_ (λm hm hmj=>?_)) ⟨e,λw' hw'=>?_,⟨.int j,H,I.tok _,⟨_,rfl⟩,q⟩⟩
 ·obtain⟨o,t',eo,ev⟩:=at' j jl;rw[hj]at eo;rw[ev,<-rD eo];show(y == y)=true;simp
 ·obtain⟨o,t',eo,ev⟩:=at' m hm;rw[ev];show(o == y)=false;rw[beq_eq_false_iff_ne];exact λz=>hlt m hmj (by rw[eo,z])
 ·obtain⟨i,hi,rfl⟩:=Array.mem_iff_getElem.mp hw';obtain⟨o,t',eo,ev⟩:=at' i hi;rw[ev];exact PySem.SeqAt.EqAt.str_str _ _ _ _
def isNo:V->Bool
 | .non=>true
 | _=>false
theorem op_inN(hu:X.A.units+64<cLine):OpR X (compareOp .In) (λx y H Q=>∃(p:Addr) (xs:List V),x=.non/\y=.ref p/\H p=some (.lst xs)/\(∀v∈xs,v=.non\/∃a ys,v=.ref a/\H a=some (.tup ys))/\Q (.bl (xs.any isNo)) H):=by
 intro pins s σ H x y v u Q I rx ry h;obtain⟨p,xs,rfl,rfl,hp,al,q⟩:=h;cases ry;have rx:v=Value.none:=rx;subst rx;obtain⟨z,its,n,r,hl,e⟩:=I.lstM hp;have un:X.A.in1.units<cLine:=by show X.A.units+1<cLine;omega
 have each:∀{xs:List V} {us:List Value},Vals xs us->(∀v∈xs,v=.non\/∃a ys,v=.ref a/\H a=some (.tup ys))->us.any (λw=>match w with | .none=>true | _=>false)=xs.any isNo/\∀w∈us,SeqAt.EqAt X.A.in1 s w Value.none (match w with | .none=>true | _=>false):=by
  intro xs us r
  induction r with
  | nil=>intro _;exact⟨rfl,λw hw=>by cases hw⟩
  | @cons y w ys us ry rt ih =>
    intro al
    obtain⟨i1,i2⟩:=ih λv hv=>al v (qN _ hv)
    rcases al y qJ with rfl | ⟨a,zs,rfl,ha⟩
    · have ry:w=Value.none:=ry
      subst ry
      refine⟨by rw[xQ,xQ,i1];rfl,λw' hw'=>?_⟩
      rcases qO.mp hw' with rfl | hw'
      · exact SeqAt.EqAt.same _
      · exact i2 w' hw'
    · have ry:w=Value.ref a:=ry.symm ▸ rfl
      subst ry
      refine⟨by rw[xQ,xQ,i1];rfl,λw' hw'=>?_⟩
      rcases qO.mp hw' with rfl | hw'
      · obtain⟨_,ws,_,ht⟩:=I.hok a _ ha
        exact SeqAt.EqAt.tuple_none ht un
      · exact i2 w' hw'
 obtain⟨e1,e2⟩:=each r al;refine SeqAt.in_listAt (λw=>match w with | .none=>true | _=>false) (items:=its.toArray) ⟨_,e,rfl,n,rfl⟩ (λw hw=>e2 w (by simpa using hw)) ⟨.bl _,H,I,rfl,?_⟩;rw[show its.toArray.any (λw=>match w with | .none=>true | _=>false)=its.any (λw=>match w with | .none=>true | _=>false) by simp,e1];exact q
theorem mt_starts:MtR X "str.startswith" (λx xs H Q=>∃y z:Str,x=.str y/\xs=[.str z]/\Q (.bl (Txt.startswith y z)) H):=by
 intro pins s σ H x xs v us Q I rx rv h;obtain⟨y,z,rfl,rfl,q⟩:=h;obtain⟨t,rfl⟩:=rx;obtain⟨u,rfl,ru⟩:=Vals.one rv;obtain⟨t2,rfl⟩:=ru;exact PySem.SC.startswith ⟨.bl _,H,I,rfl,q⟩
theorem mt_ends:MtR X "str.endswith" (λx xs H Q=>∃y z:Str,x=.str y/\xs=[.str z]/\Q (.bl (Txt.endswith y z)) H):=by
 intro pins s σ H x xs v us Q I rx rv h;obtain⟨y,z,rfl,rfl,q⟩:=h;obtain⟨t,rfl⟩:=rx;obtain⟨u,rfl,ru⟩:=Vals.one rv;obtain⟨t2,rfl⟩:=ru;exact PySem.SC.endswith ⟨.bl _,H,I,rfl,q⟩
theorem mt_lstripC:MtR X "str.lstrip" (λx xs H Q=>∃y z:Str,x=.str y/\xs=[.str z]/\y.length<=sizeLine/\Q (.str (Txt.lstripChars y z)) H):=by
 intro pins s σ H x xs v us Q I rx rv h;obtain⟨y,z,rfl,rfl,l,q⟩:=h;obtain⟨t,rfl⟩:=rx;obtain⟨u,rfl,ru⟩:=Vals.one rv;obtain⟨t2,rfl⟩:=ru;exact PySem.SC.lstripChars (λt' k=>⟨.str _,H,I.tok k,⟨_,rfl⟩,q⟩) l
end
end L2
namespace L2
open PySem PySem.Spec PyProof.Rows Builtin Builtin.Str
theorem vals_strs:∀(l:List (Str×Tok)),Vals ((l.map (·.1)).map V.str) (strValues l)
 | []=>.nil
 | (x,t)::l=>.cons ⟨t,rfl⟩ (vals_strs l)
section
variable{X:Cx}
theorem mt_split:MtR X "str.split" (λx xs H Q=>∃y z:Str,x=.str y/\xs=[.str z]/\(z.length == 0)=false/\y.length<=sizeLine/\(partsBetween y (occurrences y z 0 y.length (y.length+1)) z.length).length<=sizeLine /\
  ∀l,H l=none->Q (.ref l) (upd H l (.lst ((Txt.split y z).map V.str)))):=by
 intro pins s σ H x xs v us Q I rx rv h;obtain⟨y,z,rfl,rfl,hz,ly,lp,q⟩:=h;obtain⟨t,rfl⟩:=rx;obtain⟨u,rfl,ru⟩:=Vals.one rv;obtain⟨t2,rfl⟩:=ru;have one:(1:Nat)<=sizeLine:=by decide
 have fin:∀(l:List (Str×Tok)) (k:Nat),l.map (·.1)=Txt.split y z->l.length<=sizeLine->EP X pins σ Q (.ref s.heap.objs.size) {s with toks:=k,heap:=s.heap.push {cls:=.type "list",data:=.seq (strValues l).toArray}}:=λl k e n=>by
  refine⟨.ref s.heap.objs.size,_,I.laid (t':=k) (λb u e=>qI _ e) (qG _) (show ObjOk X.prog X.w _ _ _ (.lst ((Txt.split y z).map V.str))from⟨?_,strValues l,0,?_,rB _ rfl⟩),rfl,q _ (I.hok.fresh (qG _))⟩
  ·rw[qA,<-e,qA];exact n
  ·rw[<-e];exact vals_strs l
 cases h1:(decide (y.length<z.length) || decide (strKind y<strKind z))with
 | true=>exact vY wG (u5 _ _ _) vZ (vT _ _) (meets_str_split_cannot_occur y z t t2 h1) (fin [(y,t)] s.toks (by unfold Txt.split;rw[if_pos h1];rfl) one)
 | false =>
   cases hf:(occurrences y z 0 y.length (y.length+1)).isEmpty with
   | true=>exact vY wG (u5 _ _ _) vZ (vT _ _) (meets_str_split_not_found y z t t2 h1 hz hf) (fin [(y,t)] s.toks (by unfold Txt.split;rw[if_neg (by rw[h1];decide),if_pos hf];rfl) one)
   | false =>
     refine vY wG (u5 _ _ _) vZ (vT _ _) (meets_str_split_sep y z t t2 h1 hz hf ly lp) ?_
     have w:=fin (numbered s.toks (partsBetween y (occurrences y z 0 y.length (y.length+1)) z.length)) (s.toks+(partsBetween y (occurrences y z 0 y.length (y.length+1)) z.length).length) (by rw[numbered_texts];unfold Txt.split;rw[if_neg (by rw[h1];decide),if_neg (by rw[hf];decide)]) (by rw[<-qA (f:=(·.1)),numbered_texts];exact lp)
     rw[<-strsFrom_eq]at w
     exact w
end
end L2
namespace L2
open PySem Builtin Builtin.Str
theorem qgm(x:Str)(c:Nat):Txt.startswith x ⟨#[c]⟩=decide (x.cps.toList.head?=some c):=by
 obtain⟨a⟩:=x;obtain⟨l⟩:=a;rw[xD,qY];unfold Txt.startswith subAt;cases l with
 | nil=>simp[Str.length]
 | cons d l =>
   simp[Str.length]
theorem ends1(x:Str)(c:Nat):Txt.endswith x ⟨#[c]⟩=decide (x.cps.toList.getLast?=some c):=by
 obtain⟨a⟩:=x;obtain⟨l⟩:=a;rw[xD,qY];unfold Txt.endswith subAt;rcases List.eq_nil_or_concat l with rfl | ⟨r,d,rfl⟩
 ·simp[Str.length]
 ·simp[Str.length]
end L2
namespace L2
open PySem Builtin Builtin.Str StrLaws
def posC(c:Nat):Nat->List Nat->List Nat
 | _,[]=>[]
 | a,d::r=>if d=c then a::posC c (a+1) r else posC c (a+1) r
theorem sub1{x:Str}{a d:Nat}{r:List Nat}(h:x.cps.toList.drop a=d::r)(c:Nat):subAt x ⟨#[c]⟩ a=true↔d=c:=by
 obtain⟨⟨l⟩⟩:=x;have h:l.drop a=d::r:=h;unfold subAt;have e:(({toList:=l}:Array Nat).extract a (a+(⟨#[c]⟩:Str).length))=#[d]:=by
  apply Array.ext';simp[Str.length,h]
 show(({toList:=l}:Array Nat).extract a (a+(⟨#[c]⟩:Str).length) == #[c])=true↔_;rw[e];simp
theorem qgk(x:Str)(c:Nat):∀(r:List Nat) (a:Nat) (st:Array Nat×Nat),x.cps.toList.drop a=r->a+r.length=x.length->st.2<=a->st.1.size<=a ->
  (forIn (List.range' a (r.length+1)) st (occBody x ⟨#[c]⟩ x.length (x.length+1))).run.fst.toList=st.1.toList++posC c a r
 | [], a, st, h, l, h1, h2 => by
   have l:a=x.length:=l
   rw[show List.range' a (([]:List Nat).length+1)=[a]from rfl,vJ]
   unfold occBody
   rw[if_neg (λz=>by have z2:a+1<=x.length:=z.1.2;omega)]
   show st.1.toList=_
   rw[posC,rC]
 | d :: r, a, st, h, l, h1, h2 => by
   rw[qT]at l
   have hd:x.cps.toList.drop (a+1)=r:=by rw[<-List.drop_drop,h];rfl
   rw[qT,List.range'_succ,vJ]
   unfold occBody
   by_cases e:d=c
   · rw[if_pos ⟨⟨⟨by show st.1.size<x.length+1;omega,h1⟩,by show a+1<=x.length;omega⟩,(sub1 h c).mpr e⟩]
     show(forIn (List.range' (a+1) (r.length+1)) (st.1.push a,a+1) (occBody x ⟨#[c]⟩ x.length (x.length+1))).run.fst.toList=_
     rw[qgk x c r (a+1) (st.1.push a,a+1) hd (by omega) (qG _) (by show(st.1.push a).size<=a+1;rw[Array.size_push];omega),posC,if_pos e]
     simp
   · rw[if_neg (λz=>e ((sub1 h c).mp z.2))]
     show(forIn (List.range' (a+1) (r.length+1)) st (occBody x ⟨#[c]⟩ x.length (x.length+1))).run.fst.toList=_
     rw[qgk x c r (a+1) st hd (by omega) (by omega) (by omega),posC,if_neg e]
theorem occ1(x:Str)(c:Nat):occurrences x ⟨#[c]⟩ 0 x.length (x.length+1)=posC c 0 x.cps.toList:=by
 rw[occ_eq];have h:=qgk x c x.cps.toList 0 (#[],0) rfl (by obtain⟨⟨l⟩⟩:=x;simp[Str.length]) (qG _) (qG _);rw[show x.cps.toList.length=x.length from by obtain⟨⟨l⟩⟩:=x;rfl]at h;simpa using h
def pref(a:List Nat):List (List Nat)->List (List Nat)
 | []=>[a]
 | p::q=>(a++p)::q
def qbf(c:Nat):List Nat->List (List Nat)
 | []=>[[]]
 | d::r=>if d=c then[]::qbf c r else pref [d] (qbf c r)
theorem pref_pref(a b:List Nat):∀l:List (List Nat),pref a (pref b l)=pref (a++b) l
 | []=>by simp[pref]
 | p::q=>by simp[pref]
theorem cut_ne(c:Nat):∀l:List Nat,∃p q,qbf c l=p::q
 | []=>⟨[],[],rfl⟩
 | d :: r => by
   obtain⟨p,q,e⟩:=cut_ne c r
   by_cases h:d=c
   · exact⟨[],qbf c r,by rw[qbf,if_pos h]⟩
   · exact⟨d::p,q,by rw[qbf,if_neg h,e];rfl⟩
abbrev mkS(l:List Nat):Str:=⟨l.toArray⟩
theorem qfd(x:Str)(a b:Nat):strSub x a b=mkS ((x.cps.toList.drop a).take (b-a)):=by
 obtain⟨⟨l⟩⟩:=x;unfold strSub mkS
 congr 1
 apply Array.ext';simp[List.take_drop]
theorem qdD(x:Str)(c:Nat):∀(r:List Nat) (a b:Nat),a<=b->x.cps.toList.drop b=r->b+r.length=x.length ->
  partsFrom x 1 a (posC c b r)=(pref ((x.cps.toList.drop a).take (b-a)) (qbf c r)).map mkS
 | [], a, b, ab, h, l => by
   have l:b=x.length:=l
   rw[posC,partsFrom,qfd,qbf,l]
   simp[pref]
 | d :: r, a, b, ab, h, l => by
   rw[qT]at l
   have hd:x.cps.toList.drop (b+1)=r:=by rw[<-List.drop_drop,h];rfl
   by_cases e:d=c
   · rw[posC,if_pos e,partsFrom,qdD x c r (b+1) (b+1) (qG _) hd (by omega),qfd,qbf,if_pos e]
     obtain⟨p,q,eq⟩:=cut_ne c r
     rw[eq]
     simp[pref]
   · rw[posC,if_neg e,qdD x c r a (b+1) (by omega) hd (by omega),qbf,if_neg e,pref_pref]
     congr 2
     have e1:b+1-a=(b-a)+1:=by omega
     rw[e1,rO]
     congr 1
     rw[List.getElem?_drop,show a+(b-a)=b by omega]
     have:x.cps.toList[b]?=some d:=by
       have:=xO (·[0]?) h
       simpa using this
     rw[this]
     rfl
theorem cut_none(c:Nat):∀{l:List Nat},c∉l->qbf c l=[l]
 | [],_=>rfl
 | d :: r, h => by
   rw[qbf,if_neg (λe=>h (by rw[e];exact qJ)),cut_none c (λm=>h (qN _ m))]
   rfl
theorem qht(c:Nat):∀{l:List Nat} {a:Nat},posC c a l=[]->c∉l
 | [],_,_=>by simp
 | d :: r, a, h => by
   rw[posC]at h
   by_cases e:d=c
   · rw[if_pos e]at h;cases h
   · rw[if_neg e]at h
     intro m
     rcases qO.mp m with z | z
     · exact e z.symm
     · exact qht c h z
theorem split_cut(x:Str)(c:Nat)(hk:¬strKind x<strKind ⟨#[c]⟩):Txt.split x ⟨#[c]⟩=(qbf c x.cps.toList).map mkS:=by
 unfold Txt.split
 have self:[x]=[x.cps.toList].map mkS:=by obtain⟨⟨l⟩⟩:=x;rfl
 by_cases h0:x.length<(⟨#[c]⟩:Str).length
 ·rw[if_pos (by simp[h0])];have:x.cps.toList=[]:=by
   have h0:x.length<1:=h0;obtain⟨⟨l⟩⟩:=x;have h0:l.length<1:=h0;exact rA (by show l.length=0;omega)
  rw[self,this];rfl
 ·rw[if_neg (by simp[h0,hk]),occ1]
  by_cases h1:posC c 0 x.cps.toList=[]
  ·rw[if_pos (by rw[h1];rfl),self,cut_none c (qht c h1)]
  ·rw[if_neg (by simpa using h1),partsBetween_eq];have:=qdD x c x.cps.toList 0 0 (qG _) rfl (by obtain⟨⟨l⟩⟩:=x;simp[Str.length]);rw[show(⟨#[c]⟩:Str).length=1 from rfl,this];obtain⟨p,q,e⟩:=cut_ne c x.cps.toList;rw[e];simp[pref]
theorem kind_low(x:Str){c:Nat}(h:c<256):¬Str.strKind x<Str.strKind ⟨#[c]⟩:=by
 have e:Str.strKind ⟨#[c]⟩=1:=by unfold Str.strKind;rw[if_pos (by simp[h])]
 rw[e];unfold Str.strKind
 split
 ·decide
 ·split<;>decide
theorem split_low(x:Str){c:Nat}(h:c<256):Txt.split x ⟨#[c]⟩=(qbf c x.cps.toList).map mkS:=split_cut x c (kind_low x h)
theorem qbB(p:Nat->Bool):∀l:List Nat,l.drop (l.takeWhile p).length=l.dropWhile p
 | []=>rfl
 | d :: r => by
   cases h:p d with
   | true=>simp[List.takeWhile_cons,List.dropWhile_cons,h,qbB p r]
   | false=>simp[List.takeWhile_cons,List.dropWhile_cons,h]
theorem qhX(x:Str)(c:Nat):Txt.lstripChars x ⟨#[c]⟩=mkS (x.cps.toList.dropWhile (·== c)):=by
 have ec:(λd=>(#[c]:Array Nat).contains d)=λd=>d == c:=by funext d;simp[Bool.beq_eq_decide_eq]
 unfold Txt.lstripChars Txt.stripBy;show(if stripSame (λd=>(#[c]:Array Nat).contains d) true false x then x else stripped (λd=>(#[c]:Array Nat).contains d) true false x)=_;rw[ec];unfold stripSame stripped stripLo stripHi;rw[if_pos rfl,if_neg qL]
 by_cases h:(x.cps.toList.takeWhile λd=>d == c).length=0
 ·rw[if_pos (by simp[h]),<-qbB,h];obtain⟨⟨l⟩⟩:=x;rfl
 ·rw[if_neg (by simp[h]),qfd,<-qbB]
  congr 2
  rw[rQ];rw[rW];obtain⟨⟨l⟩⟩:=x;exact qG _
end L2
namespace L2
open PySem
def qcf(n:Nat):Bool:=n == 32 || (9<=n && n<=13)
def figI(n:Nat):Option Nat :=
 if 48<=n && n<=57 then some (n-48)else if 97<=n && n<=122 then some (n-87)else if 65<=n && n<=90 then some (n-55)else none
def qhu(q:Nat)(p:Array Nat×Bool)(n:Nat):Option (Array Nat×Bool) :=
 match p with
 | (r, f) => if n == 95 then (if f then some (r, false) else none)
   else match figI n with
     | some k=>if k<q then some (r.push k,true)else none
     | none=>none
def qiJ(q:Nat)(l:List Nat):Option (Array Nat):=do
 let (r,f) <- l.foldlM (qhu q) ((#[]:Array Nat),false)
 if f then some r else none
def baseI:List Nat->Option Nat
 | 48::n::_=>if n == 120 || n == 88 then some 16 else if n == 111 || n == 79 then some 8 else if n == 98 || n == 66 then some 2 else none
 | _=>none
def qec(w:List Nat):Bool×List Nat:=match w with
 | 45::r=>(true,r)
 | 43::r=>(false,r)
 | _=>(false,w)
def behI(w:List Nat):List Nat:=match w.drop 2 with
 | 95::r=>r
 | r=>r
def askI(q:Nat)(w:List Nat):Nat×Bool×List Nat:=match baseI w with
 | some p=>if q == 0 || q == p then(p,false,behI w)else(q,false,w)
 | none=>if q == 0 then(10,w.head? == some 48,w)else(q,false,w)
def qiW{N:Type}(no:N)(long:Nat->N)(lib:N)(val:Int->N)(m q:Nat)(l:List Nat):N :=
 match qiJ (askI q (qec (l.dropWhile qcf)).2).1 ((askI q (qec (l.dropWhile qcf)).2).2.2.reverse.dropWhile qcf).reverse with
 | none=>no
 | some ds =>
   if ![2,4,8,16,32].contains (askI q (qec (l.dropWhile qcf)).2).1 && m != 0 && ds.size>m then long ds.size else
   if(askI q (qec (l.dropWhile qcf)).2).1 == 10 && ds.size>6000 then lib else
   if(askI q (qec (l.dropWhile qcf)).2).2.1 && ds.foldl (λu d=>u*(askI q (qec (l.dropWhile qcf)).2).1+d) 0 != 0 then no else val (if(qec (l.dropWhile qcf)).1 then -((ds.foldl (λu d=>u*(askI q (qec (l.dropWhile qcf)).2).1+d) 0:Nat):Int)else(ds.foldl (λu d=>u*(askI q (qec (l.dropWhile qcf)).2).1+d) 0:Nat))
def Fig(n:Nat):Prop:=48<=n/\n<=57
def numI(l:List Nat):Nat:=(l.map (·- 48)).foldl (λu d=>u*10+d) 0
theorem fig_blank{n:Nat}(h:Fig n):qcf n=false:=by
 obtain⟨h1,h2⟩:=h;unfold qcf;simp;omega
theorem fig_val{n:Nat}(h:Fig n):figI n=some (n-48):=by
 obtain⟨h1,h2⟩:=h;unfold figI;rw[if_pos (by simp;omega)]
theorem qgP{l:List Nat}(h:∀n∈l,Fig n):l.dropWhile qcf=l:=by
 cases l with
 | nil=>rfl
 | cons a r=>rw[wR,fig_blank (h a qJ)];rfl
theorem step_fig{a:Nat}(ha:Fig a)(r:Array Nat)(f:Bool):qhu 10 (r,f) a=some (r.push (a-48),true):=by
 have z:a≠95:=by have:=ha.2;omega
 have y:a-48<10:=by have:=ha.2;omega
 unfold qhu;simp[fig_val ha,z,y]
theorem figs_run:∀(l:List Nat) (r:Array Nat) (f:Bool),(∀n∈l,Fig n)->l.foldlM (qhu 10) (r,f)=some (r++(l.map (·- 48)).toArray,if l=[]then f else true)
 | [],r,f,_=>by simp
 | a :: l, r, f, h => by
   rw[List.foldlM_cons,step_fig (h a qJ)]
   show l.foldlM (qhu 10) (r.push (a-48),true)=_
   rw[figs_run l (r.push (a-48)) true λn hn=>h n (qN _ hn)]
   simp
theorem figs_all{l:List Nat}(h:∀n∈l,Fig n)(ne:l≠[]):qiJ 10 l=some (l.map (·- 48)).toArray:=by
 unfold qiJ;rw[figs_run l #[] false h,if_neg ne];simp
theorem no_zero:∀{l:List Nat},(∀n∈l,Fig n)->l.takeWhile (λx=>x != 0)=l
 | [],_=>rfl
 | a :: l, h => by
   have:a≠0:=by have:=(h a qJ).1;omega
   rw[vR,if_pos (by simp[this]),no_zero λn hn=>h n (qN _ hn)]
theorem qd4{N:Type}{no:N}{long:Nat->N}{lib:N}{val:Int->N}{l:List Nat}(h:∀n∈l,Fig n)(ne:l≠[])(h0:l.head?≠some 48)(sz:l.length<=100):qiW no long lib val 0 10 l=val (numI l:Int):=by
 have d2:(l.reverse.dropWhile qcf).reverse=l:=by rw[qgP λn hn=>h n (List.mem_reverse.mp hn),List.reverse_reverse]
 have s1:qec l=(false,l):=by
  cases l with
  | nil=>exact absurd rfl ne
  | cons a r =>
    have ha:=h a qJ
    have z3:a≠45:=by have:=ha.1;omega
    have z4:a≠43:=by have:=ha.1;omega
    unfold qec;split<;>simp_all
 have h1:baseI l=none:=by
  cases l with
  | nil=>rfl
  | cons a r =>
    have z:a≠48:=λe=>h0 (by rw[e];rfl)
    unfold baseI;split<;>simp_all
 have k1:askI 10 l=(10,false,l):=by unfold askI;rw[h1];rfl
 unfold qiW;rw[qgP h,s1];simp only[k1,d2,figs_all h ne];have l6:¬6000<l.length:=by omega
 simp[l6,numI]
theorem sno_int:typeLookup (.type "str") "__int__" = pure none:=by rw[y9,yE];kernel_rfl
theorem sno_index:typeLookup (.type "str") "__index__" = pure none:=by rw[y9,yE];kernel_rfl
theorem sno_trunc:typeLookup (.type "str") "__trunc__" = pure none:=by rw[y9,yE];kernel_rfl
theorem meets_int(x:Str)(u:Tok)(h:∀n∈x.cps.toList,Fig n)(ne:x.cps.toList≠[])(h0:x.cps.toList.head?≠some 48)(sz:x.cps.toList.length<=100) :
  Meets (Builtin.«int.__new__» ⟨[.type "int",.str x u],[]⟩) (Made.int (numI x.cps.toList:Int)).spec :=
 Meets.of_wp λprog w A R s hs=>by
  obtain⟨hp,g,d,tk,os⟩:=s;have f1:=F.conv_sub_int;have f2:=F.madeHere_int;have g1:=sno_int;have g2:=sno_index;have g3:=sno_trunc;have ha:x.cps.all (·< 128)=true:=by
   rw[yG];intro c hc;have:=(h c (by simpa using hc)).2;exact qB (by omega)
  have hT:(⟨hp,g,d,tk,os⟩:Shared).TypeIs (.str x u) "str":=rfl
  repeat (any_goals (first | assumption | wp_step))
  rw[if_pos ha];have tw:=no_zero h;rw[tw,if_pos (by omega)]
  repeat (any_goals (first | assumption | wp_step))
  split
  case h_1 n hh=>exact nomatch hh.symm.trans (qd4 h ne h0 sz)
  case h_2 hh=>exact nomatch hh.symm.trans (qd4 h ne h0 sz)
  case h_3 i hh =>
   have e:=hh.symm.trans (qd4 h ne h0 sz);injection e with e
   subst e;rw[if_pos (by simp)]
   repeat (any_goals (first | assumption | wp_step))
   all_goals first | exact⟨_,rfl,hs⟩ | skip
  case h_4 hh=>exact nomatch hh.symm.trans (qd4 h ne h0 sz)
end L2
namespace L2
open PySem PySem.Spec PyProof.Rows
section
variable{X:Cx}
theorem call_intS:qc8 X (.type "int") (λxs H Q=>∃x:Str,xs=[.str x]/\(∀n∈x.cps.toList,Fig n)/\x.cps.toList≠[]/\x.cps.toList.head?≠some 48/\x.cps.toList.length<=100/\Q (.int (numI x.cps.toList:Int)) H):=by
 intro pins s σ H xs us Q I r h;obtain⟨x,rfl,h1,ne,h0,sz,q⟩:=h;obtain⟨u,rfl,rx⟩:=qd2 r;obtain⟨t,rfl⟩:=rx;exact call_int_1 (meets_int x t h1 ne h0 sz) (show(Made.int (numI x.cps.toList:Int)).post _ s from⟨rfl,⟨.int _,H,I.tok _,⟨_,rfl⟩,q⟩⟩)
end
end L2
namespace Bk
open PySem L2 Gen
theorem wordB_iff{x:Str}:qeG x=true↔Word x:=by
 refine⟨λh=>?_,qgT⟩;unfold qeG at h;rw[rG,qY,all_map]at h;exact⟨by omega,by omega,λc hc=>rL (h.2 c hc)⟩
theorem nameB_iff{x:Str}:qdc x=true↔Name x:=by
 refine⟨λh=>?_,qdk⟩;unfold qdc at h;rw[rG,qY,all_map]at h;exact⟨by omega,by omega,λc hc=>(qfG c).mp (rL (h.2 c hc))⟩
theorem pieceB_iff{x:Th}:pieceB x=true↔PcOk x:=by
 refine⟨λh=>?_,qdw⟩;cases x with
 | int n=>cases h
 | tri s x t =>
   cases s<;>cases x<;>first | cases h | skip
   · have h:(decide _ && qeG _)=true:=h
     rw[rG,qY,wordB_iff]at h
     exact⟨h.2,h.1⟩
   · have h:(decide _ && qdc _)=true:=h
     rw[rG,qY,nameB_iff]at h
     exact⟨h.2,h.1⟩
   · have h:(decide _ && decide _)=true:=h
     rw[rG,qY,qY]at h
     exact⟨h.1.1,h.1.2,by omega⟩
def sideB:Th->Bool
 | .int n=>decide (1<=n/\n<=2000)
 | _=>false
def qc5(st:List Th):Prop:=(∀x∈st,PcOk x)/\(∃x r,st=x::r/\isNote x=false)/\st.length<=60
def qiS(k:Kd)(st:List Th):Prop:=(ofPieces k=true->∀x∈st,PcForm x)/\(k=.picture->∀x∈st,∃n,x=.int n)/\st.length<=500
def qf3(l:List Str):Prop:=(∀m∈l,Low m/\m.length<=1000)/\l.length<=500
theorem stuff_pic{st:List Th}(h:st.length=2):(st.map sideB).all id=true↔Stuff .picture st:=by
 match st,h with
 | [x, y], _ =>
   cases x with
   | tri s x t=>simp[sideB,Stuff]
   | int a =>
     cases y with
     | tri s x t=>simp[sideB,Stuff]
     | int b =>
       show(decide (1<=a/\a<=2000) && (decide (1<=b/\b<=2000) && true))=true↔_
       rw[wT,rG,qY,qY]
       constructor
       · intro z
         exact⟨a,b,rfl,z.1.1,z.1.2,z.2.1,z.2.2⟩
       · rintro⟨a',b',e,z⟩
         cases e
         exact⟨⟨z.1,z.2.1⟩,z.2.2.1,z.2.2.2⟩
theorem qcg{k:Kd}{st:List Th}(h:k∈[Kd.text,.head,.note]):qc5 st↔Stuff k st:=by
 rcases qO.mp h with rfl | h
 ·exact Iff.rfl
 rcases qO.mp h with rfl | h
 ·exact Iff.rfl
 have:k=.note:=by simpa using h
 subst this;exact Iff.rfl
theorem stuff_none{k:Kd}{st:List Th}(h1:k≠.picture)(h2:k∉[Kd.text,.head,.note]):st=[]↔Stuff k st:=by
 cases k<;>first | exact Iff.rfl | exact absurd rfl h1 | exact absurd (by decide) h2
theorem qir{x:Str}(h:Low x):PyData.strOk x=true:=by
 show(x.cps.all λc=>decide (c<0x110000))=true;unfold Low at h;rw[yG]at h⊢;intro c hc;have:=rL (h c hc);exact qB (by omega)
structure Raw(d:Nd):Prop where
 nm:Low d.nm/\d.nm.length<=1000
 mks:qf3 d.mks
 ok:∀x∈d.st,PySem.W.kqdOk 6 (thD x)=true
 st:qiS d.k d.st
def qhb(d:Nd):Prop:=-1<=d.e/\d.e<=60/\d.k∈kindsAll/\Form d
def Hang(ds:List Nd)(n:Nat)(d:Nd):Prop:=(n=0/\d.e=-1)\/(0<n/\∃j m:Nat,d.e=(j:Int)/\j<n/\Up ds (n-1) j m)
structure TreeOk(ds:List Nd)(n:Nat)(d:Nd):Prop where
 body:d.k=.body↔n=0
 up:Hang ds n d
 lev:∃u,u<=6/\Lev ds n u
structure GoodX(ds:List Nd):Prop where
 ge:1<=ds.length
 le:ds.length<=60
 form:∀d∈ds,qhb d
 tree:∀(n:Nat) (d:Nd),ds[n]?=some d->TreeOk ds n d
 held:∀(n:Nat) (d:Nd),ds[n]?=some d->Holds d.k (kk ds n) d.st
 names:qd1 ds
theorem once_nodup:∀{ks:List Str},(once ks).length=ks.length->ks.Nodup:=by
 have le:∀(ks l:List Str),(ks.foldl one1 l).length<=l.length+ks.length:=by
  intro ks
  induction ks with
  | nil=>intro l;simp
  | cons k ks ih =>
    intro l
    have h1:(one1 l k).length<=l.length+1:=by
      unfold one1
      split<;>simp
    have:=ih (one1 l k)
    rw[xY,qT]
    omega
 have main:∀(ks l:List Str),l.Nodup->(ks.foldl one1 l).length=l.length+ks.length->(l++ks).Nodup:=by
  intro ks
  induction ks with
  | nil=>intro l hl _;simpa using hl
  | cons k ks ih =>
    intro l hl h
    rw[xY,qT]at h
    by_cases hk:k∈l
    · have e:one1 l k=l:=by unfold one1;simp[hk]
      rw[e]at h
      have:=le ks l
      omega
    · have e:one1 l k=l++[k]:=by unfold one1;simp[hk]
      rw[e]at h
      have nd:(l++[k]).Nodup:=by
        rw[uV]
        exact⟨hl,by simp,λa ha b hb=>by rintro rfl;simp at hb;subst hb;exact hk ha⟩
      have:=ih (l++[k]) nd (by rw[qH,y4];omega)
      simpa using this
 intro ks h;have h':(ks.foldl one1 []).length=ks.length:=h;have:=main ks [] (by simp) (by rw[h'];simp);simpa using this
end Bk
namespace Gen
open PySem L2 Bk
def spPiecesX:Sp:=λvs H Q _=>∃(s:Addr) (st:List Th) (N:Addr->Prop),vs=[.ref s]/\StAt N H s st/\(∀x∈st,PcForm x)/\st.length<=500/\∀b H',Same H H'->(b=true↔qc5 st)->Q (.bl b) H'
def spStuffX:Sp:=λvs H Q _=>∃(k:Kd) (s:Addr) (st:List Th) (N:Addr->Prop),vs=[.str k.s,.ref s]/\StAt N H s st/\qiS k st/\∀b H',Same H H'->(b=true↔Stuff k st)->Q (.bl b) H'
def spMarksX:Sp:=λvs H Q _=>∃(m:Addr) (mks:List Str),vs=[.ref m]/\H m=some (.lst (mks.map V.str))/\qf3 mks/\∀b H',Same H H'->(b=true↔qif mks)->Q (.bl b) H'
def spFormX:Sp:=λvs H Q _=>∃(a:Addr) (d:Nd) (N:Addr->Prop),vs=[.ref a]/\NdAt N H a d/\Raw d/\∀(t:Str) (H':Hp),Same H H'->t.length<=200->(t=noName↔qhb d)->Q (.str t) H'
def qfP(C:Addr):Sp:=λvs H Q E=>∃(n:Int) (t:Str),vs=[.int n,.str t]/\n.natAbs<1000/\t.length<=200/\((t=noName/\Q .non H)\/(t≠noName/\E (.ref C) none H))
def spUnlikeX:Sp:=λvs H Q _=>∃(l:Addr) (ks:List Str),vs=[.ref l]/\H l=some (.lst (ks.map V.str))/\ks.length<=1000/\∀b H',Same H H'->(b=true↔ks.Nodup)->Q (.bl b) H'
def spMayX:Sp:=λvs H Q _=>∃e k:Kd,vs=[.str e.s,.str k.s]/\e∈kindsAll/\Q (.bl (mayHold e k)) H
def qil(ds:List Nd)(n:Nat):Prop:=0<n->∃u,u<=6/\Lev ds (n-1) u
def spHangsX:Sp:=λvs H Q _=>∃(p:Addr) (n:Nat) (d:Nd) (ds:List Nd) (N:Addr->Prop),vs=[.ref p,.int n]/\BookAt N H p ds/\ds[n]?=some d/\qil ds n/\∀b H',Same H H'->(b=true↔Hang ds n d)->Q (.bl b) H'
def spTreeX:Sp:=λvs H Q _=>∃(p:Addr) (n:Nat) (d:Nd) (ds:List Nd) (N:Addr->Prop),vs=[.ref p,.int n]/\BookAt N H p ds/\ds[n]?=some d/\(∀i c,i<n->ds[i]?=some c->TreeOk ds i c)/\∀(t:Str) (H':Hp),Same H H'->t.length<=200->(t=noName↔TreeOk ds n d)->Q (.str t) H'
def spHeldX:Sp:=λvs H Q _=>∃(p:Addr) (n:Nat) (d:Nd) (ds:List Nd) (N:Addr->Prop),vs=[.ref p,.int n]/\BookAt N H p ds/\ds.length<=100/\ds[n]?=some d/\(∀c∈ds,qhb c)/\∀(t:Str) (H':Hp),Same H H'->t.length<=200->(t=noName↔Holds d.k (kk ds n) d.st)->Q (.str t) H'
end Gen
namespace L2
theorem Same.none{H H':Hp}{b:PySem.Addr}(s:Same H H')(h:H' b=.none):H b=.none:=by
 cases e:H b with
 | none=>rfl
 | some o=>rw[s b o e]at h;cases h
end L2
namespace Gen
open PySem L2 Bk
def KTup(K:W.Frag)(a:Addr)(ks:List Kd):Prop:=∀H,SqT K H a (ks.map λk=>V.str k.s)
theorem qby(ks:List Kd):(ks.map λk=>V.str k.s).all flatV=true:=by
 rw[xB];intro x hx;obtain⟨k,_,rfl⟩:=qV.mp hx;rfl
theorem qbT(k:Kd)(ks:List Kd):inV (.str k.s) (ks.map λk=>V.str k.s)=decide (k∈ks):=by
 unfold inV
 induction ks with
 | nil=>simp
 | cons c ks ih =>
   rw[rH,xQ,ih]
   have e:eqV (V.str c.s) (V.str k.s)=decide (c=k):=by
     show(c.s == k.s)=_
     rw[xD]
     simp[Kd.inj]
   rw[e]
   by_cases h:c=k
   · subst h;simp
   · have h':¬k=c:=λz=>h z.symm
     simp[h,h']
theorem qdN{α β:Type}{f:α->β}(hf:∀a b,f a=f b->a=b):∀{l m:List α},l.map f=m.map f->l=m
 | [],[],_=>rfl
 | a :: l, b :: m, h => by
   rw[rH,rH]at h
   injection h with h1 h2
   rw[hf a b h1,qdN hf h2]
def tl1(x:Str):Str:=⟨(x.cps.toList.drop 1).toArray⟩
def labB(c:Nat)(x:Str):Bool:=decide (x.cps.toList.head?=some c) && qdc (tl1 x)
def qbW(x:Str):Nat:=(x.cps.toList.takeWhile (·== 62)).length
def qaJ(x:Str):List Str:=(qbf 32 (x.cps.toList.dropWhile (·== 62))).map mkS
def qbi(ws:List Str):Nat:=ws.findIdx (·== T "|")
def qbe(ws:List Str):List Str:=(ws.drop 1).take (qbi ws-1)
def qbK(ws:List Str):List Str:=ws.drop (qbi ws+1)
def qbw(ls:List Str):Bool:=match ls with | []=>false | l::_=>labB 35 l
def qbA(ls:List Str):Bool:=((if qbw ls then ls.drop 1 else ls).map (labB 46)).all id
def qbF(ls:List Str):Str:=if qbw ls then tl1 (ls.headD noName)else noName
def qbd(ls:List Str):List Str:=(ls.filter (labB 46)).map tl1
def qaE(k:Kd):Bool:=decide (k=.picture) || decide (k∈[Kd.text,.head,.note])
def qcb(x:Str):Bool:=decide (1<=x.length/\x.length<=4) && !decide (x.cps.toList.head?=some 48) && (x.cps.toList.map λc=>decide (c∈figS.cps.toList)).all id
def qaK(x:Str):Int:=if qcb x then(numI x.cps.toList:Int)else 0
def qeH(l:List Nat):List Nat:=(l.drop 1).dropLast
def thing(x:Str):List Nat:=x.cps.toList.dropWhile (·== 42)
def qbL(x:Str):Th :=
 if(thing x).head?=some 123/\(thing x).getLast?=some 125 then .tri .page (.inl (mkS (qeH (thing x)))) ((x.length:Int)-(thing x).length)
 else .tri .word (.inl (mkS (thing x))) ((x.length:Int)-(thing x).length)
def qcJ(n:Int):Th:=.tri .note (.inr n) 0
def qaA(x:Str):Option Th:=if x=T "{}" then some (qcJ 0)else if pieceB (qbL x)=true then some (qbL x)else none
open Classical in
noncomputable def qaT(k:Kd)(ws:List Str):Option (List Th) :=
 if k=.picture then(if Stuff .picture (ws.map λx=>Th.int (qaK x))then some (ws.map λx=>Th.int (qaK x))else none)
 else if(ws.map qaA).any Option.isNone || (qaE k != decide (0<ws.length))then none
 else some (ws.filterMap qaA)
def kindOf(x:Str):Option Kd:=kindsAll.find? λk=>k.s == x
noncomputable def qa8(x:Str):Option Nd :=
 match kindOf ((qaJ x).headD noName)with
 | none=>none
 | some k => if !qbA (qbe (qaJ x)) || (!qaE k && decide (qbi (qaJ x) < (qaJ x).length)) then none
   else(qaT k (qbK (qaJ x))).map λst=>⟨(qbW x:Int),k,qbF (qbe (qaJ x)),qbd (qbe (qaJ x)),st⟩
structure RowOk(x:Str):Prop where
 low:Low x
 len:x.length<=100000
 ws:qf3 (qaJ x)
 labs:(qbe (qaJ x)).length<=60
def spLabel:Sp:=λvs H Q _=>∃(x:Str) (c:Nat),vs=[.str x,.str ⟨#[c]⟩]/\Low x/\x.length<=1000/\∀H',Same H H'->Q (.bl (labB c x)) H'
def spHasStuff:Sp:=λvs H Q _=>∃k:Kd,vs=[.str k.s]/\Q (.bl (qaE k)) H
def qfJ(H:Hp)(l:Addr)(ls:List Str):Prop:=H l=some (.lst (ls.map V.str))/\qf3 ls
def spAreLabs:Sp:=λvs H Q _=>∃(l:Addr) (ls:List Str),vs=[.ref l]/\qfJ H l ls/\∀H',Same H H'->Q (.bl (qbA ls)) H'
def spNameLab:Sp:=λvs H Q _=>∃(l:Addr) (ls:List Str),vs=[.ref l]/\qfJ H l ls/\∀H',Same H H'->Q (.str (qbF ls)) H'
def spMarkLabs:Sp:=λvs H Q _=>∃(l:Addr) (ls:List Str),vs=[.ref l]/\qfJ H l ls/\∀m H',H m=none->Same H H'->H' m=some (.lst ((qbd ls).map V.str))->Q (.ref m) H'
def spReadSide:Sp:=λvs H Q _=>∃x:Str,vs=[.str x]/\Low x/\x.length<=1000/\∀H',Same H H'->Q (.int (qaK x)) H'
def OpAt(N:Addr->Prop)(H:Hp)(v:V):Option Th->Prop
 | none=>v=.non
 | some th=>ItAt N H v th
def spReadPiece:Sp:=λvs H Q _=>∃x:Str,vs=[.str x]/\Low x/\x.length<=1000/\∀v H',Same H H'->OpAt (qbP H) H' v (qaA x)->Q v H'
def spReadStuff:Sp:=λvs H Q _=>∃(k:Kd) (l:Addr) (ws:List Str),vs=[.str k.s,.ref l]/\qfJ H l ws/\(qaT k ws=none->∀H',Same H H'->Q .non H')/\(∀st,qaT k ws=some st->∀s H',Same H H'->StAt (qbP H) H' s st->Q (.ref s) H')
def spRowParts:Sp:=λvs H Q _=>∃x:Str,vs=[.str x]/\RowOk x/\(qa8 x=none->∀H',Same H H'->Q .non H')/\(∀d,qa8 x=some d->∀a H',Same H H'->NdAt (qbP H) H' a d->Q (.ref a) H')
theorem qf9{x:Str}{l:List Nat}(lo:Low x)(h:∀n∈l,n∈x.cps.toList):Low (mkS l):=qcI λn hn=>by
 have hn:n∈x.cps.toList:=h n (by simpa using hn);unfold Low at lo;rw[yG]at lo;exact rL (lo n (by simpa using hn))
theorem qbo(x:Str):x.cps.toList.length=x.length:=by obtain⟨⟨l⟩⟩:=x;rfl
theorem qdi(l:List Nat):(mkS l).length=l.length:=rfl
theorem tl1_low{x:Str}(lo:Low x):Low (tl1 x):=qf9 lo λn hn=>yR hn
theorem tl1_len{x:Str}(le:x.length<=1000):(tl1 x).length<=1000:=by
 show(x.cps.toList.drop 1).toArray.size<=1000;rw[rK,rW,qbo];omega
theorem qet{l m:List Str}(h:qf3 l)(s:∀x∈m,x∈l)(le:m.length<=l.length):qf3 m:=⟨λx hx=>h.1 x (s x hx),qR le h.2⟩
theorem qd8{xs:List V}(n:Nat):cutV xs (some (n:Int)) none=xs.drop n:=by
 unfold cutV;rw[HT.sIx_none,HT.sIx_nat]
 by_cases h:n<=xs.length
 ·rw[y8 h,rQ (by rw[rW];omega)]
 ·rw[Nat.min_eq_right (by omega),xA (qG _),xA (by omega)];simp
theorem qix{xs:List V}(n:Nat):cutV xs none (some (n:Int))=xs.take n:=by
 unfold cutV;rw[HT.sIx_none,HT.sIx_nat];rw[Nat.sub_zero,vF]
 by_cases h:n<=xs.length
 ·rw[y8 h]
 ·rw[Nat.min_eq_right (by omega),rQ (qG _),rQ (by omega)]
theorem cut_mid{xs:List V}(a b:Nat)(h:b<=xs.length)(ha:a<=xs.length):cutV xs (some (a:Int)) (some (b:Int))=(xs.drop a).take (b-a):=by
 unfold cutV;rw[HT.sIx_nat,HT.sIx_nat,y8 h,y8 ha]
theorem slice_in{x:Str}(h:1<=x.length):Txt.slice x (some 1) (some (-1))=mkS (qeH x.cps.toList):=by
 obtain⟨⟨l⟩⟩:=x
 match l,h with
 | [a],_=>rfl
 | a :: b :: l, _ =>
   show StrLaws.sliceText _ (some 1) (some (-1))=_
   rw[StrLaws.sliceText_neg_hi _ _ (by decide) (by show -(((a::b::l).length:Nat):Int)<=-1;simp;omega),StrLaws.sliceText_plain ⟨by decide,by show(1:Int)<=-1+(((a::b::l).length:Nat):Int);simp;omega,by show -1+(((a::b::l).length:Nat):Int)<=_;simp;omega⟩]
   show(⟨(((a::b::l).drop 1).take (-1+(((a::b::l).length:Nat):Int)-1).toNat).toArray⟩:Str)=mkS ((b::l).dropLast)
   rw[show(-1+(((a::b::l).length:Nat):Int)-1).toNat=(b::l).length-1 by simp;omega,List.dropLast_eq_take]
   rfl
theorem qcp(p:Nat->Bool)(l:List Nat):(l.dropWhile p).length<=l.length:=(yB p).sublist.length_le
theorem while_len(p:Nat->Bool)(l:List Nat):l.length-(l.dropWhile p).length=(l.takeWhile p).length:=by
 have:=xO List.length (List.takeWhile_append_dropWhile (p:=p) (l:=l));rw[qH]at this;omega
theorem qhH(c:Nat):∀l:List Nat,(qbf c l).length<=l.length+1
 | []=>by simp[qbf]
 | d :: r => by
   have:=qhH c r
   rw[qbf]
   by_cases e:d=c
   · rw[if_pos e,qT,qT];omega
   · rw[if_neg e]
     obtain⟨p,q,eq⟩:=cut_ne c r
     rw[eq]at this⊢
     rw[pref,qT,qT]at *
     omega
open Builtin Builtin.Str StrLaws in
theorem mt_split1{X:Cx}:MtR X "str.split" (λx xs H Q=>∃(y:Str) (c:Nat),x=.str y/\xs=[.str ⟨#[c]⟩]/\c<256/\y.length<=100000/\∀l,H l=none->Q (.ref l) (upd H l (.lst (((qbf c y.cps.toList).map mkS).map V.str)))):=by
 intro pins s σ H x xs v us Q I rx rv h;obtain⟨y,c,rfl,rfl,hc,hy,q⟩:=h;refine mt_split pins s σ H _ _ v us Q I rx rv ⟨y,⟨#[c]⟩,rfl,rfl,rfl,qR hy (by decide),?_,λl hl=>?_⟩
 ·rw[occ1,partsBetween_eq,show(⟨#[c]⟩:Str).length=1 from rfl,qdD y c y.cps.toList 0 0 (qG _) rfl (by rw[qbo];simp),qA];obtain⟨p,q',e⟩:=cut_ne c y.cps.toList;have:=qhH c y.cps.toList;rw[qbo]at this;rw[e]at this⊢;rw[pref,qT]at *;exact qR this (qR (u9 hy) (by decide))
 ·rw[split_low y hc];exact q l hl
theorem qii(ws:List Str):qbi ws<=ws.length:=List.findIdx_le_length
theorem qih{ws:List Str}(h:T "|" ∈ ws):ws[qbi ws]?=some (T "|")/\(∀i:Nat,i<qbi ws->ws[i]?≠some (T "|")):=by
 unfold qbi;have hl:ws.findIdx (·== T "|")<ws.length:=List.findIdx_lt_length_of_exists ⟨_,h,by simp⟩;refine⟨?_,λi hi e=>?_⟩
 ·rw[qE hl];have:=List.findIdx_getElem (w:=hl);simpa using this
 ·have hi':i<ws.length:=uF hi hl;have:=List.not_of_lt_findIdx hi;rw[qE hi']at e;have e:ws[i]=T "|":=rD e;rw[e]at this;simp at this
theorem bar_out{ws:List Str}(h:T "|" ∉ ws):qbi ws=ws.length:=by
 unfold qbi;rw[List.findIdx_eq_length];intro x hx;rw[beq_eq_false_iff_ne];rintro rfl;exact h hx
theorem qip{n:Nat}(h:n∈figS.cps.toList):Fig n:=by
 have all:∀n∈figS.cps.toList,48<=n/\n<=57:=by ac_rfl
 exact all n h
theorem sg_hash:T "#" = ⟨#[35]⟩:=by ac_rfl
theorem sg_dot:T "." = ⟨#[46]⟩:=by ac_rfl
theorem sg_gt:T ">" = ⟨#[62]⟩:=by ac_rfl
theorem sg_sp:T " " = ⟨#[32]⟩:=by ac_rfl
theorem sg_star:T "*" = ⟨#[42]⟩:=by ac_rfl
theorem sg_open:T "{" = ⟨#[123]⟩:=by ac_rfl
theorem sg_close:T "}" = ⟨#[125]⟩:=by ac_rfl
theorem sg_zero:T "0" = ⟨#[48]⟩:=by ac_rfl
theorem qhr{x:Str}(h:1<=x.length):Txt.slice x (some 1) none=tl1 x:=qeI (j:=1) (by decide) (by omega)
theorem qhp{c:Nat}{x:Str}(h:labB c x=true):1<=x.length:=by
 unfold labB at h;rw[rG,qY]at h;have h:=h.1;rw[<-qbo];cases e:x.cps.toList with
 | nil=>rw[e]at h;cases h
 | cons a r=>simp
theorem qdd{x:Str}{k:Kd}(h:kindOf x=some k):k.s=x/\k∈kindsAll:=by
 unfold kindOf at h;have h1:=List.find?_some h;exact⟨by simpa using h1,List.mem_of_find?_eq_some h⟩
theorem kindOf_in(x:Str):decide (x∈kindsAll.map Kd.s)=(kindOf x).isSome:=by
 unfold kindOf;rw[xD,qY,List.find?_isSome,qV];simp
theorem qfr{c n:Nat}:∀{l w:List Nat},w∈qbf c l->n∈w->n∈l
 | [], w, h, hn => by
   have:w=[]:=by simpa[qbf]using h
   subst this
   cases hn
 | d :: r, w, h, hn => by
   rw[qbf]at h
   by_cases e:d=c
   · rw[if_pos e]at h
     rcases qO.mp h with rfl | h
     · cases hn
     · exact qN _ (qfr h hn)
   · rw[if_neg e]at h
     obtain⟨p,q,eq⟩:=cut_ne c r
     rw[eq,pref]at h
     rcases qO.mp h with rfl | h
     · rcases qW.mp hn with z | z
       · have:n=d:=by simpa using z
         rw[this];exact qJ
       · exact qN _ (qfr (by rw[eq];exact qJ) z)
     · exact qN _ (qfr (by rw[eq];exact qN _ h) hn)
theorem qck{c:Nat}:∀{l w:List Nat},w∈qbf c l->w.length<=l.length
 | [], w, h => by
   have:w=[]:=by simpa[qbf]using h
   subst this
   simp
 | d :: r, w, h => by
   rw[qbf]at h
   rw[qT]
   by_cases e:d=c
   · rw[if_pos e]at h
     rcases qO.mp h with rfl | h
     · simp
     · exact wB (qck h)
   · rw[if_neg e]at h
     obtain⟨p,q,eq⟩:=cut_ne c r
     rw[eq,pref]at h
     rcases qO.mp h with rfl | h
     · have:=qck (c:=c) (l:=r) (w:=p) (by rw[eq];exact qJ)
       rw[qH,y4]
       omega
     · exact wB (qck (by rw[eq];exact qN _ h))
theorem qfN(c:Nat):∀l:List Nat,(qbf c l).length=l.count c+1
 | []=>by simp[qbf]
 | d :: r => by
   have:=qfN c r
   rw[qbf]
   by_cases e:d=c
   · rw[if_pos e,qT,this,e,List.count_cons_self]
   · rw[if_neg e,List.count_cons_of_ne (by simpa using e)]
     obtain⟨p,q,eq⟩:=cut_ne c r
     rw[eq]at this⊢
     rw[pref,qT]at *
     exact this
theorem rowOk_of{x:Str}(lo:Low x)(le:x.length<=1000)(sp:x.cps.toList.count 32<=59):RowOk x:=by
 have hc:=qfN 32 (x.cps.toList.dropWhile (·== 62));have hs:(x.cps.toList.dropWhile (·== 62)).count 32<=x.cps.toList.count 32:=(yB _).sublist.count_le _;have hd:=qcp (·== 62) x.cps.toList;rw[qbo]at hd;have lw:(qaJ x).length<=60:=by
  unfold qaJ;rw[qA];omega
 refine⟨lo,by omega,⟨λw hw=>?_,by omega⟩,?_⟩
 ·obtain⟨l,hl,rfl⟩:=qV.mp hw;refine⟨qf9 lo λn hn=>?_,?_⟩
  ·exact(yB _).subset (qfr hl hn)
  ·rw[qdi];have:=qck hl;omega
 ·unfold qbe;rw[rN,rW];omega
theorem words_ne(x:Str):1<=(qaJ x).length:=by
 unfold qaJ;obtain⟨p,q,e⟩:=cut_ne 32 (x.cps.toList.dropWhile (·== 62));rw[e];simp
theorem qeS{α β γ:Type}{F:β->γ->Prop}{f:α->β}{g:α->γ}:∀{l:List α},(∀x∈l,F (f x) (g x))->Paired F (l.map f) (l.map g)
 | [],_=>.nil
 | x::r,h=>.cons (h x qJ) (qeS λy hy=>h y (qN _ hy))
theorem OpAt.same{N:Addr->Prop}{H H':Hp}{v:V}{o:Option Th}(h:OpAt N H v o)(s:Same H H'):OpAt N H' v o:=by
 cases o with
 | none=>exact h
 | some t=>exact ItAt.keep (N:=N) (N':=N) h s.keep λ_ n _=>n
theorem OpAt.sub{H0 H H':Hp}{v:V}{o:Option Th}(h:OpAt (qbP H) H' v o)(s:Same H0 H):OpAt (qbP H0) H' v o:=by
 cases o with
 | none=>exact h
 | some t=>exact ItAt.keep (N:=qbP H) (N':=qbP H0) h KeepN.refl λb n _=>s.none n
theorem read_tri(x:Str):∀t,qaA x=some t->∃s y n,t=.tri s y n:=by
 intro t h;unfold qaA at h
 by_cases e:x=T "{}"
 ·rw[if_pos e]at h;cases h;exact⟨_,_,_,rfl⟩
 ·rw[if_neg e]at h
  by_cases e2:pieceB (qbL x)=true
  ·rw[if_pos e2]at h;cases h;unfold qbL
   split<;>exact⟨_,_,_,rfl⟩
  ·rw[if_neg e2]at h;cases h
section
variable{N:Addr->Prop}{H:Hp}{vs:List V}{os:List (Option Th)}
theorem op_kinds(p:Paired (OpAt N H) vs os):(∀o∈os,∀t,o=some t->∃s y n,t=.tri s y n)->∀v∈vs,v=.non\/∃a ys,v=.ref a/\H a=some (.tup ys):=by
 induction p with
 | nil=>intro _ v hv;cases hv
 | @cons v o vs os q t ih =>
   intro h u hu
   rcases qO.mp hu with rfl | hu
   · cases o with
     | none=>exact .inl q
     | some th =>
       obtain⟨s,y,n,rfl⟩:=h _ qJ th rfl
       obtain⟨a,e,_,g⟩:=q
       exact .inr ⟨a,_,e,g⟩
   · exact ih (λo ho=>h o (qN _ ho)) u hu
theorem op_any(p:Paired (OpAt N H) vs os):vs.any isNo=os.any Option.isNone:=by
 induction p with
 | nil=>rfl
 | @cons v o vs os q t ih =>
   rw[xQ,xQ,ih]
   congr 1
   cases o with
   | none=>rw[show v=.non from q];rfl
   | some th =>
     cases th with
     | int n=>rw[show v=.int n from q];rfl
     | tri s y n =>
       obtain⟨a,e,_⟩:=q
       rw[e];rfl
theorem op_all(p:Paired (OpAt N H) vs os):os.any Option.isNone=false->Paired (ItAt N H) vs (os.filterMap id):=by
 induction p with
 | nil=>intro _;exact .nil
 | @cons v o vs os q t ih =>
   intro h
   rw[xQ,Bool.or_eq_false_iff]at h
   cases o with
   | none=>cases h.1
   | some th=>exact .cons q (ih h.2)
end
end Gen
namespace K10
open PySem L2 Bk Gen
abbrev sIsLabel:Stmt:=top 73
abbrev sHasStuff:Stmt:=top 71
abbrev sAreLabels:Stmt:=top 72
abbrev sNameLabel:Stmt:=top 74
abbrev sMarkLabels:Stmt:=top 75
abbrev sReadSide:Stmt:=top 77
section
variable{P:Program}{w:World}{K:W.Frag}{mg:Str->Option Value}{base:Heap}
theorem scIsLabel:FnScope ["label", "sign"] ["label", "sign"] (qaf sIsLabel):=⟨rfl,rfl,rfl,by ac_rfl,rfl,by ac_rfl,by ac_rfl⟩
theorem ok_is_label{f:Addr}{fd:FuncData}(F:Fun K "is_label" "is_label" sIsLabel f fd)(F_is_name:Fx P w K mg base CX0 1 "is_name" ["value"] spNameB):FnOk P w K mg base CX0 2 f fd ["label", "sign"] spLabel:=by
 refine F.ok scIsLabel (λvs H Q E h=>?_) (λcdv A outer s H vs Q E hr h=>?_)
 ·obtain⟨x,c,rfl,_⟩:=h;rfl
 ·obtain⟨x,c,rfl,lo,le,q⟩:=h;have hr_is_name:=hr;refine⟨_,(qad (qai (qdY (qbp xG uX uY mt_starts (pv 0) (qaa (pv 1) pa_nil)) (qda (qat F_is_name hr_is_name (by rfl) qay (qaa (qaX sl_str (pv 0) (qaY qag) po_none) pa_nil)))))),?_⟩;refine⟨_,rfl,rfl,_,rfl,x,⟨#[c]⟩,rfl,rfl,_,rfl,?_⟩;rw[qgm]
  by_cases hs:x.cps.toList.head?=some c
  rotate_left
  ·rw[qC hs];refine iteF ?_;have e:labB c x=false:=by unfold labB;rw[qC hs];rfl
   have:=q H (Same.refl H);rw[e]at this;exact this
  rw[qB hs];refine iteT ⟨_,rfl,1,rfl,?_⟩;have l1:1<=x.length:=by
   rw[<-qbo];cases e:x.cps.toList with
   | nil=>rw[e]at hs;cases hs
   | cons a r=>simp
  refine⟨x,rfl,yF (qaG le),tl1 x,by rw[qhr l1];rfl,tl1_low lo,tl1_len le,λH' s'=>?_⟩;have e:labB c x=qdc (tl1 x):=by unfold labB;rw[qB hs];rfl
  rw[<-e];exact q H' s'
theorem scHasStuff:FnScope ["kind"] ["kind"] (qaf sHasStuff):=⟨rfl,rfl,rfl,by ac_rfl,rfl,by ac_rfl,by ac_rfl⟩
theorem ok_has_stuff{f a_KINDS_OF_PIECES:Addr}{fd:FuncData}(F:Fun K "has_stuff" "has_stuff" sHasStuff f fd)(g_KINDS_OF_PIECES:mg "KINDS_OF_PIECES" = some (.ref a_KINDS_OF_PIECES))(KP:KTup K a_KINDS_OF_PIECES [.text,.head,.note]):FnOk P w K mg base CX0 1 f fd ["kind"] spHasStuff:=by
 refine F.ok scHasStuff (λvs H Q E h=>?_) (λcdv A outer s H vs Q E hr h=>?_)
 ·obtain⟨k,rfl,_⟩:=h;rfl
 ·obtain⟨k,rfl,q⟩:=h;refine⟨_,(qad (qai (qhJ (qaW op_eq (pv 0) qah (qap _)) (qda (qaW op_in_seq (pv 0) (qae (v:=.ref a_KINDS_OF_PIECES) (by rfl) g_KINDS_OF_PIECES rfl) (by with_unfolding_all rfl)))))),?_⟩;refine⟨_,rfl,rfl,_,rfl,?_⟩;rw[show decide (V.str k.s=V.str (Str.ofString "picture"))=decide (k=.picture)from kdt k .picture]
  by_cases hk:k=.picture
  ·rw[qB hk];unfold qaE at q;rw[qB hk]at q;exact iteT q
  ·rw[qC hk];unfold qaE at q;rw[qC hk]at q;refine iteF ⟨_,rfl,a_KINDS_OF_PIECES,_,rfl,.inr (KP H),rfl,qby _,?_⟩;rw[if_neg qL,qbT];exact q
theorem scAreLabels:FnScope ["labels", "marks"] ["labels"] (qaf sAreLabels):=⟨rfl,rfl,rfl,by ac_rfl,rfl,by ac_rfl,by ac_rfl⟩
theorem ok_are_labels{f:Addr}{fd:FuncData}(F:Fun K "are_labels" "are_labels" sAreLabels f fd)(T:Bn mg)(F_is_label:Fx P w K mg base CX0 2 "is_label" ["label", "sign"] spLabel):FnOk P w K mg base CX0 3 f fd ["labels"] spAreLabs:=by
 refine F.ok scAreLabels (λvs H Q E h=>?_) (λcdv A outer s H vs Q E hr h=>?_)
 ·obtain⟨l,ls,rfl,_⟩:=h;rfl
 ·obtain⟨l,ls,rfl,⟨hl,rk⟩,q⟩:=h;have hr_is_label:=hr;refine⟨_,(qab (qau (i:=1) scAreLabels.nd (by rfl) (by trivial) (pv 0))
   (qab (qaH (PW.pt (qcH (qak op_gt (qal call_len_seq (by rfl) T.len b_len (qaa (pv 0) pa_nil)) qag (qap _)) (qbZ (qaZ (qat F_is_label hr_is_label (by rfl) qay (qaa (qan ix_list (pv 0) qag (λ_ _=>rfl)) (qaa qah pa_nil))))))) (qad (qau (i:=1) scAreLabels.nd (by rfl) (by trivial) (qaX sl_list (pv 0) (qaY qag) po_none))) pss_nil)
   (qad (qai (qal (qco (by rfl)) (by rfl) T.all b_all (qaa (qba (own:=["label"]) (by rfl) (CompScope.plain (by rfl) (by ac_rfl) (by ac_rfl) (by ac_rfl)) (qbb (pv 1)) (λcl C s2 H2 fp=>(qaw (i:=0) (by show(["label"]:List Str).Nodup;ac_rfl) (by rfl) (by trivial) (by trivial))) (λcl C s2 H2 fp=>qbn) (λcl C s2 H2 fp=>(qat F_is_label hr_is_label (by rfl) qay (qaa (pv 0) (qaa qah pa_nil))))) pa_nil)))))),?_⟩
  refine⟨_,rfl,?_⟩;dsimp only[tNext];refine qa0 (λσ' H'=>∃m,σ'=[some (.ref l),some (.ref m)]/\Same H H'/\qfJ H' m (if qbw ls then ls.drop 1 else ls)) (λD' k=>?_) ?_
  ·refine⟨_,rfl,l,_,rfl,.inl (SqL.of hl),_,_,rfl,rfl,_,rfl,?_⟩;cases ls with
   | nil=>exact iteF (iteF (k _ _ ⟨l,rfl,Same.refl H,hl,rk⟩))
   | cons x r =>
     rw[qB (by simp:(0:Int)<((((x::r).map V.str).length:Nat):Int))]
     have hx:=rk.1 x qJ
     refine iteT ⟨_,rfl,l,_,_,_,rfl,rfl,SqL.of hl,(qbV (j:=0) rfl),x,35,by rw[<-sg_hash];rfl,hx.1,hx.2,λH2 s2=>⟨_,rfl,?_⟩⟩
     show if labB 35 x=true then _ else _
     cases e:labB 35 x with
     | false=>exact iteF (k _ _ ⟨l,rfl,s2,by rw[show qbw (x::r)=labB 35 x from rfl,e];exact⟨s2 _ _ hl,rk⟩⟩)
     | true =>
       refine iteT ⟨_,rfl,1,rfl,l,_,rfl,SqL.of (s2 _ _ hl),λp hp=>k _ _ ⟨p,rfl,s2.trans (qac hp _),?_⟩⟩
       rw[show qbw (x::r)=labB 35 x from rfl,e]
       refine⟨?_,qet rk (λy hy=>qN _ hy) (by simp)⟩
       rw[upd_same]
       exact xO (λz=>some (HO.lst z)) (qd8 1)
  rintro σ1 H1 ⟨m,rfl,s1,hm,rm⟩;unfold qbA at q;generalize (if qbw ls then ls.drop 1 else ls)=ms at hm rm q;have zl:(ms.map V.str).length<sizeLine:=by rw[qA];exact qaG (qR rm.2 (by decide))
  refine⟨_,rfl,m,rfl,⟨_,SqL.of hm⟩,qaN (λi ys σ' H'=>Same H1 H'/\ys=((ms.take i).map (labB 46)).map V.bl/\∃z,σ'=[z]) zl ⟨Same.refl H1,rfl,none,rfl⟩ ?_ ?_ ?_⟩
  ·rintro i ys σ' H' hi ⟨s2,rfl,_⟩;exact⟨SqL.of (s2 _ _ hm),by simp;omega⟩
  ·rintro i x ys σ' H' hx ⟨s2,rfl,z,rfl⟩;rw[qP]at hx;cases e:ms[i]? with
   | none=>rw[e]at hx;cases hx
   | some nm =>
     rw[e]at hx
     cases hx
     have hn:=rm.1 nm (qK e)
     refine⟨_,rfl,nm,46,by rw[<-sg_dot];rfl,hn.1,hn.2,λH3 s3=>⟨s2.trans s3,?_,_,rfl⟩⟩
     rw[rO,e,rR,qM,qM]
     rfl
  ·rintro ys σ' H' ⟨s2,rfl,_⟩ D hD;rw[qA,rJ];exact⟨D,_,rfl,SqL.of upd_same,q _ ((s1.trans s2).trans (qac hD _))⟩
theorem scNameLabel:FnScope ["labels"] ["labels"] (qaf sNameLabel):=⟨rfl,rfl,rfl,by ac_rfl,rfl,by ac_rfl,by ac_rfl⟩
theorem ok_name_label{f:Addr}{fd:FuncData}(F:Fun K "name_label" "name_label" sNameLabel f fd)(T:Bn mg)(F_is_label:Fx P w K mg base CX0 2 "is_label" ["label", "sign"] spLabel):FnOk P w K mg base CX0 3 f fd ["labels"] spNameLab:=by
 refine F.ok scNameLabel (λvs H Q E h=>?_) (λcdv A outer s H vs Q E hr h=>?_)
 ·obtain⟨l,ls,rfl,_⟩:=h;rfl
 ·obtain⟨l,ls,rfl,⟨hl,rk⟩,q⟩:=h;have hr_is_label:=hr;refine⟨_,(qab (qaH (PW.pt (qcH (qak op_gt (qal call_len_seq (by rfl) T.len b_len (qaa (pv 0) pa_nil)) qag (qap _)) (qbZ (qaZ (qat F_is_label hr_is_label (by rfl) qay (qaa (qan ix_list (pv 0) qag (λ_ _=>rfl)) (qaa qah pa_nil))))))) (qad (qai (qaX sl_str (qan ix_list (pv 0) qag (λ_ _=>rfl)) (qaY qag) po_none))) pss_nil)
   (qad (qai qah))),?_⟩
  refine⟨_,rfl,l,_,rfl,.inl (SqL.of hl),_,_,rfl,rfl,_,rfl,?_⟩;cases ls with
  | nil=>exact iteF (iteF (q H (Same.refl H)))
  | cons x r =>
    rw[qB (by simp:(0:Int)<((((x::r).map V.str).length:Nat):Int))]
    have hx:=rk.1 x qJ
    refine iteT ⟨_,rfl,l,_,_,_,rfl,rfl,SqL.of hl,(qbV (j:=0) rfl),x,35,by rw[<-sg_hash];rfl,hx.1,hx.2,λH2 s2=>⟨_,rfl,?_⟩⟩
    have q2:=q H2 s2
    unfold qbF at q2
    rw[show qbw (x::r)=labB 35 x from rfl]at q2
    cases e:labB 35 x with
    | false =>
      rw[e]at q2
      exact iteF q2
    | true =>
      rw[e]at q2
      refine iteT ⟨_,rfl,l,_,_,_,rfl,rfl,SqL.of (s2 _ _ hl),(qbV (j:=0) rfl),1,rfl,x,rfl,yF (qaG hx.2),?_⟩
      rw[qhr (qhp e)]
      exact q2
theorem scMarkLabels:FnScope ["labels"] ["labels"] (qaf sMarkLabels):=⟨rfl,rfl,rfl,by ac_rfl,rfl,by ac_rfl,by ac_rfl⟩
theorem ok_mark_labels{f:Addr}{fd:FuncData}(F:Fun K "mark_labels" "mark_labels" sMarkLabels f fd)(F_is_label:Fx P w K mg base CX0 2 "is_label" ["label", "sign"] spLabel):FnOk P w K mg base CX0 3 f fd ["labels"] spMarkLabs:=by
 refine F.ok scMarkLabels (λvs H Q E h=>?_) (λcdv A outer s H vs Q E hr h=>?_)
 ·obtain⟨l,ls,rfl,_⟩:=h;rfl
 ·obtain⟨l,ls,rfl,⟨hl,rk⟩,q⟩:=h;have hr_is_label:=hr;have zl:(ls.map V.str).length<sizeLine:=by rw[qA];exact qaG (qR rk.2 (by decide))
  refine⟨_,(qad (qai (qba (own:=["label"]) (by rfl) (CompScope.plain (by rfl) (by ac_rfl) (by ac_rfl) (by ac_rfl)) (qbb (pv 0)) (λcl C s2 H2 fp=>(qaw (i:=0) (by show(["label"]:List Str).Nodup;ac_rfl) (by rfl) (by trivial) (by trivial))) (λcl C s2 H2 fp=>(qcN (qaZ (qat F_is_label hr_is_label (by rfl) qay (qaa (pv 0) (qaa qah pa_nil)))))) (λcl C s2 H2 fp=>(qaX sl_str (pv 0) (qaY qag) po_none))))),?_⟩;refine⟨_,rfl,l,rfl,⟨_,SqL.of hl⟩,qaN (λi ys σ' H'=>Same H H'/\ys=(qbd (ls.take i)).map V.str/\∃z,σ'=[z]) zl ⟨Same.refl H,rfl,none,rfl⟩ ?_ ?_ ?_⟩
  ·rintro i ys σ' H' hi ⟨s1,rfl,_⟩;refine⟨SqL.of (s1 _ _ hl),?_⟩;unfold qbd;rw[qA,qA];exact qR (yC ..) (by rw[rN];omega)
  ·rintro i x ys σ' H' hx ⟨s1,rfl,z,rfl⟩;rw[qP]at hx;cases e:ls[i]? with
   | none=>rw[e]at hx;cases hx
   | some nm =>
     rw[e]at hx
     cases hx
     have hn:=rk.1 nm (qK e)
     have et:ls.take (i+1)=ls.take i++[nm]:=by rw[rO,e];rfl
     refine⟨_,rfl,nm,46,by rw[<-sg_dot];rfl,hn.1,hn.2,λH2 s2=>⟨_,rfl,?_⟩⟩
     cases eb:labB 46 nm with
     | false =>
       refine iteF ⟨s1.trans s2,?_,_,rfl⟩
       rw[et]
       unfold qbd
       rw[rT]
       simp[eb]
     | true =>
       refine iteT ⟨_,rfl,1,rfl,nm,rfl,yF (qaG hn.2),s1.trans s2,?_,_,rfl⟩
       rw[et,qhr (qhp eb)]
       unfold qbd
       rw[rT]
       simp[eb]
  ·rintro ys σ' H' ⟨s1,rfl,_⟩ D hD;rw[qA,rJ];exact q D _ (s1.none hD) (s1.trans (qac hD _)) upd_same
theorem scReadSide:FnScope ["word"] ["word"] (qaf sReadSide):=⟨rfl,rfl,rfl,by ac_rfl,rfl,by ac_rfl,by ac_rfl⟩
theorem ok_read_side{f:Addr}{fd:FuncData}(F:Fun K "read_side" "read_side" sReadSide f fd)(T:Bn mg)(U:Glob mg)(gf:∃t,mg "MOST_SIDE_FIGURES" = some (.int 4 t)):FnOk P w K mg base CX0 1 f fd ["word"] spReadSide:=by
 refine F.ok scReadSide (λvs H Q E h=>?_) (λcdv A outer s H vs Q E hr h=>?_)
 ·obtain⟨x,rfl,_⟩:=h;rfl
 ·obtain⟨x,rfl,lo,le,q⟩:=h;obtain⟨_,g_MOST_SIDE_FIGURES⟩:=gf;obtain⟨_,g_FIGURES⟩:=U.fi;have zl:=qaG le;have xl:=qbo x;have no:qcb x=false->Q (.int 0) H:=λe=>by
   have:=q H (Same.refl H);unfold qaK at this;rw[e]at this;exact this
  refine⟨_,(qab (qaH (PW.pt (qdv (qbj (qcF op_le op_le qag (qal call_len_str (by rfl) T.len b_len (qaa (pv 0) pa_nil)) (qae (v:=.int 4) (by rfl) g_MOST_SIDE_FIGURES ⟨_,rfl⟩))) (qcr (qaZ (qbp xG uX uY mt_starts (pv 0) (qaa qah pa_nil)))))) (qad (qai qag)) pss_nil)
   (qad (qai (qch (qaZ (qal (qco (by rfl)) (by rfl) T.all b_all (qaa (qba (own:=["sign"]) (by rfl) (CompScope.plain (by rfl) (by ac_rfl) (by ac_rfl) (by ac_rfl)) (qhO (pv 0)) (λcl C s2 H2 fp=>(qaw (i:=0) (by show(["sign"]:List Str).Nodup;ac_rfl) (by rfl) (by trivial) (by trivial))) (λcl C s2 H2 fp=>qbn) (λcl C s2 H2 fp=>(qaW qeK (pv 0) (qae (v:=.str (Str.ofString "0123456789")) (by rfl) g_FIGURES ⟨_,rfl⟩) (by with_unfolding_all rfl)))) pa_nil))) (qbq call_intS (by rfl) T.int b_int (qaa (pv 0) pa_nil)) qag)))),?_⟩
  refine⟨_,rfl,x,rfl,yF zl,_,_,rfl,rfl,_,rfl,?_⟩
  by_cases g1:1<=x.length
  rotate_left
  ·rw[qC (by omega:¬(1:Int)<=(x.length:Nat))];refine iteF ⟨_,rfl,iteT (iteT (no ?_))⟩;unfold qcb;rw[qC (λz=>g1 z.1)];rfl
  rw[qB (by omega:(1:Int)<=(x.length:Nat))];refine iteT ⟨_,_,rfl,rfl,_,rfl,?_⟩
  by_cases g2:x.length<=4
  rotate_left
  ·rw[qC (by omega:¬((x.length:Nat):Int)<=4)];refine iteT (iteT (no ?_));unfold qcb;rw[qC (λz=>g2 z.2)];rfl
  rw[qB (by omega:((x.length:Nat):Int)<=4)];refine iteF ⟨_,rfl,rfl,x,Str.ofString "0",rfl,rfl,_,rfl,?_⟩;rw[show Str.ofString "0" = ⟨#[48]⟩from sg_zero,qgm]
  by_cases g3:x.cps.toList.head?=some 48
  ·rw[qB g3];refine iteT (no ?_);unfold qcb;rw[qB g3,Bool.not_true,vE,uL]
  rw[qC g3];refine iteF ?_;refine⟨_,rfl,x,rfl,lo,qfs (λi ys σ' H'=>H'=H/\ys=((x.cps.toList.take i).map λc=>decide (c∈figS.cps.toList)).map V.bl/\∃z,σ'=[z]) zl ⟨rfl,rfl,none,rfl⟩ ?_ ?_ ?_⟩
  ·rintro i ys σ' H' hi ⟨rfl,rfl,_⟩;rw[qA,qA,rN];exact yM _ _
  ·rintro i c ys σ' H' hc ⟨rfl,rfl,z,rfl⟩;refine⟨_,rfl,c,figS,rfl,rfl,rfl,?_,_,rfl⟩;rw[xF,xF,qcc (V.bl∘λc=>decide (c∈figS.cps.toList)) (by simpa using hc)];rfl
  ·rintro ys σ' H' ⟨rfl,rfl,_⟩ D hD;have eT:x.cps.toList.take x.cps.size=x.cps.toList:=rQ (by rw[xl];exact qG _);rw[eT];refine⟨D,_,rfl,SqL.of upd_same,_,rfl,?_⟩;have q2:=q _ (qac hD (.lst ((x.cps.toList.map λc=>decide (c∈figS.cps.toList)).map V.bl)));unfold qaK qcb at q2;rw[qB (⟨g1,g2⟩:1<=x.length/\x.length<=4),qC g3,Bool.not_false,xP,xP]at q2;cases ea:(x.cps.toList.map λc=>decide (c∈figS.cps.toList)).all id with
   | false =>
     rw[ea]at q2
     exact iteF q2
   | true =>
     rw[ea]at q2
     refine iteT ⟨_,rfl,x,rfl,λn hn=>qip (rL (all_map.mp ea n hn)),λz=>?_,g3,by omega,q2⟩
     rw[z]at xl
     simp at xl
     omega
abbrev sArePieces:Stmt:=top 41
abbrev sIsStuff:Stmt:=top 40
theorem scArePieces:FnScope ["stuff"] ["stuff"] (qaf sArePieces):=⟨rfl,rfl,rfl,by ac_rfl,rfl,by ac_rfl,by ac_rfl⟩
theorem ok_are_pieces{f:Addr}{fd:FuncData}(F:Fun K "are_pieces" "are_pieces" sArePieces f fd)(T:Bn mg)(U:Glob mg)(N:Nums mg)(F_is_piece:Fx P w K mg base CX0 3 "is_piece" ["piece"] spPieceB):FnOk P w K mg base CX0 4 f fd ["stuff"] spPiecesX:=by
 refine F.ok scArePieces (λvs H Q E h=>?_) (λcdv A outer s H vs Q E hr h=>?_)
 ·obtain⟨sf,st,N',rfl,_⟩:=h;rfl
 ·obtain⟨sf,st,N',rfl,⟨nsf,vs,hs,its⟩,fm,le,q⟩:=h;obtain⟨_,g_SORT⟩:=N.sort;obtain⟨_,g_MOST_PIECES⟩:=U.pieces;have hr_is_piece:=hr;have lv:vs.length=st.length:=its.length;have zl:vs.length<sizeLine:=qaG (by omega);refine⟨_,(qab (qaH (PW.pt (qdv (qbj (qcF op_le op_le qag (qal call_len_seq (by rfl) T.len b_len (qaa (pv 0) pa_nil)) (qae (v:=.int 60) (by rfl) g_MOST_PIECES ⟨_,rfl⟩))) (qcr (qbj (qaZ (qal (qco (by rfl)) (by rfl) T.all b_all (qaa (qba (own:=["piece"]) (by rfl) (CompScope.plain (by rfl) (by ac_rfl) (by ac_rfl) (by ac_rfl)) (qbb (pv 0)) (λcl C s2 H2 fp=>(qaw (i:=0) (by show(["piece"]:List Str).Nodup;ac_rfl) (by rfl) (by trivial) (by trivial))) (λcl C s2 H2 fp=>qbn) (λcl C s2 H2 fp=>(qat F_is_piece hr_is_piece (by rfl) qay (qaa (pv 0) pa_nil)))) pa_nil))))))) (qad (qai qdP)) pss_nil)
   (qad (qai (qaW op_ne (qan ix_tup (qan ix_list (pv 0) qag (λ_ _=>rfl)) (qae (v:=.int 0) (by rfl) g_SORT ⟨_,rfl⟩) (λ_ _=>rfl)) qah (qap _))))),?_⟩
  refine⟨_,rfl,sf,_,rfl,.inl (SqL.of hs),_,_,rfl,rfl,_,rfl,?_⟩
  by_cases g1:1<=st.length
  rotate_left
  ·rw[qC (by omega:¬(1:Int)<=(vs.length:Nat))];refine iteF ⟨_,rfl,iteT (q false H (Same.refl H) ⟨λz=>(by cases z),λz=>?_⟩)⟩;obtain⟨_,⟨x,r,rfl,_⟩,_⟩:=z;exact absurd (by simp) g1
  rw[qB (by omega:(1:Int)<=(vs.length:Nat))];refine iteT ⟨_,_,rfl,rfl,_,rfl,?_⟩
  by_cases g2:st.length<=60
  rotate_left
  ·rw[qC (by omega:¬((vs.length:Nat):Int)<=60)];exact iteT (q false H (Same.refl H) ⟨λz=>(by cases z),λz=>absurd z.2.2 g2⟩)
  rw[qB (by omega:((vs.length:Nat):Int)<=60)];refine iteF ?_;refine⟨_,rfl,sf,rfl,⟨_,SqL.of hs⟩,qaN (λi ys σ' H'=>Same H H'/\ys=((st.take i).map pieceB).map V.bl/\∃z,σ'=[z]) zl ⟨Same.refl H,rfl,none,rfl⟩ ?_ ?_ ?_⟩
  ·rintro i ys σ' H' hi ⟨s1,rfl,_⟩;exact⟨SqL.of (s1 _ _ hs),by simp;omega⟩
  ·rintro i x ys σ' H' hx ⟨s1,rfl,z,rfl⟩;obtain⟨th,et,it⟩:=qbH its hx;have pk:=fm th (qK et);cases th with
   | int n=>cases pk
   | tri so x t =>
     obtain⟨a,rfl,_,ha⟩:=it
     refine⟨_,rfl,a,so,x,t,rfl,s1 _ _ ha,pk,λH2 s2=>⟨s1.trans s2,?_,_,rfl⟩⟩
     rw[rO,et,rR,qM,qM]
     rfl
  ·rintro ys σ' H' ⟨s1,rfl,_⟩ D hD;rw[lv,rJ]at *;have s2:=s1.trans (qac hD (.lst ((st.map pieceB).map V.bl)));refine⟨D,_,rfl,SqL.of upd_same,_,rfl,?_⟩
   by_cases al:(st.map pieceB).all id=true
   rotate_left
   ·rw[uD.mpr al];refine iteT (q false _ s2 ⟨λz=>(by cases z),λz=>absurd ?_ al⟩);rw[xB];intro b hb;obtain⟨x,hx,rfl⟩:=qV.mp hb;exact qdw (z.1 x hx)
   rw[al];refine iteF ?_;have ok:∀x∈st,PcOk x:=λx hx=>pieceB_iff.mp (xB.mp al _ (qV.mpr ⟨x,hx,rfl⟩))
   cases its with
   | nil=>exact absurd g1 (by decide)
   | @cons v x0 vs' r it rest =>
     have pk:=ok x0 qJ
     cases x0 with
     | int n=>cases pk
     | tri so x t =>
       obtain⟨a,rfl,_,ha⟩:=it
       refine⟨_,rfl,sf,_,_,_,rfl,rfl,SqL.of (s2 _ _ hs),(qbV (j:=0) rfl),a,_,_,_,rfl,rfl,SqT.of (s2 _ _ ha),rfl,rfl,?_⟩
       rw[show decide (V.str so.s=V.str (Str.ofString "note"))=decide (so=.note)from sot so .note]
       refine q _ _ s2 ⟨λz=>⟨ok,⟨_,r,rfl,?_⟩,g2⟩,λz=>?_⟩
       · cases so<;>first | rfl | exact absurd z (by decide)
       · obtain⟨_,⟨y,r',e,nn⟩,_⟩:=z
         cases e
         cases so<;>first | rfl | cases nn
theorem scIsStuff:FnScope ["kind", "stuff"] ["kind", "stuff"] (qaf sIsStuff):=⟨rfl,rfl,rfl,by ac_rfl,rfl,by ac_rfl,by ac_rfl⟩
theorem ok_is_stuff{f a_KINDS_OF_PIECES:Addr}{fd:FuncData}(F:Fun K "is_stuff" "is_stuff" sIsStuff f fd)(T:Bn mg)(U:Glob mg)(g_KINDS_OF_PIECES:mg "KINDS_OF_PIECES" = some (.ref a_KINDS_OF_PIECES))(KP:KTup K a_KINDS_OF_PIECES [.text,.head,.note])(F_is_whole:Fx P w K mg base CX0 1 "is_whole" ["value", "low", "high"] spWhole)(F_are_pieces:Fx P w K mg base CX0 4 "are_pieces" ["stuff"] spPiecesX):FnOk P w K mg base CX0 5 f fd ["kind", "stuff"] spStuffX:=by
 refine F.ok scIsStuff (λvs H Q E h=>?_) (λcdv A outer s H vs Q E hr h=>?_)
 ·obtain⟨k,sf,st,N',rfl,_⟩:=h;rfl
 ·obtain⟨k,sf,st,N',rfl,⟨nsf,vs,hs,its⟩,ok,q⟩:=h;obtain⟨_,g_GREATEST_PICTURE⟩:=U.pict;have hr_is_whole:Room 1 _:=hr.mono (by decide);have hr_are_pieces:=hr;have lv:vs.length=st.length:=its.length;refine⟨_,(qab (qaH (qbj (qaZ (qdn T.isinstance (by rfl) T.list (by rfl) b_list (pv 1)))) (qad (qai qdP)) pss_nil)
   (qab (qaH (qak op_eq (pv 0) qah (qap _)) (qad (qai (qdY (qaW op_eq (qal call_len_seq (by rfl) T.len b_len (qaa (pv 1) pa_nil)) qag (qap _)) (qda (qal (qco (by rfl)) (by rfl) T.all b_all (qaa (qba (own:=["side"]) (by rfl) (CompScope.plain (by rfl) (by ac_rfl) (by ac_rfl) (by ac_rfl)) (qbb (pv 1)) (λcl C s2 H2 fp=>(qaw (i:=0) (by show(["side"]:List Str).Nodup;ac_rfl) (by rfl) (by trivial) (by trivial))) (λcl C s2 H2 fp=>qbn) (λcl C s2 H2 fp=>(qat F_is_whole hr_is_whole (by rfl) qay (qaa (pv 0) (qaa qag (qaa (qae (v:=.int 2000) (by rfl) g_GREATEST_PICTURE ⟨_,rfl⟩) pa_nil)))))) pa_nil)))))) pss_nil)
   (qab (qaH (qak op_in_seq (pv 0) (qae (v:=.ref a_KINDS_OF_PIECES) (by rfl) g_KINDS_OF_PIECES rfl) (by with_unfolding_all rfl)) (qad (qai (qat F_are_pieces hr_are_pieces (by rfl) qay (qaa (pv 1) pa_nil)))) pss_nil)
   (qad (qai (qaW op_eq (qal call_len_seq (by rfl) T.len b_len (qaa (pv 1) pa_nil)) qag (qap _))))))),?_⟩
  refine⟨_,rfl,_,_,_,_,rfl,.lst hs,⟨_,λu r=>r,k_ll⟩,_,rfl,iteF ?_⟩;refine⟨_,rfl,rfl,_,rfl,?_⟩;rw[show decide (V.str k.s=V.str (Str.ofString "picture"))=decide (k=.picture)from kdt k .picture];have l5:=ok.2.2
  by_cases hk:k=.picture
  ·rw[qB hk];subst hk;have zl:vs.length<sizeLine:=qaG (by omega);refine iteT ⟨_,rfl,sf,_,rfl,.inl (SqL.of hs),rfl,_,rfl,?_⟩
   by_cases l2:st.length=2
   rotate_left
   ·rw[qC (λz=>l2 (by injection z with z;omega):¬V.int (vs.length:Nat)=V.int 2)];refine iteF (q false H (Same.refl H) ⟨λz=>(by cases z),λz=>?_⟩);obtain⟨a,b,rfl,_⟩:=z;exact absurd rfl l2
   rw[qB (by rw[lv,l2];rfl:V.int (vs.length:Nat)=V.int 2)];refine iteT ?_;refine⟨_,rfl,sf,rfl,⟨_,SqL.of hs⟩,qaN (λi ys σ' H'=>H'=H/\ys=((st.take i).map sideB).map V.bl/\∃z,σ'=[z]) zl ⟨rfl,rfl,none,rfl⟩ ?_ ?_ ?_⟩
   ·rintro i ys σ' H' hi ⟨rfl,rfl,_⟩;exact⟨SqL.of hs,by simp;omega⟩
   ·rintro i v ys σ' H' hx ⟨rfl,rfl,z,rfl⟩;obtain⟨th,et,it⟩:=qbH its hx;obtain⟨n,rfl⟩:=ok.2.1 rfl th (qK et);cases it;refine⟨_,rfl,n,1,2000,rfl,rfl,?_,_,rfl⟩;rw[rO,et,rR,qM,qM];rfl
   ·rintro ys σ' H' ⟨rfl,rfl,_⟩ D hD;rw[lv,rJ]at *;refine⟨D,_,rfl,SqL.of upd_same,?_⟩;exact q _ _ (qac hD _) (stuff_pic l2)
  ·rw[qC hk];refine iteF ⟨_,rfl,a_KINDS_OF_PIECES,_,rfl,.inr (KP H),rfl,qby _,_,rfl,?_⟩;rw[if_neg qL,qbT]
   by_cases hp:k∈[Kd.text,.head,.note]
   ·rw[qB hp];refine iteT ⟨_,rfl,sf,st,N',rfl,⟨nsf,vs,hs,its⟩,ok.1 ?_,l5,λb H2 s2 i=>q b H2 s2 (i.trans (qcg hp))⟩;cases k<;>first | rfl | exact absurd hp (by decide)
   ·rw[qC hp];refine iteF ⟨_,rfl,sf,_,rfl,.inl (SqL.of hs),rfl,?_⟩;refine q _ H (Same.refl H) (Iff.trans ?_ (stuff_none hk hp));rw[qY];constructor
    ·intro z;injection z with z
     exact rA (by omega)
    ·rintro rfl;rw[lv];rfl
end
end K10
namespace L2
open PySem PySem.Spec PyProof.Rows
theorem qbs{t u:TS}{D:Ends}{σ:St}{H:Hp}(P:St->Hp->Prop)(h:∀N:St->Hp->Prop,(∀σ' H',P σ' H'->N σ' H')->t {D with nx:=N} σ H)(k:∀σ' H',P σ' H'->u D σ' H'):tSeq t u D σ H:=h _ k
end L2
namespace Br
open PySem L2 Bk Gen Gd Bd
end Br
namespace K10
open PySem L2 Bk Gen
abbrev sReadPiece:Stmt:=top 78
abbrev sReadStuff:Stmt:=top 76
abbrev sRowParts:Stmt:=top 70
section
variable{P:Program}{w:World}{K:W.Frag}{mg:Str->Option Value}{base:Heap}
theorem scReadPiece:FnScope ["word", "thing", "tone", "piece"] ["word"] (qaf sReadPiece):=⟨rfl,rfl,rfl,by ac_rfl,rfl,by ac_rfl,by ac_rfl⟩
theorem ok_read_piece{f:Addr}{fd:FuncData}(F:Fun K "read_piece" "read_piece" sReadPiece f fd)(T:Bn mg)(F_is_piece:Fx P w K mg base CX0 3 "is_piece" ["piece"] spPieceB):FnOk P w K mg base CX0 4 f fd ["word"] spReadPiece:=by
 refine F.ok scReadPiece (λvs H Q E h=>?_) (λcdv A outer s H vs Q E hr h=>?_)
 ·obtain⟨x,rfl,_⟩:=h;rfl
 ·obtain⟨x,rfl,lo,le,q⟩:=h;have hr_is_piece:=hr;have zl:=yF (qaG le);have tl:(thing x).length<=x.length:=by
   have:=qcp (·== 42) x.cps.toList;rw[qbo]at this;exact this
  have lo1:Low (mkS (thing x)):=qf9 lo λn hn=>(yB _).subset hn
  refine⟨_,(qab (qaH (qak op_eq (pv 0) qah (qap _)) (qad (qai (qbc (qaa qah (qaa qag (qaa qag pa_nil)))))) pss_nil)
   (qab (qau (i:=1) scReadPiece.nd (by rfl) (by trivial) (qbp xG PySem.F.slot_str_lstrip PySem.F.type_str_lstrip mt_lstripC (pv 0) (qaa qah pa_nil)))
   (qab (qau (i:=2) scReadPiece.nd (by rfl) (by trivial) (qaM op_sub (qal call_len_str (by rfl) T.len b_len (qaa (pv 0) pa_nil)) (qal call_len_str (by rfl) T.len b_len (qaa (pv 1) pa_nil))))
   (qab (qau (i:=3) scReadPiece.nd (by rfl) (by trivial) (qbc (qaa qah (qaa (pv 1) (qaa (pv 2) pa_nil)))))
   (qab (qaH (PW.pt (qcH (qaZ (qbp xG uX uY mt_starts (pv 1) (qaa qah pa_nil))) (qbZ (qaZ (qbp xG PySem.F.slot_str_endswith PySem.F.type_str_endswith mt_ends (pv 1) (qaa qah pa_nil)))))) (qad (qau (i:=3) scReadPiece.nd (by rfl) (by trivial) (qbc (qaa qah (qaa (qaX sl_str (pv 1) (qaY qag) (qaY (qen un_neg qag))) (qaa (pv 2) pa_nil)))))) pss_nil)
   (qad (qai (qch (qaZ (qat F_is_piece hr_is_piece (by rfl) qay (qaa (pv 3) pa_nil))) (pv 3) qes)))))))),?_⟩
  refine⟨_,rfl,rfl,_,rfl,?_⟩
  by_cases e0:x=Str.ofString "{}"
  ·rw[qB (by rw[e0]:V.str x=V.str (Str.ofString "{}"))];refine iteT ⟨(by show 3<=sizeLine;decide),λt ht=>q _ _ (qac ht _) ?_⟩;unfold qaA;rw[if_pos e0];exact⟨t,rfl,ht,upd_same⟩
  rw[qC (λz=>e0 (V.str.inj z):¬V.str x=V.str (Str.ofString "{}"))];refine iteF ⟨_,rfl,rfl,x,Str.ofString "*",rfl,rfl,zl,?_⟩;rw[show Str.ofString "*" = ⟨#[42]⟩from sg_star,qhX];refine⟨_,rfl,x,rfl,zl,_,rfl,_,rfl,qR tl zl,_,_,rfl,rfl,?_⟩;refine⟨_,rfl,_,rfl,(by show 3<=sizeLine;decide),λt ht=>?_⟩;dsimp only[tNext];refine qa0 (λσ' H'=>∃(p:Addr) (so:So) (y:Str) (n:Int),σ'=[some (.str x),some (.str (mkS (thing x))),some (.int ((x.length:Int)-(thing x).length)),some (.ref p)]/\Same H H'/\H p=none/\H' p=some (.tup [.str so.s,.str y,.int n])/\qbL x=.tri so (.inl y) n/\PcForm (.tri so (.inl y) n)) (λD' k=>?_) ?_
  ·refine⟨_,rfl,rfl,mkS (thing x),Str.ofString "{",rfl,rfl,_,rfl,?_⟩;rw[show Str.ofString "{" = ⟨#[123]⟩from sg_open,qgm];have wordCase:¬((thing x).head?=some 123/\(thing x).getLast?=some 125)->D'.nx [some (.str x),some (.str (mkS (thing x))),some (.int ((x.length:Int)-(thing x).length)),some (.ref t)] (upd H t (.tup [.str So.word.s,.str (mkS (thing x)),.int ((x.length:Int)-(thing x).length)])):=λhn =>
    k _ _ ⟨t,.word,_,_,rfl,qac ht _,ht,upd_same,by unfold qbL;rw[if_neg hn],lo1,qR tl le⟩
   by_cases h1:(thing x).head?=some 123
   rotate_left
   ·rw[qC h1];exact iteF (iteF (wordCase λz=>h1 z.1))
   rw[qB h1];refine iteT ⟨_,rfl,rfl,mkS (thing x),Str.ofString "}",rfl,rfl,_,rfl,?_⟩;rw[show Str.ofString "}" = ⟨#[125]⟩from sg_close,ends1]
   by_cases h2:(thing x).getLast?=some 125
   rotate_left
   ·rw[qC h2];exact iteF (wordCase λz=>h2 z.2)
   rw[qB h2];refine iteT ⟨_,rfl,1,rfl,_,rfl,-1,rfl,mkS (thing x),rfl,qR tl zl,_,rfl,(by show 3<=sizeLine;decide),λt2 ht2=>?_⟩;have l1:1<=(mkS (thing x)).length:=by
    rw[qdi];cases e:thing x with
    | nil=>rw[e]at h1;cases h1
    | cons a r=>simp
   rw[slice_in l1];refine k _ _ ⟨t2,.page,mkS (qeH (thing x)),(x.length:Int)-(thing x).length,rfl,(qac ht _).trans (qac ht2 _),(qac ht _).none ht2,upd_same,by unfold qbL;rw[if_pos ⟨h1,h2⟩],qf9 lo1 λn hn=>yR (List.dropLast_subset _ hn),?_⟩;rw[qdi];unfold qeH;rw[List.length_dropLast,rW];omega
  rintro σ1 H1 ⟨p,so,y,n,rfl,s1,hp,hp1,ep,pf⟩;refine⟨_,rfl,p,so,.inl y,n,rfl,hp1,pf,λH2 s2=>⟨_,rfl,?_⟩⟩;have rp:qaA x=if pieceB (.tri so (.inl y) n)=true then some (.tri so (.inl y) n)else none:=by
   unfold qaA;rw[if_neg e0,ep]
  cases eb:pieceB (.tri so (.inl y) n)with
  | false =>
    refine iteF (q _ _ (s1.trans s2) ?_)
    rw[rp,eb]
    exact rfl
  | true =>
    refine iteT ⟨_,rfl,q _ _ (s1.trans s2) ?_⟩
    rw[rp,eb]
    exact⟨p,rfl,hp,s2 _ _ hp1⟩
theorem scReadStuff:FnScope ["kind", "words", "sides", "pieces"] ["kind", "words"] (qaf sReadStuff):=⟨rfl,rfl,rfl,by ac_rfl,rfl,by ac_rfl,by ac_rfl⟩
theorem ok_read_stuff{f:Addr}{fd:FuncData}(F:Fun K "read_stuff" "read_stuff" sReadStuff f fd)(T:Bn mg)(F_read_side:Fx P w K mg base CX0 1 "read_side" ["word"] spReadSide)(F_is_stuff:Fx P w K mg base CX0 5 "is_stuff" ["kind", "stuff"] spStuffX)(F_read_piece:Fx P w K mg base CX0 4 "read_piece" ["word"] spReadPiece)(F_has_stuff:Fx P w K mg base CX0 1 "has_stuff" ["kind"] spHasStuff):FnOk P w K mg base CX0 6 f fd ["kind", "words"] spReadStuff:=by
 refine F.ok scReadStuff (λvs H Q E h=>?_) (λcdv A outer s H vs Q E hr h=>?_)
 ·obtain⟨k,l,ws,rfl,_⟩:=h;rfl
 ·obtain⟨k,l,ws,rfl,⟨hl,rk⟩,qn,qs⟩:=h;have hr_read_side:Room 1 _:=hr.mono (by decide);have hr_has_stuff:Room 1 _:=hr.mono (by decide);have hr_read_piece:Room 4 _:=hr.mono (by decide);have hr_is_stuff:=hr;have hu:=hr.units;have zl:(ws.map V.str).length<sizeLine:=by rw[qA];exact qaG (qR rk.2 (by decide))
  refine⟨_,(qab (qaH (qak op_eq (pv 0) qah (qap _)) (qab (qer (i:=2) (by rfl) scReadStuff.nd (by rfl) (by trivial) (own:=["word"]) (CompScope.plain (by rfl) (by ac_rfl) (by ac_rfl) (by ac_rfl)) (qbb (pv 1)) (λcl C s2 H2 fp=>(qaw (i:=0) (by show(["word"]:List Str).Nodup;ac_rfl) (by rfl) (by trivial) (by trivial))) (λcl C s2 H2 fp=>qbn) (λcl C s2 H2 fp=>(qat F_read_side hr_read_side (by rfl) qay (qaa (pv 0) pa_nil))))
   (qad (qai (qch (qaZ (qat F_is_stuff hr_is_stuff (by rfl) qay (qaa (pv 0) (qaa (pv 2) pa_nil)))) (pv 2) qes)))) pss_nil)
   (qab (qer (i:=3) (by rfl) scReadStuff.nd (by rfl) (by trivial) (own:=["word"]) (CompScope.plain (by rfl) (by ac_rfl) (by ac_rfl) (by ac_rfl)) (qbb (pv 1)) (λcl C s2 H2 fp=>(qaw (i:=0) (by show(["word"]:List Str).Nodup;ac_rfl) (by rfl) (by trivial) (by trivial))) (λcl C s2 H2 fp=>qbn) (λcl C s2 H2 fp=>(qat F_read_piece hr_read_piece (by rfl) qay (qaa (pv 0) pa_nil))))
   (qab (qaH (PW.pt (qdv (qak (op_inN hu) qes (pv 3) (by with_unfolding_all rfl)) (qcr (qak op_ne (qat F_has_stuff hr_has_stuff (by rfl) qay (qaa (pv 0) pa_nil)) (qaW op_gt (qal call_len_seq (by rfl) T.len b_len (qaa (pv 3) pa_nil)) qag (qap _)) (qap _))))) (qad (qai qes)) pss_nil)
   (qad (qai (pv 3)))))),?_⟩
  refine⟨_,rfl,rfl,_,rfl,?_⟩;rw[show decide (V.str k.s=V.str (Str.ofString "picture"))=decide (k=.picture)from kdt k .picture]
  by_cases hk:k=.picture
  ·rw[decide_eq_true hk];subst hk;refine iteT ⟨_,rfl,l,rfl,⟨_,SqL.of hl⟩,qaN (λi ys σ' H'=>Same H H'/\ys=((ws.take i).map qaK).map V.int/\∃z,σ'=[z]) zl ⟨Same.refl H,rfl,none,rfl⟩ ?_ ?_ ?_⟩
   ·rintro i ys σ' H' hi ⟨s2,rfl,_⟩;exact⟨SqL.of (s2 _ _ hl),by simp;omega⟩
   ·rintro i x ys σ' H' hx ⟨s2,rfl,z,rfl⟩;rw[qP]at hx;cases e:ws[i]? with
    | none=>rw[e]at hx;cases hx
    | some nm =>
      rw[e]at hx
      cases hx
      have hn:=rk.1 nm (qK e)
      refine⟨_,rfl,nm,rfl,hn.1,hn.2,λH3 s3=>⟨s2.trans s3,?_,_,rfl⟩⟩
      rw[rO,e,rR,qM,qM]
      rfl
   ·rintro ys σ' H' ⟨s2,rfl,_⟩ D hD;rw[qA,rJ];have s3:=s2.trans (qac hD (.lst ((ws.map qaK).map V.int)));have st:StAt (qbP H) (upd H' D (.lst ((ws.map qaK).map V.int))) D (ws.map λx=>Th.int (qaK x)):=by
     refine⟨s2.none hD,_,upd_same,?_⟩;rw[xF];exact qeS λx _=>rfl
    refine⟨_,rfl,_,rfl,.picture,D,_,qbP H,rfl,st,⟨λz=>(by cases z),λ_ x hx=>?_,?_⟩,λb H4 s4 ib=>⟨_,rfl,?_⟩⟩
    ·obtain⟨y,_,rfl⟩:=qV.mp hx;exact⟨_,rfl⟩
    ·rw[qA];exact rk.2
    ·cases b with
     | false =>
       refine iteF (qn ?_ _ (s3.trans s4))
       unfold qaT
       rw[if_pos rfl,if_neg λz=>absurd (ib.mpr z) (by decide)]
     | true =>
       refine iteT ⟨_,rfl,qs _ ?_ _ _ (s3.trans s4) (st.keep s4.keep λ_ n _=>n)⟩
       unfold qaT
       rw[if_pos rfl,if_pos (ib.mp rfl)]
  rw[qC hk];refine iteF ⟨_,rfl,l,rfl,⟨_,SqL.of hl⟩,qaN (λi ys σ' H'=>Same H H'/\Paired (OpAt (qbP H) H') ys ((ws.take i).map qaA)/\∃z,σ'=[z]) zl ⟨Same.refl H,.nil,none,rfl⟩ ?_ ?_ ?_⟩
  ·rintro i ys σ' H' hi ⟨s2,pa,_⟩;exact⟨SqL.of (s2 _ _ hl),by rw[pa.length];simp;omega⟩
  ·rintro i x ys σ' H' hx ⟨s2,pa,z,rfl⟩;rw[qP]at hx;cases e:ws[i]? with
   | none=>rw[e]at hx;cases hx
   | some nm =>
     rw[e]at hx
     cases hx
     have hn:=rk.1 nm (qK e)
     refine⟨_,rfl,nm,rfl,hn.1,hn.2,λv H3 s3 o3=>⟨s2.trans s3,?_,_,rfl⟩⟩
     rw[rO,e,rR,qM]
     exact qbl (pa.mono λv o h=>h.same s3) (.cons (o3.sub s2) .nil)
  ·rintro ys σ' H' ⟨s2,pa,_⟩ D hD;rw[qA,rJ]at pa;have s3:=s2.trans (qac hD (.lst ys));have pa3:Paired (OpAt (qbP H) (upd H' D (.lst ys))) ys (ws.map qaA):=pa.mono λv o h=>h.same (qac hD _)
   have ly:ys.length=ws.length:=by rw[pa.length,qA]
   refine⟨_,rfl,D,ys,rfl,rfl,upd_same,λv hv=>op_kinds pa3 (λo ho=>?_) v hv,_,rfl,?_⟩
   ·obtain⟨x,_,rfl⟩:=qV.mp ho;exact read_tri x
   rw[op_any pa3];have rs:qaT k ws=if(ws.map qaA).any Option.isNone || (qaE k != decide (0<ws.length))then none else some (ws.filterMap qaA):=by
    unfold qaT;rw[if_neg hk]
   cases e1:(ws.map qaA).any Option.isNone with
   | true =>
     refine iteT (iteT (qn ?_ _ s3))
     rw[rs,e1]
     rfl
   | false =>
     refine iteF ⟨_,rfl,k,rfl,_,rfl,D,_,rfl,.inl (SqL.of upd_same),_,_,rfl,rfl,rfl,_,rfl,?_⟩
     rw[e1,wE]at rs
     have e2:(!decide (V.bl (qaE k)=V.bl (decide ((0:Int)<((ys.length:Nat):Int)))))=(qaE k != decide (0<ws.length)):=by
       rw[ly,show decide ((0:Int)<((ws.length:Nat):Int))=decide (0<ws.length)from by rw[xD];simp]
       cases qaE k<;>cases decide (0<ws.length)<;>rfl
     rw[e2]
     cases e3:(qaE k != decide (0<ws.length))with
     | true =>
       refine iteT (qn ?_ _ s3)
       rw[rs,e3]
       rfl
     | false =>
       refine iteF ⟨_,rfl,qs _ (by rw[rs,e3];rfl) _ _ s3 ⟨s2.none hD,ys,upd_same,?_⟩⟩
       have:=op_all pa3 e1
       rw[vW]at this
       exact this
theorem scRowParts:FnScope ["row", "level", "words", "kind", "bar", "stuff"] ["row"] (qaf sRowParts):=⟨rfl,rfl,rfl,by ac_rfl,rfl,by ac_rfl,by ac_rfl⟩
theorem ok_row_parts{f a_KINDS:Addr}{fd:FuncData}(F:Fun K "row_parts" "row_parts" sRowParts f fd)(T:Bn mg)(g_KINDS:mg "KINDS" = some (.ref a_KINDS))(KP:KTup K a_KINDS kindsAll)(F_are_labels:Fx P w K mg base CX0 3 "are_labels" ["labels"] spAreLabs)(F_has_stuff:Fx P w K mg base CX0 1 "has_stuff" ["kind"] spHasStuff)(F_read_stuff:Fx P w K mg base CX0 6 "read_stuff" ["kind", "words"] spReadStuff)(F_name_label:Fx P w K mg base CX0 3 "name_label" ["labels"] spNameLab)(F_mark_labels:Fx P w K mg base CX0 3 "mark_labels" ["labels"] spMarkLabs):FnOk P w K mg base CX0 7 f fd ["row"] spRowParts:=by
 refine F.ok scRowParts (λvs H Q E h=>?_) (λcdv A outer s H vs Q E hr h=>?_)
 ·obtain⟨x,rfl,_⟩:=h;rfl
 ·obtain⟨x,rfl,ok,qn,qs⟩:=h;have hr_are_labels:Room 3 _:=hr.mono (by decide);have hr_name_label:Room 3 _:=hr.mono (by decide);have hr_mark_labels:Room 3 _:=hr.mono (by decide);have hr_has_stuff:Room 1 _:=hr.mono (by decide);have hr_read_stuff:=hr;have zl:x.length<=sizeLine:=qR ok.len (by decide);have dl:=qcp (·== 62) x.cps.toList;rw[qbo]at dl;have rk:=ok.ws;have wne:=words_ne x;have bl:=qii (qaJ x);have rp:qa8 x=match kindOf ((qaJ x).headD noName)with
   | none=>none
   | some k => if !qbA (qbe (qaJ x)) || (!qaE k && decide (qbi (qaJ x) < (qaJ x).length)) then none
     else(qaT k (qbK (qaJ x))).map λst=>⟨(qbW x:Int),k,qbF (qbe (qaJ x)),qbd (qbe (qaJ x)),st⟩:=rfl
  have ew:(qbf 32 (x.cps.toList.dropWhile (·== 62))).map mkS=qaJ x:=rfl;refine⟨_,(qab (qau (i:=1) scRowParts.nd (by rfl) (by trivial) (qaM op_sub (qal call_len_str (by rfl) T.len b_len (qaa (pv 0) pa_nil)) (qal call_len_str (by rfl) T.len b_len (qaa (qbp xG PySem.F.slot_str_lstrip PySem.F.type_str_lstrip mt_lstripC (pv 0) (qaa qah pa_nil)) pa_nil))))
   (qab (qau (i:=2) scRowParts.nd (by rfl) (by trivial) (qbp xG PySem.F.slot_str_split PySem.F.type_str_split mt_split1 (qaX sl_str (pv 0) (qaY (pv 1)) po_none) (qaa qah pa_nil)))
   (qab (qau (i:=3) scRowParts.nd (by rfl) (by trivial) (qan ix_list (pv 2) qag (λ_ _=>rfl)))
   (qab (qau (i:=4) scRowParts.nd (by rfl) (by trivial) (qch (qak op_in_seq qah (pv 2) (by with_unfolding_all rfl)) (qbp qS PySem.F.slot_list_index PySem.F.type_list_index mt_indexS (pv 2) (qaa qah pa_nil)) (qal call_len_seq (by rfl) T.len b_len (qaa (pv 2) pa_nil))))
   (qab (qaH (PW.pt (qdv (qak op_notIn_seq (pv 3) (qae (v:=.ref a_KINDS) (by rfl) g_KINDS rfl) (by with_unfolding_all rfl)) (qcr (qbj (qaZ (qat F_are_labels hr_are_labels (by rfl) qay (qaa (qaX sl_list (pv 2) (qaY qag) (qaY (pv 4))) pa_nil))))))) (qad (qai qes)) pss_nil)
   (qab (qaH (PW.pt (qcH (qbj (qaZ (qat F_has_stuff hr_has_stuff (by rfl) qay (qaa (pv 3) pa_nil)))) (qbZ (qak op_lt (pv 4) (qal call_len_seq (by rfl) T.len b_len (qaa (pv 2) pa_nil)) (qap _))))) (qad (qai qes)) pss_nil)
   (qab (qau (i:=5) scRowParts.nd (by rfl) (by trivial) (qat F_read_stuff hr_read_stuff (by rfl) qay (qaa (pv 3) (qaa (qaX sl_list (pv 2) (qaY (qaM op_add (pv 4) qag)) po_none) pa_nil))))
   (qab (qaH (qiI (qiw (pv 5))) (qad (qai qes)) pss_nil)
   (qad (qai (qbc (qaa (pv 1) (qaa (pv 3) (qaa (qat F_name_label hr_name_label (by rfl) qay (qaa (qaX sl_list (pv 2) (qaY qag) (qaY (pv 4))) pa_nil)) (qaa (qat F_mark_labels hr_mark_labels (by rfl) qay (qaa (qaX sl_list (pv 2) (qaY qag) (qaY (pv 4))) pa_nil)) (qaa (pv 5) pa_nil)))))))))))))))),?_⟩
  refine⟨_,rfl,x,rfl,zl,_,rfl,rfl,x,Str.ofString ">",rfl,rfl,zl,_,rfl,?_⟩;rw[show Str.ofString ">" = ⟨#[62]⟩from sg_gt,qhX];refine⟨qR dl zl,_,_,rfl,rfl,?_⟩;have el:(x.length:Int)-((mkS (x.cps.toList.dropWhile (·== 62))).length:Nat)=(qbW x:Nat):=by
   have:=while_len (·== 62) x.cps.toList;rw[qbo]at this;rw[qdi (x.cps.toList.dropWhile (·== 62))];unfold qbW;omega
  have ll:qbW x<=x.length:=by omega
  dsimp only[qcq];rw[el];have es:Txt.slice x (some ((qbW x:Nat):Int)) none=mkS (x.cps.toList.dropWhile (·== 62)):=by
   rw[qeI (by omega) (by omega),rM];unfold qbW;rw[qbB]
  refine⟨_,rfl,_,rfl,_,rfl,x,rfl,zl,rfl,mkS (x.cps.toList.dropWhile (·== 62)),32,by rw[es],by rw[<-sg_sp],by decide,by rw[qdi];exact qR dl ok.len,λl hl=>?_⟩;dsimp only[mkS];rw[List.toList_toArray,ew];clear ew el es dl;generalize qaJ x=ws at rp rk wne bl⊢;have h1:upd H l (.lst (ws.map V.str)) l=some (.lst (ws.map V.str)):=upd_same;have s1:Same H (upd H l (.lst (ws.map V.str))):=qac hl _;generalize upd H l (.lst (ws.map V.str))=H1 at h1 s1⊢;cases ws with
  | nil=>exact absurd wne (by decide)
  | cons w0 ws =>
  refine⟨_,rfl,l,_,_,_,rfl,rfl,SqL.of h1,(qbV (j:=0) rfl),?_⟩;dsimp only[qcq];refine qa0 (λσ' H'=>σ'=[some (.str x),some (.int (qbW x:Nat)),some (.ref l),some (.str w0),some (.int (qbi (w0::ws):Nat)),none]/\H'=H1) (λD' k=>?_) ?_
  ·refine⟨_,rfl,l,_,rfl,.inl (SqL.of h1),rfl,qeE _,_,rfl,?_⟩;rw[if_neg qL,qfj]
   by_cases hb:Str.ofString "|" ∈ w0::ws
   ·rw[qB hb];exact iteT ⟨_,rfl,.inl ⟨rfl,_,SqL.of h1⟩,l,w0::ws,_,qbi (w0::ws),rfl,rfl,h1,qR rk.2 (by decide),(qih hb).1,(qih hb).2,k _ _ ⟨rfl,rfl⟩⟩
   ·rw[qC hb];refine iteF ⟨_,rfl,l,_,rfl,.inl (SqL.of h1),k _ _ ⟨?_,rfl⟩⟩;rw[bar_out hb,qA];rfl
  rintro _ H1 ⟨rfl,rfl⟩;have eb:∀ws:List Str,cutV ((w0::ws).map V.str) (some 1) (some ((qbi (w0::ws):Nat):Int))=(qbe (w0::ws)).map V.str:=λws=>by
   rw[show(1:Int)=((1:Nat):Int)from rfl,cut_mid 1 _ (by rw[qA];exact qii _) (by simp),<-wV,<-List.map_take];rfl
  have rl:qf3 (qbe (w0::ws)):=qet rk (λy hy=>yR (uZ hy)) (by unfold qbe;rw[rN,rW];omega);have rr:qf3 (qbK (w0::ws)):=qet rk (λy hy=>yR hy) (by unfold qbK;rw[rW];omega);refine⟨_,rfl,a_KINDS,_,rfl,.inr (KP H1),rfl,qby _,_,rfl,?_⟩;rw[if_pos rfl,show(kindsAll.map λk=>V.str k.s)=(kindsAll.map Kd.s).map V.str by rw[xF];rfl,qfj,kindOf_in];rw[show(w0::ws).headD noName=w0 from rfl]at rp;cases ek:kindOf w0 with
  | none =>
    rw[ek]at rp
    exact iteT (iteT (qn rp _ s1))
  | some k =>
  rw[ek]at rp;obtain⟨rfl,hk⟩:=qdd ek;refine iteF ⟨_,rfl,1,rfl,_,rfl,_,rfl,l,_,rfl,SqL.of h1,λp2 hp2=>?_⟩;rw[eb];refine⟨p2,_,rfl,⟨upd_same,rl⟩,λH2 s2=>⟨_,rfl,?_⟩⟩;have s12:=s1.trans ((qac hp2 _).trans s2);have h2:H2 l=_:=s2 _ _ (qac hp2 _ _ _ h1);dsimp only at rp;cases ea:qbA (qbe (k.s::ws))with
  | false =>
    rw[ea]at rp
    exact iteT (qn rp _ s12)
  | true =>
  rw[ea,Bool.not_true,wE]at rp;refine iteF ?_;dsimp only[tNext];refine qbs (λσ' H'=>σ'=[some (.str x),some (.int (qbW x:Nat)),some (.ref l),some (.str k.s),some (.int (qbi (k.s::ws):Nat)),none]/\H'=H2/\(!qaE k && decide (qbi (k.s::ws)<(k.s::ws).length))=false) (λN0 kk=>?_) ?_
  ·refine⟨_,rfl,k,rfl,_,rfl,?_⟩;cases e1:qaE k with
   | true=>exact iteF (iteF (kk _ _ ⟨rfl,rfl,by rw[e1];rfl⟩))
   | false =>
     refine iteT ⟨_,rfl,_,rfl,l,_,rfl,.inl (SqL.of h2),_,_,rfl,rfl,_,rfl,?_⟩
     rw[qA]
     by_cases e2:qbi (k.s::ws)<(k.s::ws).length
     · rw[qB (by omega:((qbi (k.s::ws):Nat):Int)<((k.s::ws).length:Nat))]
       refine iteT (qn ?_ _ s12)
       rw[rp,e1,qB e2]
       rfl
     · rw[qC (by omega:¬((qbi (k.s::ws):Nat):Int)<((k.s::ws).length:Nat))]
       exact iteF (kk _ _ ⟨rfl,rfl,by rw[e1,qC e2];rfl⟩)
  rintro _ H2 ⟨rfl,rfl,eh⟩;rw[eh]at rp;have er:cutV ((k.s::ws).map V.str) (some (((qbi (k.s::ws):Nat):Int)+1)) none=(qbK (k.s::ws)).map V.str:=by
   rw[show((qbi (k.s::ws):Nat):Int)+1=((qbi (k.s::ws)+1:Nat):Int) by omega,qd8,<-wV];rfl
  refine⟨_,rfl,_,rfl,_,rfl,_,_,rfl,rfl,_,rfl,l,_,rfl,SqL.of h2,λp3 hp3=>?_⟩;dsimp only;rw[er];have s3:=s12.trans (qac hp3 (.lst ((qbK (k.s::ws)).map V.str)));refine⟨k,p3,_,rfl,⟨upd_same,rr⟩,λen H4 s4=>?_,λst est sa H4 s4 hst=>?_⟩
  ·refine⟨_,rfl,_,rfl,iteT (qn ?_ _ (s3.trans s4))⟩;rw[rp,en];rfl
  ·refine⟨_,rfl,_,rfl,iteF ?_⟩;have s14:=s3.trans s4;have h4:H4 l=_:=s4 _ _ (qac hp3 _ _ _ h2);refine⟨_,rfl,_,rfl,_,rfl,1,rfl,_,rfl,_,rfl,l,_,rfl,SqL.of h4,λp5 hp5=>?_⟩;rw[eb];refine⟨p5,_,rfl,⟨upd_same,rl⟩,λH6 s6=>?_⟩;have s46:=(qac hp5 (.lst ((qbe (k.s::ws)).map V.str))).trans s6;refine⟨_,rfl,1,rfl,_,rfl,_,rfl,l,_,rfl,SqL.of (s46 _ _ h4),λp7 hp7=>?_⟩;rw[eb];refine⟨p7,_,rfl,⟨upd_same,rl⟩,λm H8 hm s8 em=>?_⟩;have s68:=(qac hp7 (.lst ((qbe (k.s::ws)).map V.str))).trans s8;refine⟨_,rfl,(by show 5<=sizeLine;decide),λa ha=>?_⟩;have s48:=s46.trans s68;have s18:=(s14.trans s48).trans (qac ha (.tup [.int (qbW x:Nat),.str k.s,.str (qbF (qbe (k.s::ws))),.ref m,.ref sa]));refine qs ⟨(qbW x:Int),k,qbF (qbe (k.s::ws)),qbd (qbe (k.s::ws)),st⟩ (by rw[rp,est];rfl) a _ s18 ⟨(s14.trans s48).none ha,m,sa,upd_same,?_,?_,?_⟩
   ·exact(s14.trans (s46.trans (qac hp7 _))).none hm
   ·rw[qax (qam em ha)];exact em
   ·exact hst.keep (s48.trans (qac ha _)).keep λb n _=>s3.none n
end
end K10
namespace L2
open PySem PySem.Spec PyProof.Rows
section
variable{P:Program}{w:World}{K:W.Frag}{mg:Str->Option Value}{base:Heap}{N:List Str}{qual:Str}{scope:Scope}{f:Addr}{cd:Value}{A:Around}{outer:List Env}{s0:Shared}{H0:Hp}{E:XK}
theorem pass1:qdV (CX1 P w) (cxOf (CX1 P w) P w K mg base N qual scope f cd A outer s0 H0 E) E:=λpins σ H s e s' I h=>by
 obtain⟨ea,C,a0,H',B,rfl,os',bare',un,hok',fly,kB,hea,hsea,hE⟩:=h;show wpAny (model P w) (A.deeper (envOfC qual scope s0.heap.objs.size f cd)) (leaving (envOfC qual scope s0.heap.objs.size f cd) (.ref ea)) (λ_ s''=>CX1 P w outer H0 s0 E (.ref ea) s'') (λe' s''=>CX1 P w outer H0 s0 E e' s'') s';have old:∀b o,s0.heap.get? b=some o->b∉frs outer->b∉frs (envOfC qual scope s0.heap.objs.size f cd::outer):=λb o q nb z=>by
  rcases qO.mp (show b∈s0.heap.objs.size::frs outer from z)with e1 | e1
  ·rw[e1]at q;exact absurd (qU q) (rX _)
  ·exact nb e1
 have fin:∀b,b∈frs (envOfC qual scope s0.heap.objs.size f cd::outer)->∃o,s.heap.get? b=some o:=λb hb=>by
  rcases qO.mp (show b∈s0.heap.objs.size::frs outer from hb)with e1 | e1
  ·obtain⟨m,⟨o',es,ep,ho',hd',_⟩,_⟩:=I.loc;exact⟨o',by rw[e1];exact ho'⟩
  ·obtain⟨_,o',ho',_⟩:=I.funs.mem e1;exact⟨o',ho'⟩
 have trk:∀b,H' b≠none->b∉frs (envOfC qual scope s0.heap.objs.size f cd::outer):=λb q z=>by
  obtain⟨o,ho⟩:=fin b z;exact q (un.free b o ho (I.stkFree b z) (by simp))
 refine wpAny_leaves_onW (I.ok.frames) rfl fly λh2 f2 up=>?_
 have kB2:∀b o,s'.heap.get? b=some o->(H' b≠none\/∃o0,s.heap.get? b=some o0)->b∉frs (envOfC qual scope s0.heap.objs.size f cd::outer)->h2.get? b=some o:=λb o q r nb=>f2.1 b o (kB b o q r nb)
 refine⟨ea,C,a0,H',B,rfl,os'.trans I.os,bare',⟨λb o q n nb _=>?_,λb o q n hb _=>?_,λb o q n _=>?_,λb o q _=>?_,λb xs q=>un.tups b xs (I.base.tups b xs q),λb o u q=>un.frzs b o u (I.base.frzs b o u q),λb ps q=>?_⟩,λa o q=>?_,f2,λb o q hq nb=>?_,hea,?_,hE⟩
 ·have e1:=I.base.keep b o q n nb (by simp[cxOf]);have e2:=un.keep b o e1 (I.base.free b o q n (by simp[cxOf])) (old b o q nb) (by simp);exact kB2 b o e2 (.inr ⟨o,e1⟩) (old b o q nb)
 ·obtain⟨sl,e1⟩:=I.base.slot b o q n hb (by simp[cxOf]);obtain⟨sl',e2⟩:=un.slot b _ e1 (I.base.free b o q n (by simp[cxOf])) (qN _ hb) (by simp);obtain⟨_,o',ho',hnf⟩:=I.funs.mem hb;rw[e1]at ho';cases ho';obtain⟨sl2,e3⟩:=up b _ e2 hnf;exact⟨sl2,e3⟩
 ·obtain⟨o',e1⟩:=I.base.there b o q (by simp[cxOf]);exact un.free b o' e1 (I.base.free b o q n (by simp[cxOf])) (by simp)
 ·obtain⟨o1,e1⟩:=I.base.there b o q (by simp[cxOf]);obtain⟨o2,e2⟩:=un.there b o1 e1 (by simp)
  by_cases hb:b∈frs outer
  ·obtain⟨_,o',ho',hnf⟩:=I.funs.mem hb;obtain⟨sl',e3⟩:=un.slot b _ ho' (I.stkFree b (qN _ hb)) (qN _ hb) (by simp);obtain⟨sl2,e4⟩:=up b _ e3 hnf;exact⟨_,e4⟩
  ·exact⟨o2,kB2 b o2 e2 (.inr ⟨o1,e1⟩) (old b o q hb)⟩
 ·obtain⟨m1,e1⟩:=I.base.tbls b ps q;obtain⟨m2,e2⟩:=un.tbls b _ e1;exact⟨m1++m2,by rw[e2,Array.append_assoc]⟩
 ·refine(hok' a o q).stay (λb u hb z=>?_) (λ_ z=>z) λ_ _ z=>z
  have nn:H' b≠none:=by
   rcases hb with z' | z'
   ·rw[z',q];exact λz=>by cases z
   ·rw[z'];exact λz=>by cases z
  exact kB2 b u z (.inl nn) (trk b nn)
 ·have g:∃o',s'.heap.get? b=some o'/\(H' b≠none\/∃o0,s.heap.get? b=some o0)/\b∉frs (envOfC qual scope s0.heap.objs.size f cd::outer):=by
   rcases hq with z | ⟨o0,z⟩
   ·cases e1:H' b with
    | none=>exact absurd e1 z
    | some u =>
      obtain⟨o',e2⟩:=(hok' b u e1).at
      exact⟨o',e2,.inl (λz=>by cases z),trk b z⟩
   ·obtain⟨o1,e1⟩:=I.base.there b o0 z (by simp[cxOf]);obtain⟨o2,e2⟩:=un.there b o1 e1 (by simp);exact⟨o2,e2,.inr ⟨o1,e1⟩,old b o0 z nb⟩
  obtain⟨o',e1,r,nb'⟩:=g;have e2:=kB2 b o' e1 r nb';rw[q]at e2;cases e2;exact kB b o e1 r nb'
 ·cases e1:s0.heap.get? ea with
  | none=>rfl
  | some o =>
    obtain⟨o',e2⟩:=I.base.there ea o e1 (by simp[cxOf])
    rw[hsea]at e2
    cases e2
end
end L2
namespace K10
open PySem L2 Bk Gen
abbrev sNoteNumbers:Stmt:=top 49
abbrev sMayHold:Stmt:=top 48
abbrev sElders:Stmt:=top 46
abbrev sHolds:Stmt:=top 50
section
variable{P:Program}{w:World}{K:W.Frag}{mg:Str->Option Value}{base:Heap}
theorem scNoteNumbers:FnScope ["stuff"] ["stuff"] (qaf sNoteNumbers):=⟨rfl,rfl,rfl,by ac_rfl,rfl,by ac_rfl,by ac_rfl⟩
theorem ok_note_numbers{f:Addr}{fd:FuncData}(F:Fun K "note_numbers" "note_numbers" sNoteNumbers f fd)(N:Nums mg):FnOk P w K mg base CX0 1 f fd ["stuff"] spNotesA:=by
 refine F.ok scNoteNumbers (λvs H Q E h=>?_) (λcdv A outer s H vs Q E hr h=>?_)
 ·obtain⟨sf,st,N',rfl,_⟩:=h;rfl
 ·obtain⟨sf,st,N',rfl,⟨nsf,vs,hs,its⟩,ok,le,q⟩:=h;obtain⟨_,g_SORT⟩:=N.sort;obtain⟨_,g_THING⟩:=N.thing;have lv:vs.length=st.length:=its.length;have zl:vs.length<sizeLine:=qaG (by omega);refine⟨_,(qad (qai (qba (own:=["piece"]) (by rfl) (CompScope.plain (by rfl) (by ac_rfl) (by ac_rfl) (by ac_rfl)) (qbb (pv 0)) (λcl C s2 H2 fp=>(qaw (i:=0) (by show(["piece"]:List Str).Nodup;ac_rfl) (by rfl) (by trivial) (by trivial))) (λcl C s2 H2 fp=>(qcN (qak op_eq (qan (r:=rIxT K) ix_tup (pv 0) (qae (v:=.int 0) (by rfl) g_SORT ⟨_,rfl⟩) (λ_ _=>rfl)) qah (qap _)))) (λcl C s2 H2 fp=>(qan (r:=rIxT K) ix_tup (pv 0) (qae (v:=.int 1) (by rfl) g_THING ⟨_,rfl⟩) (λ_ _=>rfl)))))),?_⟩;refine⟨_,rfl,sf,rfl,⟨_,SqL.of hs⟩,qaN (λi ys σ' H'=>H'=H/\ys=(qaj (st.take i)).map V.int/\∃z,σ'=[z]) zl ⟨rfl,rfl,none,rfl⟩ ?_ ?_ ?_⟩
  ·rintro i ys σ' H' hi ⟨rfl,rfl,_⟩;refine⟨SqL.of hs,?_⟩;rw[qA];unfold qaj;exact qR (List.length_filterMap_le ..) (by rw[rN];exact yM _ _)
  ·rintro i x ys σ' H' hx ⟨rfl,rfl,z,rfl⟩;obtain⟨th,et,it⟩:=qbH its hx;have pk:=ok th (qK et);have tk:qaj (st.take (i+1))=qaj (st.take i)++qaj [th]:=by
    rw[rO,et,rR,notes_app]
   cases th with
   | int n=>cases pk
   | tri so x t =>
     obtain⟨a,rfl,_,ha⟩:=it
     refine⟨_,rfl,a,_,_,_,rfl,rfl,SqT.of ha,rfl,rfl,_,rfl,?_⟩
     rw[show decide (V.str so.s=V.str (Str.ofString "note"))=decide (so=.note)from sot so .note]
     rw[tk,qM]
     cases so<;>cases x<;>first | (exfalso;exact pk) | skip
     · exact iteF ⟨rfl,by simp[qaj,noteNum],_,rfl⟩
     · exact iteF ⟨rfl,by simp[qaj,noteNum],_,rfl⟩
     · exact iteT ⟨_,rfl,a,_,_,_,rfl,rfl,SqT.of ha,rfl,rfl,by simp[qaj,noteNum,thV],_,rfl⟩
  ·rintro ys σ' H' ⟨rfl,rfl,_⟩ D hD;refine q D _ hD (qac hD _) ?_;rw[upd_same,lv,rJ]
def MayX(P:Program)(w:World)(K:W.Frag)(a:Addr):Prop:=∃kvs,KDict P w K a kvs/\∀e∈kindsAll,∃q ks,valueAt kvs (.inr e.s)=some (.ref q)/\KTup K q ks/\∀k,mayHold e k=decide (k∈ks)
theorem scMayHold:FnScope ["elder_kind", "kind"] ["elder_kind", "kind"] (qaf sMayHold):=⟨rfl,rfl,rfl,by ac_rfl,rfl,by ac_rfl,by ac_rfl⟩
theorem ok_may_hold{f a_MAY_HOLD:Addr}{fd:FuncData}(F:Fun K "may_hold" "may_hold" sMayHold f fd)(g_MAY_HOLD:mg "MAY_HOLD" = some (.ref a_MAY_HOLD))(MD:MayX P w K a_MAY_HOLD):FnOk P w K mg base CX0 1 f fd ["elder_kind", "kind"] spMayX:=by
 refine F.ok scMayHold (λvs H Q E h=>?_) (λcdv A outer s H vs Q E hr h=>?_)
 ·obtain⟨e,k,rfl,_⟩:=h;rfl
 ·obtain⟨e,k,rfl,he,q⟩:=h;obtain⟨kvs,KD,all⟩:=MD;obtain⟨t,ks,hv,kt,hk⟩:=all e he;refine⟨_,(qad (qai (qaW op_in_seq (pv 1) (qan (r:=rIxD P w K) ix_kdict (qae (v:=.ref a_MAY_HOLD) (by rfl) g_MAY_HOLD rfl) (pv 0) (λ_ _=>rfl)) (by with_unfolding_all rfl)))),?_⟩;refine⟨_,rfl,_,rfl,a_MAY_HOLD,e.s,kvs,.ref t,.ref t,rfl,rfl,KD,hv,rfl,t,_,rfl,.inr (kt H),rfl,qby _,?_⟩;rw[if_neg qL,qbT,<-hk k];exact q
theorem scElders:FnScope ["book", "node", "elders", "above"] ["book", "node"] (qaf sElders):=⟨rfl,rfl,rfl,by ac_rfl,rfl,by ac_rfl,by ac_rfl⟩
theorem ok_elders_of{f:Addr}{fd:FuncData}(F:Fun K "elders_of" "elders_of" sElders f fd)(U:∃t,mg "ELDER" = some (.int 0 t)):FnOk P w K mg base CX0 1 f fd ["book", "node"] spElders:=by
 refine F.ok scElders (λvs H Q E h=>?_) (λcdv A outer s H vs Q E hr h=>?_)
 ·obtain⟨p,i,l,d,ds,N,rfl,_⟩:=h;rfl
 ·obtain⟨p,i,l,d,ds,N,rfl,⟨as,hp,nd⟩,ed,lv,ll,q⟩:=h;obtain⟨_,g_ELDER⟩:=U;refine⟨_,(qab (qau (i:=2) scElders.nd (by rfl) (by trivial) (qaR pa_nil))
   (qab (qau (i:=3) scElders.nd (by rfl) (by trivial) (qan ix_tup (qan ix_list (pv 0) (pv 1) (λ_ _=>rfl)) (qae (v:=.int 0) (by rfl) g_ELDER ⟨_,rfl⟩) (λ_ _=>rfl)))
   (qab (qfq xE (qak op_ne (pv 3) (qen un_neg qag) (qap _)) (qab (qaS (qbp qS rE rF mt_append (pv 2) (qaa (pv 3) pa_nil)))
   (qad (qau (i:=3) scElders.nd (by rfl) (by trivial) (qan ix_tup (qan ix_list (pv 0) (pv 3) (λ_ _=>rfl)) (qae (v:=.int 0) (by rfl) g_ELDER ⟨_,rfl⟩) (λ_ _=>rfl))))))
   (qad (qai (pv 2)))))),?_⟩
  refine⟨by show 0<=sizeLine;decide,λL hL=>?_⟩;have s1:=qac hL (.lst []);have rm:=qcm lv ed;obtain⟨a,ea,na⟩:=nd.get ed;obtain⟨m',s',ha,_⟩:=na.ex;refine⟨_,rfl,_,rfl,p,_,_,_,rfl,rfl,SqL.of (s1 _ _ hp),qbO ea,a,_,_,_,rfl,rfl,SqT.of (s1 _ _ ha),rfl,?_⟩;refine⟨λm σ H'=>Same H H'/\∃(pre:List Int) (ab:Int),σ=[some (.ref p),some (.int i),some (.ref L),some (.int ab)]/\H' L=some (.lst (pre.map V.int))/\RemE ds ab m/\pre++eldR ds m ab=eldR ds l d.e,⟨l,s1,[],_,rfl,upd_same,rm,rfl⟩,?_⟩;rintro m σ H' ⟨s2,pre,ab,rfl,hl,rm,eq⟩;refine⟨_,rfl,_,rfl,rfl,_,rfl,?_⟩;rcases rm with⟨rfl,rfl⟩ | ⟨j,k',rfl,lj,rfl⟩
  ·rw[qB (rfl:V.int (-1)=V.int (-1))];refine iteF ⟨_,rfl,?_⟩;rw[eldR,rC]at eq;subst eq;exact q L H' hL s2 hl
  ·rw[qC (λz=>by have:=V.int.inj z;omega:¬V.int (j:Int)=V.int (-1))];refine iteT ⟨λσ' H''=>Same H H''/\∃(ab:Int),σ'=[some (.ref p),some (.int i),some (.ref L),some (.int ab)]/\H'' L=some (.lst ((pre++[(j:Int)]).map V.int))/\RemE ds ab k'/\(pre++[(j:Int)])++eldR ds k' ab=eldR ds l d.e,?_,?_⟩
   ·rintro σ' H'' ⟨s3,ab,rfl,h3,rm,eq'⟩;exact⟨k',xS _,s3,pre++[(j:Int)],ab,rfl,h3,rm,eq'⟩
   ·obtain⟨d2,ed2⟩:=lj.nd;have rm2:=qcm lj ed2;obtain⟨a2,ea2,na2⟩:=nd.get ed2;obtain⟨m3,s3,ha2,_⟩:=na2.ex;have pl:pre.length<=999:=by have:=xO List.length eq;rw[qH,qdE,qdE]at this;omega
    have s4:Same H (upd H' L (.lst (pre.map V.int++[.int (j:Int)]))):=same_put s2 hL;refine⟨_,rfl,.inl ⟨rfl,_,SqL.of hl⟩,_,rfl,L,_,_,rfl,rfl,hl,qaG (by rw[qA];omega),?_⟩;refine⟨_,rfl,_,rfl,p,_,_,_,rfl,rfl,SqL.of (s4 _ _ hp),qbO ea2,a2,_,_,_,rfl,rfl,SqT.of (s4 _ _ ha2),rfl,?_⟩;exact⟨s4,_,rfl,by rw[upd_same];simp,rm2,by rw[qdq ed2]at eq;rw[<-eq];simp⟩
theorem scHolds:FnScope ["book", "node"] ["book", "node"] (qaf sHolds):=⟨rfl,rfl,rfl,by ac_rfl,rfl,by ac_rfl,by ac_rfl⟩
theorem ok_holds{f C:Addr}{fd:FuncData}{bm:List Value}{B newId initId:String}(F:FunD K "holds" "holds" sHolds f fd)(T:Bn mg)(tE:∃t,mg "ELDER" = some (.int 0 t))(O_NoNode:PyProof.Rows.OwnCls "NoNode" C bm newId mg base)(FB:ExcBaseFacts B newId initId bm):FnOk P w K mg base (CX1 P w) 1 f fd ["book", "node"] (qdb C):=by
 refine F.ok scHolds (λvs H Q E h=>?_) (λcdv A outer s H vs Q E hr h=>?_)
 ·obtain⟨p,n,ds,N,rfl,_⟩:=h;rfl
 ·obtain⟨p,n,ds,N,rfl,⟨as,hp,nd⟩,le,nb,alt⟩:=h;obtain⟨tE,g_ELDER⟩:=tE;refine⟨_,(qab (qaH (qbj (qcF op_le op_lt qag (pv 1) (qal call_len_seq (by rfl) T.len b_len (qaa (pv 0) pa_nil)))) (qad (qd5 O_NoNode FB (show A.handled=none from hr.hd) (by rfl) (qaa (qdr (qbX qah (qbX (qhS (pv 1)) pj_nil))) pa_nil))) pss_nil)
   (qad (qai (qba (own:=["number", "other"]) (by rfl) (ix:=[1]) (frees:=["node"]) (CompScope.frees (by rfl) (by ac_rfl) (by ac_rfl) (by ac_rfl) (by rfl) (by ac_rfl) (by first | exact qfC (by rfl) | exact free2 (by rfl) (by rfl))) (qcQ (by rfl) T.enumerate (qaa (pv 0) pa_nil)) (λcl C s2 H2 fp=>(qh8 K (n:=2) (by rfl) (by rfl) (qa1 (qaw (i:=0) (by show(["number", "other", "node"]:List Str).Nodup;ac_rfl) (by rfl) (by trivial) (by trivial)) (qa1 (qaw (i:=1) (by show(["number", "other", "node"]:List Str).Nodup;ac_rfl) (by rfl) (by trivial) (by trivial)) pgs_nil)))) (λcl C s2 H2 fp=>(qcN (qak op_eq (qan (r:=rIxT K) ix_tup (pv 1) (qae (v:=.int 0) (by rfl) g_ELDER ⟨_,rfl⟩) (λ_ _=>rfl)) (pv 2) (qap _)))) (λcl C s2 H2 fp=>(pv 0)))))),?_⟩
  have lenas:as.length=ds.length:=nd.length;have el:(((as.map V.ref).length:Nat):Int)=ds.length:=by rw[qA,lenas]
  have zl:(as.map V.ref).length<sizeLine:=by rw[qA];exact qaG (by omega)
  have raised:¬(0<=n/\n<ds.length)->qiH (qg7 (λσ H Q=>qhe (tC (V.str (Str.ofString "there is no node "))) (qhe (λσ H Q=>tVar 1 σ H λx H1=>∃i:Int,x=V.int i/\i.natAbs<10 ^ 100/\((Str.ofString (toString i)).length<=1921->Q (V.str (Str.ofString (toString i))) H1)) tJnil) Str.empty σ H Q) tNil) C E {nx:=λ_ _=>False,rt:=Q} [some (.ref p),some (.int n)] H:=λc=>by
   have bad:∀H',Same H H'->E (.ref C) none H':=by
    rcases alt with a | a
    ·exact a.2
    ·exact absurd a.1 c
   refine⟨_,rfl,by ac_rfl,_,rfl,n,rfl,uF nb (by ac_rfl),λhl=>?_⟩;have l1:(Str.empty++Str.ofString "there is no node " ++ Str.ofString (toString n)).length<=sizeLine:=by
    rw[qaz];have e1:(Str.empty++Str.ofString "there is no node ").length=17:=by ac_rfl
    have e2:3000<=sizeLine:=by ac_rfl
    omega
   exact⟨_,rfl,l1,l1,by show 1<=sizeLine;decide,bad H (Same.refl H)⟩
  refine⟨_,rfl,_,_,rfl,rfl,_,rfl,?_⟩;refine ite2 (λc0=>?_) (λc0=>?_)
  rotate_left
  ·refine⟨_,rfl,iteT ?_⟩;exact raised λz=>c0 (qB z.1)
  refine⟨_,rfl,p,_,rfl,.inl (SqL.of hp),_,_,rfl,rfl,_,rfl,?_⟩
  by_cases c:0<=n/\n<ds.length
  rotate_left
  ·have e:decide (n<(((as.map V.ref).length:Nat):Int))=false:=qC λz=>c ⟨rL c0,by rw[el]at z;exact z⟩
   rw[e];exact iteT (raised c)
  ·rcases alt with a | a
   ·exact absurd c a.1
   obtain⟨_,q⟩:=a;have e:decide (n<(((as.map V.ref).length:Nat):Int))=true:=qB (by rw[el];exact c.2);rw[e];refine iteF ?_;refine⟨_,rfl,p,rfl,⟨_,SqL.of hp⟩,qf7 (λi ys σ' H'=>Same H H'/\ys=(qaI ds n i).map V.int/\∃a b,σ'=[a,b,some (.int n)]) zl ⟨Same.refl H,rfl,none,none,rfl⟩ ?_ ?_ ?_⟩
   ·rintro i ys σ' H' hi ⟨s1,rfl,_⟩;exact⟨SqL.of (s1 _ _ hp),by rw[qA];exact qcS _ _ _⟩
   ·rintro i x ys σ' H' t hx ht ⟨s1,rfl,a,b,rfl⟩;obtain⟨a',ea,rfl⟩:=qdu hx;obtain⟨d,ed,nad⟩:=nd.at ea;obtain⟨m',s',ha',_⟩:=nad.ex;have s2:=s1.trans (qac ht (.tup [.int (i:Nat),.ref a']));refine⟨t,_,rfl,SqT.of upd_same,rfl,_,_,rfl,_,_,rfl,rfl,?_⟩;refine⟨_,rfl,a',_,_,_,rfl,rfl,SqT.of (s2 _ _ ha'),rfl,_,rfl,rfl,_,rfl,?_⟩
    by_cases he:d.e=n
    ·rw[qB (xO V.int he)];refine iteT ⟨_,rfl,s2,?_,_,_,rfl⟩;rw[qbx ed he,qM];rfl
    ·rw[qC λz=>he (V.int.inj z)];refine iteF ⟨s2,?_,_,_,rfl⟩;rw[qb8 ed he]
   ·rintro ys σ' H' ⟨s1,rfl,_⟩ D hD;refine q D _ (s1.free hD) (s1.trans (qac hD _)) ?_;rw[upd_same,qA,lenas]
abbrev sAreMarks:Stmt:=top 39
abbrev sFormFault:Stmt:=top 38
abbrev sRefuseFault:Stmt:=top 36
abbrev sCopiedNode:Stmt:=top 35
abbrev sAreUnlike:Stmt:=top 37
abbrev sHangsRight:Stmt:=top 44
theorem scAreMarks:FnScope ["marks"] ["marks"] (qaf sAreMarks):=⟨rfl,rfl,rfl,by ac_rfl,rfl,by ac_rfl,by ac_rfl⟩
theorem ok_are_marks{f:Addr}{fd:FuncData}(F:Fun K "are_marks" "are_marks" sAreMarks f fd)(T:Bn mg)(U:Glob mg)(F_is_name:Fx P w K mg base CX0 1 "is_name" ["value"] spNameB):FnOk P w K mg base CX0 2 f fd ["marks"] spMarksX:=by
 refine F.ok scAreMarks (λvs H Q E h=>?_) (λcdv A outer s H vs Q E hr h=>?_)
 ·obtain⟨m,mks,rfl,_⟩:=h;rfl
 ·obtain⟨m,mks,rfl,hm,mk,q⟩:=h;obtain⟨_,g_MOST_MARKS⟩:=U.marks;have hr_is_name:=hr;have hu:=hr.units;have l5:=mk.2;have zl:(mks.map V.str).length<sizeLine:=by rw[qA];exact qaG (by omega)
  refine⟨_,(qab (qaH (PW.pt (qdv (qbj (qaZ (qdn T.isinstance (by rfl) T.list (by rfl) b_list (pv 0)))) (qcr (qak op_gt (qal call_len_seq (by rfl) T.len b_len (qaa (pv 0) pa_nil)) (qae (v:=.int 4) (by rfl) g_MOST_MARKS ⟨_,rfl⟩) (qap _))))) (qad (qai qdP)) pss_nil)
   (qad (qai (qdY (qal (qco (by rfl)) (by rfl) T.all b_all (qaa (qba (own:=["mark"]) (by rfl) (CompScope.plain (by rfl) (by ac_rfl) (by ac_rfl) (by ac_rfl)) (qbb (pv 0)) (λcl C s2 H2 fp=>(qaw (i:=0) (by show(["mark"]:List Str).Nodup;ac_rfl) (by rfl) (by trivial) (by trivial))) (λcl C s2 H2 fp=>qbn) (λcl C s2 H2 fp=>(qat F_is_name hr_is_name (by rfl) qay (qaa (pv 0) pa_nil)))) pa_nil)) (qda (qaW (qgz hu) (pv 0) (qal (qdW (by rfl) (by rfl)) (by rfl) T.sorted b_sorted (qaa (qbq (qeo (by rfl)) (by rfl) T.set b_set (qaa (pv 0) pa_nil)) pa_nil)) (qap _))))))),?_⟩
  refine⟨_,rfl,_,_,_,_,rfl,.lst hm,⟨_,λu r=>r,k_ll⟩,_,rfl,iteF ?_⟩;refine⟨_,rfl,m,_,rfl,.inl (SqL.of hm),_,_,rfl,rfl,_,rfl,?_⟩
  by_cases l4:mks.length<=4
  rotate_left
  ·rw[qB (by rw[qA];omega:(4:Int)<((mks.map V.str).length:Nat))];exact iteT (q false H (Same.refl H) ⟨λz=>(by cases z),λz=>absurd z.1 l4⟩)
  rw[qC (by rw[qA];omega:¬(4:Int)<((mks.map V.str).length:Nat))];refine iteF ?_;refine⟨_,rfl,m,rfl,⟨_,SqL.of hm⟩,qaN (λi ys σ' H'=>Same H H'/\ys=((mks.take i).map qdc).map V.bl/\∃z,σ'=[z]) zl ⟨Same.refl H,rfl,none,rfl⟩ ?_ ?_ ?_⟩
  ·rintro i ys σ' H' hi ⟨s1,rfl,_⟩;exact⟨SqL.of (s1 _ _ hm),by simp;omega⟩
  ·rintro i x ys σ' H' hx ⟨s1,rfl,z,rfl⟩;rw[qP]at hx;cases e:mks[i]? with
   | none=>rw[e]at hx;cases hx
   | some nm =>
     rw[e]at hx
     cases hx
     have hn:=mk.1 nm (qK e)
     refine⟨_,rfl,nm,rfl,hn.1,hn.2,λH2 s2=>⟨s1.trans s2,?_,_,rfl⟩⟩
     rw[rO,e,rR,qM,qM]
     rfl
  ·rintro ys σ' H' ⟨s1,rfl,_⟩ D hD;rw[qA,rJ]at *;have s2:=s1.trans (qac hD (.lst ((mks.map qdc).map V.bl)));refine⟨D,_,rfl,SqL.of upd_same,_,rfl,?_⟩
   by_cases al:(mks.map qdc).all id=true
   rotate_left
   ·rw[uD.mpr al];refine iteF (q false _ s2 ⟨λz=>(by cases z),λz=>absurd ?_ al⟩);rw[xB];intro b hb;obtain⟨x,hx,rfl⟩:=qV.mp hb;exact qdk (z.2.1 x hx)
   rw[al];refine iteT ?_;have ok:∀x∈mks,Name x:=λx hx=>nameB_iff.mp (xB.mp al _ (qV.mpr ⟨x,hx,rfl⟩))
   refine⟨_,rfl,_,rfl,m,mks,rfl,SqL.of (s2 _ _ hm),by unfold scanBound;omega,λd hd=>?_⟩;have s3:=s2.trans (qac hd (setS w d (once mks)));have l6:=qhq mks;refine⟨d,once mks,rfl,upd_same,by omega,λD2 ss hD2 pm so=>?_⟩;have s4:=s3.trans (qac hD2 (.lst (ss.map V.str)));have ri:=qhN so (pm.symm.nodup (qfi mks));refine⟨_,_,.lst (s4 _ _ hm) (qg9 mks),.lst upd_same (qg9 ss),strs_ok ok,strs_ok (λx hx=>ok x ((qgy mks x).mp (pm.subset hx))),λe=>q true _ s4 ⟨λ_=>?_,λ_=>rfl⟩,λz=>q false _ s4 ⟨λz=>(by cases z),λz2=>absurd ?_ z⟩⟩
   ·injection e with e
    have e2:mks=ss:=qdN (λa b h=>by injection h) e;rw[<-e2]at ri;exact⟨l4,ok,ri⟩
   ·have nd:mks.Nodup:=z2.2.2.imp λh e=>by subst e;exact absurd h (List.lt_irrefl _)
    rw[once_self nd]at pm;rw[rise_eq pm ri z2.2.2]
theorem scFormFault:FnScope ["node"] ["node"] (qaf sFormFault):=⟨rfl,rfl,rfl,by ac_rfl,rfl,by ac_rfl,by ac_rfl⟩
theorem ok_form_fault{f a_KINDS:Addr}{fd:FuncData}(F:Fun K "form_fault" "form_fault" sFormFault f fd)(T:Bn mg)(U:Glob mg)(N:Nums mg)(g_KINDS:mg "KINDS" = some (.ref a_KINDS))(KP:KTup K a_KINDS kindsAll)(F_is_whole:Fx P w K mg base CX0 1 "is_whole" ["value", "low", "high"] spWhole)(F_is_name:Fx P w K mg base CX0 1 "is_name" ["value"] spNameB)(F_are_marks:Fx P w K mg base CX0 2 "are_marks" ["marks"] spMarksX)(F_is_stuff:Fx P w K mg base CX0 5 "is_stuff" ["kind", "stuff"] spStuffX):FnOk P w K mg base CX0 6 f fd ["node"] spFormX:=by
 refine F.ok scFormFault (λvs H Q E h=>?_) (λcdv A outer s H vs Q E hr h=>?_)
 ·obtain⟨a,d,N',rfl,_⟩:=h;rfl
 ·obtain⟨a,d,N',rfl,nad,raw,q⟩:=h;obtain⟨na,m,sf,ha,nm,hm,st⟩:=nad;obtain⟨_,g_ELDER⟩:=N.elder;obtain⟨_,g_KIND⟩:=N.kind;obtain⟨_,g_NAME⟩:=N.name;obtain⟨_,g_MARKS⟩:=N.marks;obtain⟨_,g_STUFF⟩:=N.stuff;obtain⟨_,g_MOST_NODES⟩:=U.nodes;have hr_is_whole:Room 1 _:=hr.mono (by decide);have hr_is_name:Room 1 _:=hr.mono (by decide);have hr_are_marks:Room 2 _:=hr.mono (by decide);have hr_is_stuff:=hr;refine⟨_,(qab (qaH (PW.pt (qdv (qbj (qaZ (qdn T.isinstance (by rfl) T.tuple (by rfl) b_tuple (pv 0)))) (qcr (qak op_ne (qal call_len_seq (by rfl) T.len b_len (qaa (pv 0) pa_nil)) qag (qap _))))) (qad (qai qah)) pss_nil)
   (qab (qaH (qbj (qaZ (qat F_is_whole hr_is_whole (by rfl) qay (qaa (qan ix_tup (pv 0) (qae (v:=.int 0) (by rfl) g_ELDER ⟨_,rfl⟩) (λ_ _=>rfl)) (qaa (qen un_neg qag) (qaa (qae (v:=.int 60) (by rfl) g_MOST_NODES ⟨_,rfl⟩) pa_nil)))))) (qad (qai qah)) pss_nil)
   (qab (qaH (qak op_notIn_seq (qan ix_tup (pv 0) (qae (v:=.int 1) (by rfl) g_KIND ⟨_,rfl⟩) (λ_ _=>rfl)) (qae (v:=.ref a_KINDS) (by rfl) g_KINDS rfl) (by with_unfolding_all rfl)) (qad (qai qah)) pss_nil)
   (qab (qaH (PW.pt (qcH (qak op_ne (qan ix_tup (pv 0) (qae (v:=.int 2) (by rfl) g_NAME ⟨_,rfl⟩) (λ_ _=>rfl)) qah (qap _)) (qbZ (qbj (qaZ (qat F_is_name hr_is_name (by rfl) qay (qaa (qan ix_tup (pv 0) (qae (v:=.int 2) (by rfl) g_NAME ⟨_,rfl⟩) (λ_ _=>rfl)) pa_nil))))))) (qad (qai qah)) pss_nil)
   (qab (qaH (qbj (qaZ (qat F_are_marks hr_are_marks (by rfl) qay (qaa (qan ix_tup (pv 0) (qae (v:=.int 3) (by rfl) g_MARKS ⟨_,rfl⟩) (λ_ _=>rfl)) pa_nil)))) (qad (qai qah)) pss_nil)
   (qab (qaH (qbj (qaZ (qat F_is_stuff hr_is_stuff (by rfl) qay (qaa (qan ix_tup (pv 0) (qae (v:=.int 1) (by rfl) g_KIND ⟨_,rfl⟩) (λ_ _=>rfl)) (qaa (qan ix_tup (pv 0) (qae (v:=.int 4) (by rfl) g_STUFF ⟨_,rfl⟩) (λ_ _=>rfl)) pa_nil))))) (qad (qai qah)) pss_nil)
   (qad (qai qah)))))))),?_⟩
  have no:∀(t:Str) (H':Hp),Same H H'->t.length<=200->t≠noName->¬qhb d->Q (.str t) H':=λt H' s l e n=>q t H' s l ⟨λz=>absurd z e,λz=>absurd z n⟩
  refine⟨_,rfl,_,_,_,_,rfl,.tup ha,⟨_,λu r=>r,k_tt⟩,_,rfl,iteF ?_⟩;refine⟨_,rfl,a,_,rfl,.inr (SqT.of ha),rfl,_,rfl,iteF ?_⟩;refine⟨_,rfl,a,_,_,_,rfl,rfl,SqT.of ha,rfl,_,rfl,d.e,-1,60,rfl,_,rfl,?_⟩
  by_cases e1:-1<=d.e/\d.e<=60
  rotate_left
  ·rw[qC e1];exact iteT (no _ H (Same.refl H) (by ac_rfl) (by ac_rfl) λz=>e1 ⟨z.1,z.2.1⟩)
  rw[qB e1];refine iteF ?_;refine⟨_,rfl,a,_,_,_,rfl,rfl,SqT.of ha,rfl,a_KINDS,_,rfl,.inr (KP H),rfl,qby _,_,rfl,?_⟩;rw[if_pos rfl,qbT]
  by_cases hk:d.k∈kindsAll
  rotate_left
  ·rw[qC hk];exact iteT (no _ H (Same.refl H) (by ac_rfl) (by ac_rfl) λz=>hk z.2.2.1)
  rw[qB hk];refine iteF ?_;dsimp only[tNext];refine qbs (λσ' H'=>σ'=[some (.ref a)]/\Same H H'/\(d.nm=noName\/Name d.nm)) (λN0 k=>?_) ?_
  ·refine⟨_,rfl,a,_,_,_,rfl,rfl,SqT.of ha,rfl,rfl,_,rfl,?_⟩;rw[show decide (V.str d.nm=V.str (Str.ofString ""))=decide (d.nm=noName)from nmt d.nm]
   by_cases hn:d.nm=noName
   ·rw[qB hn];exact iteF (iteF (k _ _ ⟨rfl,Same.refl H,.inl hn⟩))
   ·rw[qC hn];refine iteT ⟨_,rfl,a,_,_,_,rfl,rfl,SqT.of ha,rfl,d.nm,rfl,raw.nm.1,raw.nm.2,λH2 s2=>⟨_,rfl,?_⟩⟩
    by_cases hN:Name d.nm
    ·rw[qdk hN];exact iteF (k _ _ ⟨rfl,s2,.inr hN⟩)
    ·rw[uD.mpr λz=>hN (nameB_iff.mp z)];exact iteT (no _ _ s2 (by ac_rfl) (by ac_rfl) λz=>z.2.2.2.nm.elim hn hN)
  rintro σ1 H1 ⟨rfl,s1,hn⟩;refine⟨_,rfl,a,_,_,_,rfl,rfl,SqT.of (s1 _ _ ha),rfl,m,d.mks,rfl,s1 _ _ hm,raw.mks,λb H2 s2 ib=>⟨_,rfl,?_⟩⟩;have s12:=s1.trans s2;cases b with
  | false=>exact iteT (no _ _ s12 (by ac_rfl) (by ac_rfl) λz=>absurd (ib.mpr z.2.2.2.mks) (by decide))
  | true =>
    refine iteF ?_
    refine⟨_,rfl,a,_,_,_,rfl,rfl,SqT.of (s12 _ _ ha),rfl,_,rfl,a,_,_,_,rfl,rfl,SqT.of (s12 _ _ ha),rfl,d.k,sf,d.st,N',rfl,st.keep s12.keep λ_ n _=>n,raw.st,λc H3 s3 ic=>⟨_,rfl,?_⟩⟩
    cases c with
    | false=>exact iteT (no _ _ (s12.trans s3) (by ac_rfl) (by ac_rfl) λz=>absurd (ic.mpr z.2.2.2.st) (by decide))
    | true=>exact iteF (q _ _ (s12.trans s3) (by ac_rfl) ⟨λ_=>⟨e1.1,e1.2,hk,hn,ib.mp rfl,ic.mp rfl⟩,λ_=>rfl⟩)
theorem scRefuseFault:FnScope ["number", "fault"] ["number", "fault"] (qaf sRefuseFault):=⟨rfl,rfl,rfl,by ac_rfl,rfl,by ac_rfl,by ac_rfl⟩
theorem ok_refuse_fault{f C:Addr}{fd:FuncData}{bm:List Value}{B newId initId:String}(F:FunD K "refuse_fault" "refuse_fault" sRefuseFault f fd)(O_NoBook:PyProof.Rows.OwnCls "NoBook" C bm newId mg base)(FB:ExcBaseFacts B newId initId bm):FnOk P w K mg base (CX1 P w) 1 f fd ["number", "fault"] (qfP C):=by
 refine F.ok scRefuseFault (λvs H Q E h=>?_) (λcdv A outer s H vs Q E hr h=>?_)
 ·obtain⟨n,t,rfl,_⟩:=h;rfl
 ·obtain⟨n,t,rfl,nb,tl,q⟩:=h;refine⟨_,(qad (qaH (qak op_ne (pv 1) qah (qap _)) (qad (qd5 O_NoBook FB (show A.handled=none from hr.hd) (by rfl) (qaa (qdr (qbX qah (qbX (qhS (pv 0)) (qbX qah (qbX (qgr (pv 1)) pj_nil))))) pa_nil))) pss_nil)),?_⟩;refine⟨_,rfl,rfl,_,rfl,?_⟩;rw[nmt t];rcases q with⟨e,q⟩ | ⟨e,q⟩
  ·rw[qB e];exact iteF q
  ·rw[qC e];refine iteT ?_;refine⟨_,rfl,by ac_rfl,_,rfl,n,rfl,qX (show n.natAbs<1000 from nb) (by ac_rfl),λhl=>?_⟩;have sz:sizeLine=16777216:=by decide
   have l0:(Str.empty++Str.ofString "node ").length=5:=by ac_rfl
   have l2:(Str.ofString ": ").length=2:=by ac_rfl
   exact⟨_,rfl,by rw[qaz];omega,_,rfl,by rw[qaz,qaz];omega,_,rfl,t,rfl,by omega,_,rfl,by rw[qaz,qaz,qaz];omega,by rw[qaz,qaz,qaz];omega,by show 1<=sizeLine;decide,q⟩
theorem scCopiedNode:FnScope ["node"] ["node"] (qaf sCopiedNode):=⟨rfl,rfl,rfl,by ac_rfl,rfl,by ac_rfl,by ac_rfl⟩
theorem ok_copied_node{f:Addr}{fd:FuncData}(F:Fun K "copied_node" "copied_node" sCopiedNode f fd)(T:Bn mg)(N:Nums mg):FnOk P w K mg base CX0 1 f fd ["node"] spCopied:=by
 refine F.ok scCopiedNode (λvs H Q E h=>?_) (λcdv A outer s H vs Q E hr h=>?_)
 ·obtain⟨a,d,N',rfl,_⟩:=h;rfl
 ·obtain⟨a,d,N',rfl,⟨na,m,sf,ha,nm,hm,nsf,vs,hsf,its⟩,q⟩:=h;obtain⟨_,g_ELDER⟩:=N.elder;obtain⟨_,g_KIND⟩:=N.kind;obtain⟨_,g_NAME⟩:=N.name;obtain⟨_,g_MARKS⟩:=N.marks;obtain⟨_,g_STUFF⟩:=N.stuff;refine⟨_,(qad (qai (qbc (qaa (qan ix_tup (pv 0) (qae (v:=.int 0) (by rfl) g_ELDER ⟨_,rfl⟩) (λ_ _=>rfl)) (qaa (qan ix_tup (pv 0) (qae (v:=.int 1) (by rfl) g_KIND ⟨_,rfl⟩) (λ_ _=>rfl)) (qaa (qan ix_tup (pv 0) (qae (v:=.int 2) (by rfl) g_NAME ⟨_,rfl⟩) (λ_ _=>rfl)) (qaa (qbq call_list_of (by rfl) T.list b_list (qaa (qan ix_tup (pv 0) (qae (v:=.int 3) (by rfl) g_MARKS ⟨_,rfl⟩) (λ_ _=>rfl)) pa_nil)) (qaa (qbq call_list_of (by rfl) T.list b_list (qaa (qan ix_tup (pv 0) (qae (v:=.int 4) (by rfl) g_STUFF ⟨_,rfl⟩) (λ_ _=>rfl)) pa_nil)) pa_nil)))))))),?_⟩;refine⟨_,rfl,a,_,_,_,rfl,rfl,SqT.of ha,rfl,_,rfl,a,_,_,_,rfl,rfl,SqT.of ha,rfl,_,rfl,a,_,_,_,rfl,rfl,SqT.of ha,rfl,_,rfl,a,_,_,_,rfl,rfl,SqT.of ha,rfl,m,_,rfl,.inl (SqL.of hm),λl hl=>?_⟩;have s2:=qac hl (.lst (d.mks.map V.str));refine⟨_,rfl,a,_,_,_,rfl,rfl,SqT.of (s2 _ _ ha),rfl,sf,_,rfl,.inl (SqL.of (s2 _ _ hsf)),λl' hl'=>?_⟩;have s3:=qac hl' (.lst vs);refine⟨by show 5<=sizeLine;decide,λt ht=>?_⟩;have s4:=qac ht (.tup [.int d.e,.str d.k.s,.str d.nm,.ref l,.ref l']);exact q t _ ⟨(s2.trans s3).free ht,l,l',upd_same,hl,(s3.trans s4) _ _ upd_same,s2.free hl',vs,s4 _ _ upd_same,its.mono λv x y=>y.keep ((s2.trans s3).trans s4).keep λb n _=>n⟩ ((s2.trans s3).trans s4)
theorem scAreUnlike:FnScope ["texts"] ["texts"] (qaf sAreUnlike):=⟨rfl,rfl,rfl,by ac_rfl,rfl,by ac_rfl,by ac_rfl⟩
theorem ok_are_unlike{f:Addr}{fd:FuncData}(F:Fun K "are_unlike" "are_unlike" sAreUnlike f fd)(T:Bn mg):FnOk P w K mg base CX0 1 f fd ["texts"] spUnlikeX:=by
 refine F.ok scAreUnlike (λvs H Q E h=>?_) (λcdv A outer s H vs Q E hr h=>?_)
 ·obtain⟨l,ks,rfl,_⟩:=h;rfl
 ·obtain⟨l,ks,rfl,hl,le,q⟩:=h;refine⟨_,(qad (qai (qaW op_eq (qal call_lenSetS (by rfl) T.len b_len (qaa (qbq (qeo (by rfl)) (by rfl) T.set b_set (qaa (pv 0) pa_nil)) pa_nil)) (qal call_len_seq (by rfl) T.len b_len (qaa (pv 0) pa_nil)) (qap _)))),?_⟩;refine⟨_,rfl,l,ks,rfl,SqL.of hl,by unfold scanBound;omega,λd hd=>?_⟩;have s2:=qac hd (setS w d (once ks));refine⟨d,once ks,rfl,upd_same,_,rfl,l,_,rfl,.inl (SqL.of (s2 _ _ hl)),rfl,?_⟩;refine q _ _ s2 ?_;rw[qY,qA];exact⟨λz=>once_nodup (by have:=V.int.inj z;omega),λz=>by rw[once_self z]⟩
theorem up_eld{ds:List Nd}{a b m:Nat}(h:Up ds a b m):∀{l:Nat} {d:Nd},Lev ds a l->ds[a]?=some d->a=b\/(b:Int)∈eldR ds l d.e:=by
 induction h with
 | here=>intro l d _ _;exact .inl rfl
 | @step a b j m d' h1 h2 h3 ih =>
   intro l d lv ed
   rw[h1]at ed
   cases ed
   right
   rcases qcm lv h1 with⟨e,_⟩ | ⟨j',k,e,lj,rfl⟩
   · rw[h2]at e;omega
   · have:j=j':=by omega
     subst this
     obtain⟨dj,ej⟩:=lj.nd
     rw[h2,qdq ej]
     rcases ih lj ej with z | z
     · rw[z];exact qJ
     · exact qN _ z
theorem eld_up{ds:List Nd}{x:Int}:∀{l a:Nat} {d:Nd},Lev ds a l->ds[a]?=some d->x∈eldR ds l d.e->∃j m:Nat,x=(j:Int)/\j<a/\Up ds a j m:=by
 intro l
 induction l with
 | zero=>intro a d _ _ h;rw[eldR]at h;cases h
 | succ l ih =>
   intro a d lv ed h
   rcases qcm lv ed with⟨_,e⟩ | ⟨j,k,e,lj,e2⟩
   · cases e
   · have:k=l:=by omega
     subst this
     obtain⟨dj,ej⟩:=lj.nd
     rw[e,qdq ej]at h
     have ja:j<a:=by
       cases lv with
       | up e3 h1 h2 h3 =>
         rw[ed]at e3
         cases e3
         omega
     rcases qO.mp h with z | z
     · exact⟨j,1,z,ja,.step ed e .here⟩
     · obtain⟨i,m,e4,lt,u⟩:=ih lj ej z
       exact⟨i,m+1,e4,by omega,.step ed e u⟩
theorem inV_iff{x:Int}{l:List Int}:inV (.int x) (l.map V.int)=true↔x∈l:=by
 unfold inV;rw[wH];constructor
 ·rintro⟨v,hv,e⟩;obtain⟨y,hy,rfl⟩:=qV.mp hv;have e:(y == x)=true:=e;rw[<-eq_of_beq e];exact hy
 ·intro h;exact⟨.int x,yV h,by show(x == x)=true;simp⟩
theorem flat_int(l:List Int):(l.map V.int).all flatV=true:=by
 rw[xB];intro v hv;obtain⟨x,_,rfl⟩:=qV.mp hv;rfl
theorem scHangsRight:FnScope ["nodes", "number", "elder"] ["nodes", "number"] (qaf sHangsRight):=⟨rfl,rfl,rfl,by ac_rfl,rfl,by ac_rfl,by ac_rfl⟩
theorem ok_hangs_right{f:Addr}{fd:FuncData}(F:Fun K "hangs_right" "hangs_right" sHangsRight f fd)(U:Nums mg)(F_elders_of:Fx P w K mg base CX0 1 "elders_of" ["book", "node"] spElders):FnOk P w K mg base CX0 2 f fd ["nodes", "number"] spHangsX:=by
 refine F.ok scHangsRight (λvs H Q E h=>?_) (λcdv A outer s H vs Q E hr h=>?_)
 ·obtain⟨p,n,d,ds,N,rfl,_⟩:=h;rfl
 ·obtain⟨p,n,d,ds,N,rfl,⟨as,hp,nd⟩,ed,lw,q⟩:=h;obtain⟨_,g_ELDER⟩:=U.elder;have hr_elders_of:=hr;refine⟨_,(qab (qau (i:=2) scHangsRight.nd (by rfl) (by trivial) (qan ix_tup (qan ix_list (pv 0) (pv 1) (λ_ _=>rfl)) (qae (v:=.int 0) (by rfl) g_ELDER ⟨_,rfl⟩) (λ_ _=>rfl)))
   (qab (qaH (qak op_eq (pv 1) qag (qap _)) (qad (qai (qaW op_eq (pv 2) (qen un_neg qag) (qap _)))) pss_nil)
   (qad (qai (qhJ (qaW op_eq (pv 2) (qaM op_sub (pv 1) qag) (qap _)) (qda (qaW op_in_seq (pv 2) (qat F_elders_of hr_elders_of (by rfl) qay (qaa (pv 0) (qaa (qaM op_sub (pv 1) qag) pa_nil))) (by with_unfolding_all rfl)))))))),?_⟩
  obtain⟨a,ea,na⟩:=nd.get ed;obtain⟨m',s',ha,_⟩:=na.ex;refine⟨_,rfl,_,rfl,p,_,_,_,rfl,rfl,SqL.of hp,qbO ea,a,_,_,_,rfl,rfl,SqT.of ha,rfl,?_⟩;refine⟨_,rfl,rfl,_,rfl,?_⟩
  by_cases n0:n=0
  ·subst n0;rw[show decide (V.int ((0:Nat):Int)=V.int 0)=true from qB rfl];refine iteT ⟨_,rfl,_,rfl,rfl,?_⟩;refine q _ H (Same.refl H) ?_;rw[qY];exact⟨λz=>.inl ⟨rfl,V.int.inj z⟩,λz=>z.elim (λz=>xO V.int z.2) λz=>absurd z.1 (by decide)⟩
  rw[qC (λz=>by have:=V.int.inj z;omega:¬V.int (n:Int)=V.int 0)];have pos:0<n:=by omega
  have en:((n:Int)-1)=((n-1:Nat):Int):=by omega
  refine iteF ⟨_,rfl,_,rfl,_,_,rfl,rfl,rfl,_,rfl,?_⟩;obtain⟨u,u6,lu⟩:=lw pos
  by_cases e1:d.e=(n:Int)-1
  ·rw[qB (xO V.int e1)];exact iteT (q true H (Same.refl H) ⟨λ_=>.inr ⟨pos,n-1,0,by omega,by omega,.here⟩,λ_=>rfl⟩)
  rw[qC (λz=>e1 (V.int.inj z))];obtain⟨d1,ed1⟩:=lu.nd;refine iteF ⟨_,rfl,_,rfl,_,rfl,_,_,rfl,rfl,?_⟩;refine⟨p,n-1,u,d1,ds,N,by show[V.ref p,V.int ((n:Int)-1)]=_;rw[en],⟨as,hp,nd⟩,ed1,lu,by omega,λL H2 hL s2 hl=>?_⟩;refine⟨L,_,rfl,.inl (SqL.of hl),rfl,flat_int _,?_⟩;rw[if_neg qL];refine q _ H2 s2 (inV_iff.trans ⟨λz=>?_,λz=>?_⟩)
  ·obtain⟨j,m,e,lt,up⟩:=eld_up lu ed1 z;exact .inr ⟨pos,j,m,e,by omega,up⟩
  ·rcases z with⟨z,_⟩ | ⟨_,j,m,e,lt,up⟩
   ·exact absurd z n0
   ·rcases up_eld up lu ed1 with z | z
    ·exact absurd (by omega) e1
    ·rw[e];exact z
end
end K10
namespace Gen
open PySem L2 Bk
def Down(ds:List Nd):List Nat->Prop
 | []=>False
 | [a]=>∃d,ds[a]?=some d/\d.e=-1
 | b::a::r=>(∃d,ds[b]?=some d/\d.e=(a:Int)/\a<b)/\Down ds (a::r)
theorem Down.lev{ds:List Nd}:∀{r:List Nat} {b:Nat},Down ds (b::r)->Lev ds b r.length/\∃d,ds[b]?=some d/\eldR ds r.length d.e=r.map λ(n:Nat)=>(n:Int)
 | [], b, h => by
   obtain⟨d,e,he⟩:=h
   exact⟨.top e he,d,e,rfl⟩
 | a :: r, b, h => by
   obtain⟨⟨d,e,he,lt⟩,h⟩:=h
   obtain⟨l,d',e',q⟩:=Down.lev h
   refine⟨.up e he lt l,d,e,?_⟩
   rw[qT,he,qdq e',q]
   rfl
theorem Down.len{ds:List Nd}:∀{r:List Nat} {b:Nat},Down ds (b::r)->r.length<=b
 | [],b,h=>r8 _
 | a :: r, b, h => by
   obtain⟨⟨d,e,he,lt⟩,h⟩:=h
   have:=Down.len h
   rw[qT]
   omega
theorem Down.mem{ds:List Nd}:∀{r:List Nat},Down ds r->∀n∈r,∃d,ds[n]?=some d
 | [a], h, n, hn => by
   obtain⟨d,e,_⟩:=h
   have:n=a:=by simpa using hn
   exact⟨d,by rw[this];exact e⟩
 | b :: a :: r, h, n, hn => by
   obtain⟨⟨d,e,_⟩,h⟩:=h
   rcases qO.mp hn with rfl | hn
   · exact⟨d,e⟩
   · exact Down.mem h n hn
theorem Down.app{ds:List Nd}(more:List Nd):∀{r:List Nat},Down ds r->Down (ds++more) r
 | [a], h => by
   obtain⟨d,e,q⟩:=h
   exact⟨d,by rw[rV (qD.mp e).1];exact e,q⟩
 | b :: a :: r, h => by
   obtain⟨⟨d,e,q⟩,h⟩:=h
   exact⟨⟨d,by rw[rV (qD.mp e).1];exact e,q⟩,Down.app more h⟩
theorem Down.drop{ds:List Nd}:∀{r:List Nat} {n:Nat},Down ds r->n<r.length->Down ds (r.drop n)
 | r,0,h,_=>h
 | [a],n+1,h,l=>absurd l (by simp)
 | b::a::r,n+1,h,l=>Down.drop (r:=a::r) h.2 (by simpa using l)
def qdU(ds:List Nd):Nat->Nat->List Nat
 | 0,_=>[]
 | f + 1, b => match ds[b]? with
   | none=>[]
   | some d=>if d.e=-1 then[b]else b::qdU ds f d.e.toNat
theorem Down.is{ds:List Nd}:∀{r:List Nat} {b f:Nat},Down ds (b::r)->r.length<f->qdU ds f b=b::r
 | _,_,0,_,l=>absurd l (xM _)
 | [], b, f + 1, h, _ => by
   obtain⟨d,e,he⟩:=h
   rw[qdU,e]
   simp[he]
 | a :: r, b, f + 1, h, l => by
   obtain⟨⟨d,e,he,lt⟩,h⟩:=h
   rw[qdU,e]
   have n1:¬d.e=-1:=by omega
   simp only[n1,if_false]
   rw[he,rM,Down.is h (by simpa using l)]
def upL(ds:List Nd):List Nat:=qdU ds ds.length (ds.length-1)
def qbv(ds:List Nd):List Nat:=(upL ds).reverse
def qb0(ds:List Nd)(n:Nat):Kd:=match ds[n]? with | some d=>d.k | none=>.no
def qd0(ok:Nat->Bool):Nat->Nat
 | 0=>0
 | t+1=>if ok (t+1)then t+1 else qd0 ok t
def okLv(ds:List Nd)(k:Kd)(t:Nat):Bool:=decide (t<=(qbv ds).length) && mayHold (qb0 ds ((qbv ds).getD (t-1) 0)) k
def qa5(ds:List Nd)(k:Kd)(lv:Nat):Nat:=qd0 (okLv ds k) (min (max lv 1) 6)
def qbU(ds:List Nd)(lv:Nat):Nat:=(qbv ds).getD (lv-1) 0
def qaP(ds:List Nd)(nm:Str):Str:=if nm∈ds.map Nd.nm then noName else nm
def MarksOf(mks ms:List Str):Prop:=∃ss:List Str,ss.Perm (once mks)/\Rise ss/\ms=ss.take 4
theorem MarksOf.uniq{mks a b:List Str}(h:MarksOf mks a)(h':MarksOf mks b):a=b:=by
 obtain⟨s,p,r,rfl⟩:=h;obtain⟨s',p',r',rfl⟩:=h';rw[rise_eq (p.trans p'.symm) r r']
open Classical in
noncomputable def qaL(mks:List Str):List Str:=if h:∃ms,MarksOf mks ms then h.choose else[]
theorem qcP{mks ms:List Str}(h:MarksOf mks ms):qaL mks=ms:=by
 unfold qaL;rw[dif_pos ⟨ms,h⟩];exact(Exists.choose_spec (p:=λms=>MarksOf mks ms) ⟨ms,h⟩).uniq h
def qaq(k:Kd)(st:List Th):List Th:=(if k=.note then st.filter (λx=>!isNote x)else st.dropWhile isNote).take 60
def bareSt:List Th:=[.tri .word (.inl (T "?")) 0]
def qdh(k:Kd)(st:List Th):List Th:=if ofPieces k then(if qaq k st=[]then bareSt else qaq k st)else st
noncomputable def qa9(ds:List Nd)(e:Int)(d:Nd):Nd:=⟨e,d.k,qaP ds d.nm,qaL d.mks,qdh d.k d.st⟩
open Classical in
noncomputable def wd(p:Prop)(x:Str):List Str:=if p then[x]else[]
noncomputable def qaO(ds:List Nd)(d:Nd):List Str :=
 wd (qaP ds d.nm≠d.nm) (T "name")++wd (qaL d.mks≠d.mks) (T "marks")++wd (ofPieces d.k=true/\qaq d.k d.st≠d.st) (T "pieces")++wd (ofPieces d.k=true/\qaq d.k d.st=[]) (T "bare")
noncomputable def qa2(d:Nd)(lv:Nat):List Str:=wd ((lv:Int)≠d.e) (T "level")
noncomputable def qas(ds:List Nd)(d:Nd):List Nd×List Str :=
 if qa5 ds d.k d.e.toNat=0 then([],[T "place"])else([qa9 ds (qbU ds (qa5 ds d.k d.e.toNat)) d],qa2 d (qa5 ds d.k d.e.toNat)++qaO ds d)
noncomputable def qa3(d:Nd):List Nd×List Str :=
 if d.k=.body then([qa9 [] (-1) d],qa2 d 0++qaO [] d)else(bodyNd::(qas [bodyNd] d).1,T "body" :: (qas [bodyNd] d).2)
noncomputable def qaV(ds:List Nd)(x:Str):List Nd×List Str :=
 match qa8 x with
 | none=>([],[T "form"])
 | some d => if 60 <= ds.length then ([], [T "many"]) else if ds = [] then qa3 d
   else if d.k=.body then((qas ds {d with k:=.case}).1,T "body" :: (qas ds {d with k:=.case}).2)else qas ds d
noncomputable def rdTo(rows:List Str):Nat->List Nd×List (Int×Str)
 | 0=>([],[])
 | i + 1 => match rows[i]? with
   | none=>rdTo rows i
   | some x=>((rdTo rows i).1++(qaV (rdTo rows i).1 x).1,(rdTo rows i).2++(qaV (rdTo rows i).1 x).2.map λy=>((i:Int),y))
def kids(ds:List Nd)(n:Int):List Int:=qaI ds n ds.length
def qbI(ds:List Nd)(n:Nat)(d:Nd):Bool:=mayHold d.k .note && decide ((qaj d.st).length≠(kids ds n).length)
def qbh(m:Nat):Nat->List Th->List Th
 | _,[]=>[]
 | c,x::r=>if isNote x then(if c<m then qcJ c::qbh m (c+1) r else qbh m c r)else x::qbh m c r
def cntN(m:Nat):Nat->List Th->Nat
 | c,[]=>c
 | c,x::r=>if isNote x/\c<m then cntN m (c+1) r else cntN m c r
def addN(c:Nat):Nat->List Th
 | 0=>[]
 | j+1=>addN c j++[qcJ (c+j:Nat)]
def qaF(m:Nat)(st:List Th):List Th:=qbh m 0 st++addN (cntN m 0 st) (min (m-cntN m 0 st) (60-(qbh m 0 st).length))
def noted(ds:List Nd)(n:Nat)(d:Nd):Nd:=if mayHold d.k .note then {d with st:=qaF (kids ds n).length d.st}else d
def qbu(ds:List Nd)(n:Nat)(d:Nd):List Int:=if mayHold d.k .note then(kids ds n).drop (qaj (qaF (kids ds n).length d.st)).length else[]
def atTo{α β:Type}(ds:List α)(f:Nat->α->List β):Nat->List β
 | 0=>[]
 | i + 1 => match ds[i]? with
   | none=>atTo ds f i
   | some d=>atTo ds f i++f i d
def qb9(ds:List Nd):List Nd:=atTo ds (λi d=>[noted ds i d]) ds.length
def qav(ds:List Nd):List Int:=atTo ds (λi d=>qbu ds i d) ds.length
def qaQ(sp:List Int):Nat->Nat
 | 0=>0
 | i+1=>if(i:Int)∈sp then qaQ sp i else qaQ sp i+1
def qbr(sp:List Int)(j:Int):Int:=if j=-1 then -1 else(qaQ sp j.toNat:Int)
def qcL(ds:List Nd)(sp:List Int)(i:Nat):List Nd:=atTo ds (λi d=>if(i:Int)∈sp then[]else[{d with e:=qbr sp d.e}]) i
def qao(ds:List Nd):List Nd:=qcL (qb9 ds) (qav ds) (qb9 ds).length
def qbE(ds:List Nd)(n:Nat)(d:Nd):Kd:=match (kids ds d.e).filter (λj=>decide ((n:Int)<j))with
 | []=>.no
 | j::_=>qb0 ds j.toNat
def qar(ds:List Nd)(n:Nat)(d:Nd):Bool:=(decide (d.k=.aside) && decide (qbE ds n d≠.text)) || (decide (d.k∈[Kd.aside,.shelf,.grid]) && decide (kids ds n=[]))
def qaB(ds:List Nd):List Nd:=atTo ds (λi d=>[{d with k:=if qar ds i d then .case else d.k}]) ds.length
def begun(ds:List Nd):List Nd:=if ds=[]then[bodyNd]else ds
def bareText:Nd:=⟨0,.text,noName,[],bareSt⟩
def qcd(ds:List Nd):List Nd:=if kids (qaB (qao (begun ds))) 0=[]then qaB (qao (begun ds))++[bareText]else qaB (qao (begun ds))
noncomputable def qbm(ds:List Nd):List Str:=wd (ds=[]) (T "body")++atTo (begun ds) (λi d=>if qbI (begun ds) i d then[T "notes"]else[]) (begun ds).length
 ++ atTo (qao (begun ds)) (λi d=>if qar (qao (begun ds)) i d then[T "case"]else[]) (qao (begun ds)).length++wd (kids (qaB (qao (begun ds))) 0=[]) (T "bare")
noncomputable def qcM(rows:List Str):List Nd×List (Int×Str):=(qcd (rdTo rows rows.length).1,(rdTo rows rows.length).2++(qbm (rdTo rows rows.length).1).map λy=>((-1:Int),y))
structure PartsOk(d:Nd):Prop where
 k:d.k∈kindsAll
 e:0<=d.e/\d.e<=100000
 nm:d.nm=noName\/Name d.nm
 mks:(∀m∈d.mks,Name m)/\d.mks.length<=60
 pc:ofPieces d.k=true->(∀x∈d.st,PcOk x)/\d.st.length<=500
 st:ofPieces d.k=false->Stuff d.k d.st
structure NodesOk(ds:List Nd):Prop where
 form:∀d∈ds,Form d/\d.k∈kindsAll
 down:ds≠[]->Down ds (upL ds)/\(upL ds).head?=some (ds.length-1)
 le:ds.length<=60
 hung:∀n d,ds[n]?=some d->(n=0/\d.e=-1/\d.k=.body)\/(0<n/\∃(j:Nat) (c:Nd),d.e=(j:Int)/\j<n/\ds[j]?=some c/\mayHold c.k d.k=true)
end Gen
namespace L2
open PySem PySem.Spec PyProof.Rows
theorem lri_no_len:typeLookup (.type "list_reverseiterator") "__len__" = pure none:=by rw[y9,yE];kernel_rfl
theorem slot_lri_hint:Slot "list_reverseiterator" "__length_hint__" "list_reverseiterator.__length_hint__" :=
 .of (owner := "list_reverseiterator") (n := "__length_hint__") (by rw[y9,yE];kernel_rfl) (by ac_rfl) (by ac_rfl) (by ac_rfl)
  (by first | exact .inl (by ac_rfl) | exact .inr (by ac_rfl)) (by rw[vG];kernel_rfl)
section
variable{prog:Program}{w:World}{A:Around}{E:Value->Shared->Prop}{s:Shared}
theorem hint_rev{I l:Addr}{i:Int}{Q:Bool->Shared->Prop}(hit:s.heap.IsRevIter I l i)(h:Q false s):wpAny (model prog w) A (Builtin.List.listLengthHint (.ref I)) Q E s:=by
 unfold Builtin.List.listLengthHint;refine qF (vO hit.typeIs lri_no_len ?_);show wpAny _ _ (specialOf (Value.ref I) (Str.ofString "__length_hint__")>>=_) _ _ _;refine qF (vO hit.typeIs slot_lri_hint.lookup ?_);generalize hid:("list_reverseiterator.__length_hint__" : String)=id0
 wp_delta
 rw[show splitId id0=some ("list_reverseiterator", "__length_hint__")from by subst hid;ac_rfl];subst hid;refine qF (wI (T := "list_reverseiterator") (b:=true) hit.typeIs (by rw[vG];kernel_rfl) ?_);refine uA (λhab=>absurd hab (by decide)) (λ_=>?_);refine uA (λ_=>?_) (λhab=>absurd (by ac_rfl) hab);refine uA (λhab=>absurd hab (by ac_rfl)) (λ_=>?_);exact qQ h
theorem call_list_rev{Q:Value->Shared->Prop}{I l:Addr}{items:Array Value}(hh:A.handled=none)(hit:s.heap.IsRevIter I l ((items.size:Int) - 1))(hl:s.heap.IsList l items)(hne:l≠I)(hlen:items.size<=sizeLine)(hQ:∀ h' tk acc' c',(∀ b o,b≠I->s.heap.get? b=some o->h'.get? b=some o)->h'.get? s.heap.objs.size=some { cls:=.type "list",dict:=none,data:=.seq acc' c',slots:=#[] }->ItemsOf (λi v=>items[items.size - 1 - i]?=some v) acc' items.size->Q (.ref s.heap.objs.size) { s with heap:=h',toks:=tk }) :
  wpAny (model prog w) A (call (.type "list") [.ref I]) Q E s:=by
 have hIlt:I < s.heap.objs.size:=by obtain ⟨o,ho,_⟩:=hit; exact qU ho
 have hllt:l < s.heap.objs.size:=by obtain ⟨o,ho,_⟩:=hl; exact qU ho
 refine callType_codes (Q₁:=λobj s₁=>obj=.ref s.heap.objs.size/\s₁={ s with heap:=s.heap.push { cls:=.type "list",data:=.seq #[] } }) F.called_list (F.typeCall_list_1 _) F.entry_list_init
  (code_list_new _ ⟨rfl,rfl⟩) λobj s₁ h₁=>?_
 obtain ⟨rfl,rfl⟩:=h₁
 have hS:(s.heap.push { cls:=.type "list",data:=.seq #[] }).get? s.heap.objs.size=some { cls:=.type "list",data:=.seq #[] }:=rB _ rfl
 refine ⟨⟨_,hS,rfl⟩,F.args_list_init_2 _ _,?_⟩
 show wpAny _ _ (do let old <- Builtin.List.listItems (.ref s.heap.objs.size); Builtin.List.listUpdate (.ref s.heap.objs.size) (λ_=>#[]); letGo old.toList.reverse; Builtin.List.listExtendWith (.ref s.heap.objs.size) (.ref I) .none) _ _ _
 refine qF ?_
 unfold Builtin.List.listItems
 refine qF (wQ hS rfl (qQ ?_))
 show wpAny _ _ (updateSeq s.heap.objs.size (λ_=>#[]) >>= λ_=>letGo (#[]:Array Value).toList.reverse >>= λ_=>Builtin.List.listExtendWith (.ref s.heap.objs.size) (.ref I) .none) _ _ _
 refine qF (wP hS rfl ?_)
 have hS₂:=yO (Obj.mapSeq (λ_=>(#[]:Array Value))) hS rfl
 have oth:∀ b o,s.heap.get? b=some o->((s.heap.push { cls:=.type "list",data:=.seq #[] }).update s.heap.objs.size (Obj.mapSeq (λ_=>(#[]:Array Value)))).get? b=some o :=
  λb o e=>(uO _ _ (uG (qU e))).trans (qI _ e)
 refine qF (wpAny_letGo ?_)
 unfold Builtin.List.listExtendWith
 have hit2:Heap.IsRevIter ((s.heap.push { cls:=.type "list",data:=.seq #[] }).update s.heap.objs.size (Obj.mapSeq (λ_=>(#[]:Array Value)))) I l ((items.size:Int) - 1):=hit.at λo e=>oth _ _ e
 have hl2:Heap.IsList ((s.heap.push { cls:=.type "list",data:=.seq #[] }).update s.heap.objs.size (Obj.mapSeq (λ_=>(#[]:Array Value)))) l items:=hl.at λo e=>oth _ _ e
 refine qF (wpAny_typeOf (T := "list_reverseiterator") hit2.typeIs ?_)
 have hSI:s.heap.objs.size≠I:=uG hIlt
 have h1:Builtin.List.listSameRef (.ref s.heap.objs.size) (.ref I)=false:=by simp [Builtin.List.listSameRef,hSI]
 have h2:(Value.type "list_reverseiterator" == Value.type "list")=false:=by decide
 have h3:(Value.type "list_reverseiterator" == Value.type "tuple")=false:=by decide
 simp only [h1,h2,h3,Bool.or_false,Bool.false_eq_true,if_false]
 refine qF (wpAny_pyIter_revIter hit2 ?_)
 refine qF (yX (hint_rev hit2 ?_))
 refine uA (λhab=>absurd hab (by ac_rfl)) (λ_=>?_)
 have W:=(Walks.listRev (prog:=prog) (w:=w) (A:=A.in1.in1) hh I l hne items).toS
 refine qQ ⟨vC F.plain_extend_loop _,codeAny_extend_loopS W hlen s.heap.objs.size (λhm=>?_) .none items.size 0 _ #[] _ rfl (r8 _) ⟨r8 _,by simpa using hit2,hl2⟩ hS₂ (ItemsOf.nil _) λs' acc' c' hm hS' hacc=>?_⟩
 ·rcases qO.mp hm with e | hm
  ·exact hSI e
  ·exact uG hllt (List.mem_singleton.mp hm)
 ·rw [Moved.eq_with hm]
  refine ⟨rfl,hQ s'.heap s'.toks acc' c' (λb o hb e=>hm.heap b o (λhmem=>?_) (oth b o e)) hS' hacc⟩
  rcases qO.mp hmem with e' | hmem
  ·exact absurd (qU e) (by rw [e']; exact rX _)
  ·exact hb (List.mem_singleton.mp hmem)
end
theorem rev_vals{xs:List V}{its:List Value}(r:Vals xs its){acc:Array Value}(h:ItemsOf (λi v=>its.toArray[its.toArray.size-1-i]?=some v) acc its.toArray.size):Vals xs.reverse acc.toList:=by
 have e:acc.toList=its.reverse:=by
  obtain⟨h1,h2⟩:=h;refine yK λi=>?_
  by_cases hi:i<its.length
  ·have hi':i<acc.size:=by rw[h1];simpa using hi
   have:=h2 i _ (yN hi');rw[uT,yN hi'];rw[uU hi];simpa using this.symm
  ·rw[List.getElem?_eq_none_iff.mpr (by simp[h1];omega),List.getElem?_eq_none_iff.mpr (by simp;omega)]
 rw[e];clear h e
 induction r with
 | nil=>exact .nil
 | cons h t ih =>
   rw[List.reverse_cons,List.reverse_cons]
   exact ih.append (.cons h .nil)
def tListRev(K:W.Frag)(ta:TA):TE:=λσ H Q=>ta σ H λvs H1=>∃(a:Addr) (xs:List V),vs=[.ref a]/\SqL K H1 a xs/\∀l,H1 l=none->Q (.ref l) (upd H1 l (.lst xs.reverse))
theorem b_reversed:bootBuiltins "reversed" = some (.type "reversed"):=by ac_rfl
section
variable{X:Cx}{e:Expr}{ta:TA}{p p2 pos pos2:Pos}
theorem pe_listRev(hc:X.calm=true)(hg:Gl X "list")(hm:X.mg "list" = none)(hg2:Gl X "reversed")(hm2:X.mg "reversed" = none)(hv:bootBuiltins "list" = some (.type "list"))(ha:PA X [e] ta)(he:starEach [e] X.env=[(false,eval e X.env)]:=by rfl)(he2:starEach [.Call (.Name "reversed" p2) [e] [] pos2] X.env=[(false,eval (.Call (.Name "reversed" p2) [e] [] pos2) X.env)]:=by rfl) :
  PE X (.Call (.Name "list" p) [.Call (.Name "reversed" p2) [e] [] pos2] [] pos) (tListRev X.K ta):=by
 intro pins s σ H Q I h;refine y3 (qdR I hg hm hv ?_ (by decide) (by decide));refine xT ?_ he2 (by rfl);rw[he2];show wpAny _ _ (spliced ((false,eval (.Call (.Name "reversed" p2) [e] [] pos2) X.env)::backTo pos [])) _ _ s;refine Calls.spliced_cons ?_;refine y3 (qdR I hg2 hm2 b_reversed ?_ (by decide) (by decide));refine xT (thn (ha pos2 pins s σ H _ I h) λus s1 ⟨vs,H1,I1,r1,q1⟩=>?_) he (by rfl);obtain⟨a,xs,rfl,hp,q⟩:=q1;obtain⟨u,rfl,rx⟩:=qd2 r1;cases rx;obtain⟨its,rv,pl,hz⟩:=I1.list hp;have hh:=I1.ok.hd hc;have lp:a<s1.heap.objs.size:=by
  obtain⟨o,e,_⟩:=pl.isList;exact qU e
 refine call_reversed_list pl.isList ?_;refine Calls.spliced_nil ?_;refine call_list_rev (I:=s1.heap.objs.size) (l:=a) (items:=its.toArray) hh ⟨_,rB _ rfl,rfl,rfl⟩ (pl.isList.push _) (rP lp) (by rw[rK,<-rv.length];exact hz) λh' tk acc c kp e' it=>?_
 have kp':∀b o,s1.heap.get? b=some o->h'.get? b=some o:=λb o eo=>kp b o (rP (qU eo)) (qI _ eo)
 have hsz:(s1.heap.push (revObj a ((its.toArray.size:Int)-1))).objs.size=s1.heap.objs.size+1:=r9 ..;refine⟨.ref (s1.heap.push (revObj a ((its.toArray.size:Int)-1))).objs.size,upd H1 (s1.heap.push (revObj a ((its.toArray.size:Int)-1))).objs.size (.lst xs.reverse),I1.laid kp' (by rw[hsz];exact uE _) ?_,rfl,q _ (I1.hok.fresh (by rw[hsz];exact uE _))⟩;exact⟨by rw[vP];exact hz,acc.toList,c,rev_vals rv it,by simpa using e'⟩
end
end L2
namespace Gen
open PySem L2 Bk
structure BnZ(mg:Str->Option Value):Prop extends Bn mg where
 min:mg "min" = none
 max:mg "max" = none
 reversed:mg "reversed" = none
theorem b_min:bootBuiltins "min" = some (.builtin "min"):=by ac_rfl
theorem b_max:bootBuiltins "max" = some (.builtin "max"):=by ac_rfl
def Up0(N:Addr->Prop)(H:Hp):Prop:=∀b,H b=none->N b
theorem Up0.same{N:Addr->Prop}{H H':Hp}(u:Up0 N H)(s:Same H H'):Up0 N H':=λb h=>u b (s.none h)
def qgc(N:Addr->Prop)(H:Hp)(t:Addr)(r:List Nd×List Str):Prop:=∃l m,H t=some (.tup [.ref l,.ref m])/\N l/\BookAt N H l r.1/\N m/\H m=some (.lst (r.2.map V.str))
def spBareBody:Sp:=λvs H Q _=>vs=[]/\∀a H',Same H H'->NdAt (qbP H) H' a bodyNd->Q (.ref a) H'
def spBareStuff:Sp:=λvs H Q _=>vs=[]/\∀s H',Same H H'->StAt (qbP H) H' s bareSt->Q (.ref s) H'
def spOpen:Sp:=λvs H Q _=>∃(p:Addr) (ds:List Nd) (N:Addr->Prop),vs=[.ref p]/\BookAt N H p ds/\NodesOk ds/\ds≠[]/\∀l H',H l=none->Same H H'->H' l=some (.lst (((qbv ds).map λ(n:Nat)=>(n:Int)).map V.int))->Q (.ref l) H'
def spMendLv:Sp:=λvs H Q _=>∃(p:Addr) (ds:List Nd) (lv:Nat) (k:Kd) (N:Addr->Prop),vs=[.ref p,.int lv,.str k.s]/\BookAt N H p ds/\NodesOk ds/\ds≠[]/\lv<=100000/\∀H',Same H H'->Q (.int (qa5 ds k lv:Nat)) H'
def spMendName:Sp:=λvs H Q _=>∃(p:Addr) (ds:List Nd) (nm:Str) (N:Addr->Prop),vs=[.ref p,.str nm]/\BookAt N H p ds/\ds.length<=100/\∀H',Same H H'->Q (.str (qaP ds nm)) H'
def spMendMarks:Sp:=λvs H Q _=>∃(m:Addr) (mks:List Str),vs=[.ref m]/\H m=some (.lst (mks.map V.str))/\mks.length<=60/\∀l H',H l=none->Same H H'->H' l=some (.lst ((qaL mks).map V.str))->MarksOf mks (qaL mks)->Q (.ref l) H'
def spNotesBeg:Sp:=λvs H Q _=>∃(s:Addr) (st:List Th) (N:Addr->Prop),vs=[.ref s]/\StAt N H s st/\(∀x∈st,PcOk x)/\st.length<=500/\Q (.int ((st.takeWhile isNote).length:Nat)) H
def spMendPieces:Sp:=λvs H Q _=>∃(k:Kd) (s:Addr) (st:List Th) (N:Addr->Prop),vs=[.str k.s,.ref s]/\StAt N H s st/\Up0 N H/\(∀x∈st,PcOk x)/\st.length<=500/\∀s' H',H s'=none->Same H H'->StAt N H' s' (qaq k st)->Q (.ref s') H'
def spLacks:Sp:=λvs H Q _=>∃(p:Addr) (n:Nat) (d:Nd) (ds:List Nd) (N:Addr->Prop),vs=[.ref p,.int n]/\BookAt N H p ds/\ds.length<=60/\ds[n]?=some d/\Form d/\d.k∈kindsAll/\∀H',Same H H'->Q (.bl (qbI ds n d)) H'
theorem Paired.dropP{α β:Type}{F:α->β->Prop}:∀{a:List α} {b:List β} (n:Nat),Paired F a b->Paired F (a.drop n) (b.drop n)
 | _,_,0,h=>h
 | _,_,_+1,.nil=>.nil
 | _,_,n+1,.cons _ t=>Paired.dropP n t
theorem Paired.takeP{α β:Type}{F:α->β->Prop}:∀{a:List α} {b:List β} (n:Nat),Paired F a b->Paired F (a.take n) (b.take n)
 | _,_,0,_=>.nil
 | _,_,_+1,.nil=>.nil
 | _,_,n+1,.cons q t=>.cons q (Paired.takeP n t)
theorem qdo(p:Th->Bool):∀l:List Th,l.drop (l.takeWhile p).length=l.dropWhile p
 | []=>rfl
 | x :: r => by
   rw[vR,wR]
   cases p x with
   | true=>simpa using qdo p r
   | false=>rfl
theorem qdH{ok:Nat->Bool}{t:Nat}(h:ok (t+1)=true):qd0 ok (t+1)=t+1:=by rw[qd0,if_pos h]
theorem qfu{ok:Nat->Bool}{t:Nat}(h:ok (t+1)=false):qd0 ok (t+1)=qd0 ok t:=by rw[qd0,if_neg (by rw[h];decide)]
theorem qhn{x:Th}(h:PcOk x):∃s y n,x=.tri s y n/\isNote x=decide (s=.note):=by
 cases x with
 | int n=>cases h
 | tri s y n=>exact⟨s,y,n,rfl,by cases s<;>rfl⟩
theorem qcw{k:Kd}(h:mayHold k .note=true):k=.text\/k=.head:=by cases k<;>first | exact .inl rfl | exact .inr rfl | cases h
theorem qfo{d:Nd}(h:Form d)(k:ofPieces d.k=true):(∀x∈d.st,PcOk x)/\d.st.length<=60:=by
 have:=h.st;obtain⟨e,k',nm,mks,st⟩:=d;cases k'<;>first | exact⟨this.1,this.2.2⟩ | cases k
end Gen
namespace K10
open PySem L2 Bk Gen
abbrev sBareBody:Stmt:=top 52
abbrev sBareStuff:Stmt:=top 53
abbrev sOpen:Stmt:=top 55
abbrev sMendLevel:Stmt:=top 54
abbrev sMendName:Stmt:=top 56
abbrev sMendMarks:Stmt:=top 57
abbrev sNotesBeg:Stmt:=top 59
abbrev sMendPieces:Stmt:=top 58
abbrev sLacks:Stmt:=top 60
section
variable{P:Program}{w:World}{K:W.Frag}{mg:Str->Option Value}{base:Heap}
theorem scBareBody:FnScope [] [] (qaf sBareBody):=⟨rfl,rfl,rfl,by ac_rfl,rfl,by ac_rfl,by ac_rfl⟩
theorem ok_bare_body{f:Addr}{fd:FuncData}(F:Fun K "bare_body" "bare_body" sBareBody f fd):FnOk P w K mg base CX0 1 f fd [] spBareBody:=by
 refine F.ok scBareBody (λvs H Q E h=>?_) (λcdv A outer s H vs Q E hr h=>?_)
 ·obtain⟨rfl,_⟩:=h;rfl
 ·obtain⟨rfl,q⟩:=h;refine⟨_,(qad (qai (qbc (qaa (qen un_neg qag) (qaa qah (qaa qah (qaa (qaR pa_nil) (qaa (qaR pa_nil) pa_nil)))))))),?_⟩;refine⟨_,rfl,by show 0<=sizeLine;decide,λm hm=>⟨by show 0<=sizeLine;decide,λs hs=>⟨by show 5<=sizeLine;decide,λa ha=>?_⟩⟩⟩;have s1:=qac hm (.lst []);have s2:=s1.trans (qac hs (.lst []));refine q a _ (s2.trans (qac ha _)) ⟨s2.none ha,m,s,upd_same,hm,?_,s1.none hs,[],?_,.nil⟩
  ·exact(qac hs _).trans (qac ha _) _ _ upd_same
  ·exact qac ha _ _ _ upd_same
theorem scBareStuff:FnScope [] [] (qaf sBareStuff):=⟨rfl,rfl,rfl,by ac_rfl,rfl,by ac_rfl,by ac_rfl⟩
theorem ok_bare_stuff{f:Addr}{fd:FuncData}(F:Fun K "bare_stuff" "bare_stuff" sBareStuff f fd):FnOk P w K mg base CX0 1 f fd [] spBareStuff:=by
 refine F.ok scBareStuff (λvs H Q E h=>?_) (λcdv A outer s H vs Q E hr h=>?_)
 ·obtain⟨rfl,_⟩:=h;rfl
 ·obtain⟨rfl,q⟩:=h;refine⟨_,(qad (qai (qaR (qaa (qbc (qaa qah (qaa qah (qaa qag pa_nil)))) pa_nil)))),?_⟩;refine⟨by show 3<=sizeLine;decide,λt ht=>⟨by show 1<=sizeLine;decide,λs hs=>?_⟩⟩;have s1:=qac ht (.tup [.str So.word.s,.str (Str.ofString "?"),.int 0]);exact q s _ (s1.trans (qac hs _)) ⟨s1.none hs,_,upd_same,.cons ⟨t,rfl,ht,qac hs _ _ _ upd_same⟩ .nil⟩
theorem scOpen:FnScope ["nodes", "last"] ["nodes"] (qaf sOpen):=⟨rfl,rfl,rfl,by ac_rfl,rfl,by ac_rfl,by ac_rfl⟩
theorem ok_open_nodes{f:Addr}{fd:FuncData}(F:Fun K "open_nodes" "open_nodes" sOpen f fd)(T:BnZ mg)(F_elders_of:Fx P w K mg base CX0 1 "elders_of" ["book", "node"] spElders):FnOk P w K mg base CX0 2 f fd ["nodes"] spOpen:=by
 refine F.ok scOpen (λvs H Q E h=>?_) (λcdv A outer s H vs Q E hr h=>?_)
 ·obtain⟨p,ds,N,rfl,_⟩:=h;rfl
 ·obtain⟨p,ds,N,rfl,B,ok,ne,q⟩:=h;have hr_elders_of:=hr;obtain⟨as,hp,nd⟩:=B;have la:as.length=ds.length:=nd.length;obtain⟨dn,hd⟩:=ok.down ne;have le:=ok.le;have g1:1<=ds.length:=by
   cases ds with
   | nil=>exact absurd rfl ne
   | cons=>simp
  refine⟨_,(qab (qau (i:=1) scOpen.nd (by rfl) (by trivial) (qaM op_sub (qal call_len_seq (by rfl) T.len b_len (qaa (pv 0) pa_nil)) qag))
   (qad (qai (pe_listRev (by rfl) (by rfl) T.list (by rfl) T.reversed b_list (qaa (qaM op_cat (qaR (qaa (pv 1) pa_nil)) (qat F_elders_of hr_elders_of (by rfl) qay (qaa (pv 0) (qaa (pv 1) pa_nil)))) pa_nil))))),?_⟩
  refine⟨_,rfl,p,_,rfl,.inl (SqL.of hp),_,_,rfl,rfl,?_⟩;dsimp only[qcq];rw[qA,la,show((ds.length:Nat):Int)-1=((ds.length-1:Nat):Int) by omega];refine⟨_,rfl,by show 1<=sizeLine;decide,λo ho=>?_⟩;have s1:=qac ho (.lst [.int (ds.length-1:Nat)]);cases eu:upL ds with
  | nil=>rw[eu]at hd;cases hd
  | cons b r =>
  rw[eu]at dn hd;have eb:b=ds.length-1:=by simpa using hd
  subst eb;obtain⟨lv,d,ed,el⟩:=dn.lev;have ll:=dn.len;refine⟨_,rfl,_,rfl,p,ds.length-1,r.length,d,ds,N,rfl,⟨as,s1 _ _ hp,nd.keep s1.keep λ_ n _=>n⟩,ed,lv,by omega,λL H2 hL s2 h2=>?_⟩;refine⟨o,L,_,_,rfl,rfl,s2 _ _ upd_same,h2,?_,λz hz=>?_⟩
  ·rw[qA,qdE];exact qR (show 1+r.length<=1000 by omega) (by decide)
  refine⟨z,_,rfl,SqL.of upd_same,λl hl=>?_⟩;have s3:=((s1.trans s2).trans (qac hz (.lst (V.int (ds.length-1:Nat)::(eldR ds r.length d.e).map V.int))));refine q l _ (s3.none hl) (s3.trans (qac hl _)) ?_;rw[upd_same];unfold qbv;rw[eu,el];simp
theorem scMendLevel:FnScope ["nodes", "level", "kind", "above", "tried"] ["nodes", "level", "kind"] (qaf sMendLevel):=⟨rfl,rfl,rfl,by ac_rfl,rfl,by ac_rfl,by ac_rfl⟩
theorem ok_mended_level{f:Addr}{fd:FuncData}(F:Fun K "mended_level" "mended_level" sMendLevel f fd)(T:BnZ mg)(U:Glob mg)(NU:Nums mg)(F_open_nodes:Fx P w K mg base CX0 2 "open_nodes" ["nodes"] spOpen)(F_may_hold:Fx P w K mg base CX0 1 "may_hold" ["elder_kind", "kind"] spMayX):FnOk P w K mg base CX0 3 f fd ["nodes", "level", "kind"] spMendLv:=by
 refine F.ok scMendLevel (λvs H Q E h=>?_) (λcdv A outer s H vs Q E hr h=>?_)
 ·obtain⟨p,ds,lv,k,N,rfl,_⟩:=h;rfl
 ·obtain⟨p,ds,lv,k,N,rfl,B,ok,ne,ll,q⟩:=h;obtain⟨_,g_GREATEST_LEVEL⟩:=U.level;obtain⟨_,g_KIND⟩:=NU.kind;have hr_open_nodes:=hr;have hr_may_hold:Room 1 _:=hr.mono (by decide);obtain⟨dn,hd⟩:=ok.down ne;refine⟨_,(qab (qau (i:=3) scMendLevel.nd (by rfl) (by trivial) (qat F_open_nodes hr_open_nodes (by rfl) qay (qaa (pv 0) pa_nil)))
   (qab (qcl xE (by rfl) (pi_rangeD (by rfl) T.range (qaa (qal (call_min2 (by rfl)) (by rfl) T.min b_min (qaa (qal (call_max2 (by rfl)) (by rfl) T.max b_max (qaa (pv 1) (qaa qag pa_nil))) (qaa (qae (v:=.int 6) (by rfl) g_GREATEST_LEVEL ⟨_,rfl⟩) pa_nil))) (qaa qag (qaa (qen un_neg qag) pa_nil)))) (qaw (i:=4) scMendLevel.nd (by rfl) (by trivial))
   (qad (qaH (PW.pt (qcH (qak op_le (pv 4) (qal call_len_seq (by rfl) T.len b_len (qaa (pv 3) pa_nil)) (qap _)) (qbZ (qaZ (qat F_may_hold hr_may_hold (by rfl) qay (qaa (qan ix_tup (qan ix_list (pv 0) (qan ix_list (pv 3) (qaM op_sub (pv 4) qag) (λ_ _=>rfl)) (λ_ _=>rfl)) (qae (v:=.int 1) (by rfl) g_KIND ⟨_,rfl⟩) (λ_ _=>rfl)) (qaa (pv 2) pa_nil))))))) (qad (qai (pv 4))) pss_nil)))
   (qad (qai qag)))),?_⟩
  refine⟨_,rfl,p,ds,N,rfl,B,ok,ne,λl H1 hl s1 h1=>?_⟩;obtain⟨as,hp,nd⟩:=B;refine⟨_,rfl,_,_,rfl,_,_,rfl,_,rfl,_,_,rfl,?_⟩;have en:∃n0:Nat,n0=min (max lv 1) 6/\(if(6:Int)<(if(1:Int)>(lv:Int)then(1:Int)else(lv:Int))then(6:Int)else(if(1:Int)>(lv:Int)then(1:Int)else(lv:Int)))=(n0:Int):=⟨_,rfl,by omega⟩;obtain⟨n0,e0,en⟩:=en;rw[en];refine⟨⟨by omega,by omega,by decide,by decide⟩,for_down (λi σ' H'=>Same H H'/\H' l=some (.lst (((qbv ds).map λ(n:Nat)=>(n:Int)).map V.int))/\(∃z,σ'=[some (.ref p),some (.int lv),some (.str k.s),some (.ref l),z])/\qa5 ds k lv=qd0 (okLv ds k) (n0-i)) ⟨s1,h1,⟨none,rfl⟩,by unfold qa5;rw[<-e0];rfl⟩ ?_ ?_⟩
  ·rintro i σ' H' hi ⟨s2,h2,⟨z,rfl⟩,em⟩;obtain⟨t,et⟩:∃t,n0-i=t+1:=⟨n0-i-1,by omega⟩;rw[show(n0:Int)-(i:Nat)=((t+1:Nat):Int) by omega];rw[et]at em;have et':n0-(i+1)=t:=by omega
   refine⟨_,rfl,_,rfl,l,_,rfl,.inl (SqL.of h2),_,_,rfl,rfl,_,rfl,?_⟩;rw[qA,qA]
   by_cases hl2:t+1<=(qbv ds).length
   rotate_left
   ·rw[qC (by omega:¬((t+1:Nat):Int)<=((qbv ds).length:Nat))];refine iteF (iteF ⟨s2,h2,⟨_,rfl⟩,?_⟩);rw[em,et',qfu];unfold okLv;rw[qC hl2,uL]
   rw[qB (by omega:((t+1:Nat):Int)<=((qbv ds).length:Nat))];have hb:t<(qbv ds).length:=by omega
   have mb:(qbv ds)[t]∈upL ds:=List.mem_reverse.mp (yZ hb);obtain⟨c,ec⟩:=dn.mem _ mb;obtain⟨a,ea,na⟩:=nd.get ec;obtain⟨m',s',ha,_⟩:=na.ex;have hk:=(ok.form c (qK ec)).2;have ek:okLv ds k (t+1)=mayHold c.k k:=by
    unfold okLv;rw[qB hl2,xP,Nat.add_sub_cancel,xW,qE hb,Option.getD_some];unfold qb0;rw[ec]
   refine iteT ⟨_,rfl,_,rfl,_,rfl,_,_,rfl,rfl,l,_,_,_,rfl,rfl,SqL.of h2,(by
    rw[show((t+1:Nat):Int)-1=((t:Nat):Int) by omega];exact qbV (v:=V.int ((qbv ds)[t]:Nat)) (by rw[qP,qP,qE hb];rfl)),p,_,_,_,rfl,rfl,SqL.of (s2 _ _ hp),qbO ea,a,_,_,_,rfl,rfl,SqT.of (s2 _ _ ha),rfl,_,rfl,c.k,k,rfl,hk,_,rfl,?_⟩
   cases eb:mayHold c.k k with
   | false =>
     refine iteF ⟨s2,h2,⟨_,rfl⟩,?_⟩
     rw[em,et',qfu (by rw[ek,eb])]
   | true =>
     refine iteT ⟨_,rfl,?_⟩
     have:=q H' s2
     rw[em,qdH (by rw[ek,eb])]at this
     exact this
  ·rintro σ' H' ⟨s2,h2,⟨z,rfl⟩,em⟩;rw[show n0-((n0:Int)-0).toNat=0 by omega]at em;have:=q H' s2;rw[em]at this;exact this
theorem scMendName:FnScope ["nodes", "name"] ["nodes", "name"] (qaf sMendName):=⟨rfl,rfl,rfl,by ac_rfl,rfl,by ac_rfl,by ac_rfl⟩
theorem ok_mended_name{f:Addr}{fd:FuncData}(F:Fun K "mended_name" "mended_name" sMendName f fd)(NU:Nums mg):FnOk P w K mg base CX0 1 f fd ["nodes", "name"] spMendName:=by
 refine F.ok scMendName (λvs H Q E h=>?_) (λcdv A outer s H vs Q E hr h=>?_)
 ·obtain⟨p,ds,nm,N,rfl,_⟩:=h;rfl
 ·obtain⟨p,ds,nm,N,rfl,⟨as,hp,nd⟩,le,q⟩:=h;obtain⟨_,g_NAME⟩:=NU.name;have la:as.length=ds.length:=nd.length;have zl:(as.map V.ref).length<sizeLine:=by rw[qA];exact qaG (by omega)
  refine⟨_,(qad (qai (qch (qak op_in_seq (pv 1) (qba (own:=["node"]) (by rfl) (CompScope.plain (by rfl) (by ac_rfl) (by ac_rfl) (by ac_rfl)) (qbb (pv 0)) (λcl C s2 H2 fp=>(qaw (i:=0) (by show(["node"]:List Str).Nodup;ac_rfl) (by rfl) (by trivial) (by trivial))) (λcl C s2 H2 fp=>qbn) (λcl C s2 H2 fp=>(qan (r:=rIxT K) ix_tup (pv 0) (qae (v:=.int 2) (by rfl) g_NAME ⟨_,rfl⟩) (λ_ _=>rfl)))) (by with_unfolding_all rfl)) qah (pv 1)))),?_⟩;refine⟨_,rfl,_,rfl,p,rfl,⟨_,SqL.of hp⟩,qaN (λi ys σ' H'=>H'=H/\ys=((ds.take i).map Nd.nm).map V.str/\∃z,σ'=[z]) zl ⟨rfl,rfl,none,rfl⟩ ?_ ?_ ?_⟩
  ·rintro i ys σ' H' hi ⟨rfl,rfl,_⟩;exact⟨SqL.of hp,by simp;omega⟩
  ·rintro i x ys σ' H' hx ⟨rfl,rfl,z,rfl⟩;obtain⟨a,ea,rfl⟩:=qdu hx;obtain⟨d,ed,na⟩:=nd.at ea;obtain⟨m',s',ha,_⟩:=na.ex;refine⟨_,rfl,a,_,_,_,rfl,rfl,SqT.of ha,rfl,rfl,?_,_,rfl⟩;rw[rO,ed,rR,qM,qM];rfl
  ·rintro ys σ' H' ⟨rfl,rfl,_⟩ D hD;rw[qA,la,rJ];refine⟨D,_,rfl,.inl (SqL.of upd_same),rfl,qeE _,_,rfl,?_⟩;rw[if_neg qL,qfj];have q2:=q _ (qac hD (.lst ((ds.map Nd.nm).map V.str)));unfold qaP at q2
   by_cases hm:nm∈ds.map Nd.nm
   ·rw[if_pos hm]at q2;rw[qB hm];exact iteT q2
   ·rw[if_neg hm]at q2;rw[qC hm];exact iteF ⟨_,rfl,q2⟩
theorem scMendMarks:FnScope ["marks"] ["marks"] (qaf sMendMarks):=⟨rfl,rfl,rfl,by ac_rfl,rfl,by ac_rfl,by ac_rfl⟩
theorem ok_mended_marks{f:Addr}{fd:FuncData}(F:Fun K "mended_marks" "mended_marks" sMendMarks f fd)(T:Bn mg)(U:Glob mg):FnOk P w K mg base CX0 1 f fd ["marks"] spMendMarks:=by
 refine F.ok scMendMarks (λvs H Q E h=>?_) (λcdv A outer s H vs Q E hr h=>?_)
 ·obtain⟨m,mks,rfl,_⟩:=h;rfl
 ·obtain⟨m,mks,rfl,hm,le,q⟩:=h;obtain⟨_,g_MOST_MARKS⟩:=U.marks;refine⟨_,(qad (qai (qaX sl_list (qal (qdW (by rfl) (by rfl)) (by rfl) T.sorted b_sorted (qaa (qbq (qeo (by rfl)) (by rfl) T.set b_set (qaa (pv 0) pa_nil)) pa_nil)) po_none (qaY (qae (v:=.int 4) (by rfl) g_MOST_MARKS ⟨_,rfl⟩))))),?_⟩;refine⟨_,rfl,m,mks,rfl,SqL.of hm,by unfold scanBound;omega,λd hd=>?_⟩;have s3:=qac hd (setS w d (once mks));have l6:=qhq mks;refine⟨d,once mks,rfl,upd_same,by omega,λD2 ss hD2 pm so=>?_⟩;have s4:=s3.trans (qac hD2 (.lst (ss.map V.str)));have ri:=qhN so (pm.symm.nodup (qfi mks));have mo:MarksOf mks (ss.take 4):=⟨ss,pm,ri,rfl⟩;have em:=qcP mo;refine⟨4,rfl,D2,_,rfl,SqL.of upd_same,λl hl=>?_⟩;rw[show cutV (ss.map V.str) none (some 4)=(qaL mks).map V.str by rw[em,show(4:Int)=((4:Nat):Int)from rfl,qix,List.map_take]];exact q l _ (s4.none hl) (s4.trans (qac hl _)) upd_same (by rw[em];exact mo)
theorem scNotesBeg:FnScope ["stuff", "count"] ["stuff"] (qaf sNotesBeg):=⟨rfl,rfl,rfl,by ac_rfl,rfl,by ac_rfl,by ac_rfl⟩
theorem ok_notes_at_beginning{f:Addr}{fd:FuncData}(F:Fun K "notes_at_beginning" "notes_at_beginning" sNotesBeg f fd)(T:Bn mg)(NU:Nums mg):FnOk P w K mg base CX0 1 f fd ["stuff"] spNotesBeg:=by
 refine F.ok scNotesBeg (λvs H Q E h=>?_) (λcdv A outer s H vs Q E hr h=>?_)
 ·obtain⟨sa,st,N,rfl,_⟩:=h;rfl
 ·obtain⟨sa,st,N,rfl,⟨_,vs,hs,its⟩,pc,le,q⟩:=h;obtain⟨_,g_SORT⟩:=NU.sort;have lv:vs.length=st.length:=its.length;refine⟨_,(qab (qau (i:=1) scNotesBeg.nd (by rfl) (by trivial) qag)
   (qab (qfq xE (PW.pt (qcH (qak op_lt (pv 1) (qal call_len_seq (by rfl) T.len b_len (qaa (pv 0) pa_nil)) (qap _)) (qbZ (qak op_eq (qan ix_tup (qan ix_list (pv 0) (pv 1) (λ_ _=>rfl)) (qae (v:=.int 0) (by rfl) g_SORT ⟨_,rfl⟩) (λ_ _=>rfl)) qah (qap _))))) (qad (qhV (i:=1) scNotesBeg.nd (by rfl) (by trivial) qag ip_add)))
   (qad (qai (pv 1))))),?_⟩
  refine⟨λm σ' H'=>∃i:Nat,σ'=[some (.ref sa),some (.int (i:Nat))]/\H'=H/\i<=st.length/\m=st.length-i/\(st.takeWhile isNote).length=i+((st.drop i).takeWhile isNote).length,⟨_,0,rfl,rfl,r8 _,rfl,by simp⟩,?_⟩;rintro m σ' H' ⟨i,rfl,rfl,hi,rfl,ei⟩;refine⟨_,rfl,_,rfl,sa,_,rfl,.inl (SqL.of hs),_,_,rfl,rfl,_,rfl,?_⟩;rw[lv]
  by_cases hl:i<st.length
  rotate_left
  ·rw[qC (by omega:¬((i:Nat):Int)<(st.length:Nat))];refine iteF (iteF ⟨_,rfl,?_⟩);rw[xA (by omega)]at ei;rw[ei]at q;exact q
  rw[qB (by omega:((i:Nat):Int)<(st.length:Nat))];have ev:vs[i]?=some vs[i]:=qE (by omega);obtain⟨th,et,it⟩:=qbH its ev;obtain⟨so,y,n,rfl,en⟩:=qhn (pc th (qK et));obtain⟨a,eva,_,ha⟩:=it;rw[eva]at ev;have ed:st.drop i=Th.tri so y n::st.drop (i+1):=by
   rw[qE hl]at et;rw[y7 hl,rD et]
  refine iteT ⟨_,rfl,_,rfl,sa,_,_,_,rfl,rfl,SqL.of hs,qbV ev,a,_,_,_,rfl,rfl,SqT.of ha,rfl,rfl,_,rfl,?_⟩;rw[show decide (V.str so.s=V.str (Str.ofString "note"))=decide (so=.note)from sot so .note,<-en];rw[ed,vR]at ei;cases eb:isNote (.tri so y n)with
  | false =>
    rw[eb]at ei
    refine iteF ⟨_,rfl,?_⟩
    rw[ei]at q
    exact q
  | true =>
    rw[eb,if_pos rfl,qT]at ei
    refine iteT ⟨λσ' H2=>∃i':Nat,i'=i+1/\σ'=[some (.ref sa),some (.int (i':Nat))]/\H2=H',?_,?_⟩
    · rintro σ' H'' ⟨i',rfl,rfl,rfl⟩
      exact⟨st.length-(i+1),by omega,i+1,rfl,rfl,by omega,rfl,by omega⟩
    · exact⟨_,rfl,_,_,rfl,rfl,i+1,rfl,rfl,rfl⟩
theorem scMendPieces:FnScope ["kind", "stuff", "kept"] ["kind", "stuff"] (qaf sMendPieces):=⟨rfl,rfl,rfl,by ac_rfl,rfl,by ac_rfl,by ac_rfl⟩
theorem ok_mended_pieces{f:Addr}{fd:FuncData}(F:Fun K "mended_pieces" "mended_pieces" sMendPieces f fd)(U:Glob mg)(NU:Nums mg)(F_notes_at_beginning:Fx P w K mg base CX0 1 "notes_at_beginning" ["stuff"] spNotesBeg):FnOk P w K mg base CX0 2 f fd ["kind", "stuff"] spMendPieces:=by
 refine F.ok scMendPieces (λvs H Q E h=>?_) (λcdv A outer s H vs Q E hr h=>?_)
 ·obtain⟨k,sa,st,N,rfl,_⟩:=h;rfl
 ·obtain⟨k,sa,st,N,rfl,⟨nsa,vs,hs,its⟩,up,pc,le,q⟩:=h;obtain⟨_,g_SORT⟩:=NU.sort;obtain⟨_,g_MOST_PIECES⟩:=U.pieces;have hr_notes_at_beginning:=hr;have lv:vs.length=st.length:=its.length;have zl:vs.length<sizeLine:=qaG (by omega);refine⟨_,(qab (qaH (qak op_eq (pv 0) qah (qap _)) (qad (qer (i:=2) (by rfl) scMendPieces.nd (by rfl) (by trivial) (own:=["piece"]) (CompScope.plain (by rfl) (by ac_rfl) (by ac_rfl) (by ac_rfl)) (qbb (pv 1)) (λcl C s2 H2 fp=>(qaw (i:=0) (by show(["piece"]:List Str).Nodup;ac_rfl) (by rfl) (by trivial) (by trivial))) (λcl C s2 H2 fp=>(qcN (qak op_ne (qan (r:=rIxT K) ix_tup (pv 0) (qae (v:=.int 0) (by rfl) g_SORT ⟨_,rfl⟩) (λ_ _=>rfl)) qah (qap _)))) (λcl C s2 H2 fp=>(pv 0)))) (qad (qau (i:=2) scMendPieces.nd (by rfl) (by trivial) (qaX sl_list (pv 1) (qaY (qat F_notes_at_beginning hr_notes_at_beginning (by rfl) qay (qaa (pv 1) pa_nil))) po_none))))
   (qad (qai (qaX sl_list (pv 2) po_none (qaY (qae (v:=.int 60) (by rfl) g_MOST_PIECES ⟨_,rfl⟩)))))),?_⟩
  refine qa0 (λσ' H'=>∃c,σ'=[some (.str k.s),some (.ref sa),some (.ref c)]/\Same H H'/\StAt N H' c (if k=.note then st.filter (λx=>!isNote x)else st.dropWhile isNote)) (λD' kk=>?_) ?_
  ·refine⟨_,rfl,rfl,_,rfl,?_⟩;rw[show decide (V.str k.s=V.str (Str.ofString "note"))=decide (k=.note)from kdt k .note]
   by_cases hk:k=.note
   ·rw[qB hk];refine iteT ⟨_,rfl,sa,rfl,⟨_,SqL.of hs⟩,qaN (λi ys σ' H'=>H'=H/\Paired (ItAt N H) ys ((st.take i).filter λx=>!isNote x)/\∃z,σ'=[z]) zl ⟨rfl,.nil,none,rfl⟩ ?_ ?_ ?_⟩
    ·rintro i ys σ' H' hi ⟨rfl,pa,_⟩;refine⟨SqL.of hs,?_⟩;rw[pa.length];exact qR (yC ..) (by rw[rN];omega)
    ·rintro i x ys σ' H' hx ⟨rfl,pa,z,rfl⟩;obtain⟨th,et,it⟩:=qbH its hx;have tk:st.take (i+1)=st.take i++[th]:=by rw[rO,et];rfl
     obtain⟨so,y,n,rfl,en⟩:=qhn (pc th (qK et));have it':=it;obtain⟨a,rfl,_,ha⟩:=it;refine⟨_,rfl,a,_,_,_,rfl,rfl,SqT.of ha,rfl,rfl,_,rfl,?_⟩;rw[show decide (V.str so.s=V.str (Str.ofString "note"))=decide (so=.note)from sot so .note,<-en];rw[tk,rT];cases eb:isNote (.tri so y n)with
     | true=>exact iteF ⟨rfl,by simpa[eb]using pa,_,rfl⟩
     | false =>
       refine iteT ⟨_,rfl,rfl,?_,_,rfl⟩
       rw[show([Th.tri so y n].filter λx=>!isNote x)=[Th.tri so y n] by simp[eb]]
       exact qbl pa (.cons it' .nil)
    ·rintro ys σ' H' ⟨rfl,pa,_⟩ D hD;rw[lv,rJ]at pa;refine kk _ _ ⟨D,rfl,qac hD _,up D hD,_,upd_same,?_⟩;rw[if_pos hk];exact pa.mono λv x h=>h.keep (qac hD _).keep λ_ n _=>n
   ·rw[qC hk];refine iteF ⟨_,rfl,_,rfl,sa,st,N,rfl,⟨nsa,vs,hs,its⟩,pc,le,_,rfl,sa,_,rfl,SqL.of hs,λc hc=>?_⟩;rw[qd8];refine kk _ _ ⟨c,rfl,qac hc _,up c hc,_,upd_same,?_⟩;rw[if_neg hk,<-qdo];exact(Gen.Paired.dropP _ its).mono λv x h=>h.keep (qac hc _).keep λ_ n _=>n
  rintro σ1 H1 ⟨c,rfl,s1,nc,ws,hc,pa⟩;refine⟨_,rfl,60,rfl,c,_,rfl,SqL.of hc,λz hz=>?_⟩;rw[show cutV ws none (some 60)=ws.take 60 from qix 60];refine q z _ (s1.none hz) (s1.trans (qac hz _)) ⟨up z (s1.none hz),_,upd_same,?_⟩;unfold qaq;exact(Gen.Paired.takeP 60 pa).mono λv x h=>h.keep (qac hz _).keep λ_ n _=>n
theorem scLacks:FnScope ["nodes", "number"] ["nodes", "number"] (qaf sLacks):=⟨rfl,rfl,rfl,by ac_rfl,rfl,by ac_rfl,by ac_rfl⟩
theorem ok_lacks_notes{f C:Addr}{fd:FuncData}(F:Fun K "lacks_notes" "lacks_notes" sLacks f fd)(T:Bn mg)(NU:Nums mg)(F_may_hold:Fx P w K mg base CX0 1 "may_hold" ["elder_kind", "kind"] spMayX)(F_note_numbers:Fx P w K mg base CX0 1 "note_numbers" ["stuff"] spNotesA)(F_holds:Fx P w K mg base (CX1 P w) 1 "holds" ["book", "node"] (qdb C)):FnOk P w K mg base CX0 2 f fd ["nodes", "number"] spLacks:=by
 refine F.ok scLacks (λvs H Q E h=>?_) (λcdv A outer s H vs Q E hr h=>?_)
 ·obtain⟨p,n,d,ds,N,rfl,_⟩:=h;rfl
 ·obtain⟨p,n,d,ds,N,rfl,⟨as,hp,nd⟩,le,ed,fm,hk,q⟩:=h;obtain⟨_,g_KIND⟩:=NU.kind;obtain⟨_,g_STUFF⟩:=NU.stuff;have hr_may_hold:=hr;have hr_note_numbers:=hr;have hr_holds:=hr;have ln:n<ds.length:=(qD.mp ed).1;obtain⟨a,ea,na⟩:=nd.get ed;obtain⟨m',s',ha,_,_,st'⟩:=na.ex;refine⟨_,(qab (qaH (qbj (qaZ (qat F_may_hold hr_may_hold (by rfl) qay (qaa (qan ix_tup (qan ix_list (pv 0) (pv 1) (λ_ _=>rfl)) (qae (v:=.int 1) (by rfl) g_KIND ⟨_,rfl⟩) (λ_ _=>rfl)) (qaa qah pa_nil))))) (qad (qai qdP)) pss_nil)
   (qad (qai (qaW op_ne (qal call_len_seq (by rfl) T.len b_len (qaa (qat F_note_numbers hr_note_numbers (by rfl) qay (qaa (qan ix_tup (qan ix_list (pv 0) (pv 1) (λ_ _=>rfl)) (qae (v:=.int 4) (by rfl) g_STUFF ⟨_,rfl⟩) (λ_ _=>rfl)) pa_nil)) pa_nil)) (qal call_len_seq (by rfl) T.len b_len (qaa (qat F_holds hr_holds (by rfl) qgj (qaa (pv 0) (qaa (pv 1) pa_nil))) pa_nil)) (qap _))))),?_⟩
  refine⟨_,rfl,_,rfl,p,_,_,_,rfl,rfl,SqL.of hp,qbO ea,a,_,_,_,rfl,rfl,SqT.of ha,rfl,d.k,.note,rfl,hk,_,rfl,?_⟩;cases eb:mayHold d.k .note with
  | false =>
    have:=q H (Same.refl H)
    unfold qbI at this
    rw[eb]at this
    exact iteT this
  | true =>
    have fp:=qfo fm (by rcases qcw eb with z | z<;>rw[z]<;>rfl)
    refine iteF ⟨_,rfl,_,rfl,p,_,_,_,rfl,rfl,SqL.of hp,qbO ea,a,_,_,_,rfl,rfl,SqT.of ha,rfl,s',d.st,N,rfl,st',fp.1,fp.2,λl H1 hl s1 h1=>?_⟩
    refine⟨l,_,rfl,.inl (SqL.of h1),_,rfl,_,rfl,p,n,ds,N,rfl,⟨as,s1 _ _ hp,nd.keep s1.keep λ_ n _=>n⟩,by omega,uF (show((n:Int)).natAbs<1000 by omega) (by ac_rfl),.inr ⟨⟨by omega,by omega⟩,λl2 H2 hl2 s2 h2=>?_⟩⟩
    refine⟨l2,_,rfl,.inl (SqL.of h2),rfl,?_⟩
    have:=q H2 (s1.trans s2)
    unfold qbI at this
    rw[eb,xP]at this
    rw[qA,qA]
    have e:(!decide (V.int ((qaj d.st).length:Nat)=V.int ((qaI ds n ds.length).length:Nat)))=decide ((qaj d.st).length≠(kids ds n).length):=by
      unfold kids
      by_cases h:(qaj d.st).length=(qaI ds n ds.length).length
      · rw[qB (by rw[h]:V.int ((qaj d.st).length:Nat)=V.int ((qaI ds n ds.length).length:Nat)),qC (λz=>z h)]
        rfl
      · rw[qC (λz=>h (by have:=V.int.inj z;omega):¬V.int ((qaj d.st).length:Nat)=V.int ((qaI ds n ds.length).length:Nat)),qB h]
        rfl
    rw[e]
    exact this
end
end K10
namespace L2
open PySem PySem.Spec PyProof.Rows
def tPairs:List (TE×TE)->St->Hp->(List (V×V)->Hp->Prop)->Prop
 | [],_,H,Q=>Q [] H
 | (tk,tv)::r,σ,H,Q=>tk σ H λx H1=>tv σ H1 λy H2=>tPairs r σ H2 λps H3=>Q ((x,y)::ps) H3
abbrev VV:List (V×V)->List (Value×Value)->Prop:=Paired λp q=>RelV p.1 q.1/\RelV p.2 q.2
def PPs(X:Cx)(pos:Pos)(keys:List (Option Expr))(values:List Expr)(trs:List (TE×TE)):Prop :=
 ∀(pins:List (Addr×Obj)) (s:Shared) (σ:St) (H:Hp) (Q:List (V×V)->Hp->Prop),Inv X pins σ H s->tPairs trs σ H Q ->
  wpAny (model X.prog X.w) X.A (evalPairs (pairTrees keys values X.env pos)) (λvs s'=>∃ps H',Inv X pins σ H' s'/\VV ps vs/\Q ps H') X.xe s
theorem pps_nil{X:Cx}{pos:Pos}:PPs X pos [] [] []:=λpins s σ H Q I h=>pairTrees_nil_walk ⟨[],H,I,.nil,h⟩
theorem pps_cons{X:Cx}{pos:Pos}{k v:Expr}{ks:List (Option Expr)}{vs:List Expr}{tk tv:TE}{trs:List (TE×TE)}(hk:PE X k tk)(hv:PE X v tv)(hr:PPs X pos ks vs trs) :
  PPs X pos (some k::ks) (v::vs) ((tk,tv)::trs):=λpins s σ H Q I h =>
 pairTrees_cons_walk (thn (hk pins s σ H _ I h) λu s1 ⟨x,H1,I1,rx,q1⟩=>thn (hv pins s1 σ H1 _ I1 q1) λw2 s2 ⟨y,H2,I2,ry,q2⟩ =>
  thn (hr pins s2 σ H2 _ I2 q2) λws s3 ⟨ps,H3,I3,rel,q3⟩=>⟨(x,y)::ps,H3,I3,.cons ⟨rx,ry⟩ rel,q3⟩)
def qc9(kvs more:List (Key×V)):List (Key×V):=more.foldl (λacc kv=>putK acc kv.1 kv.2) kvs
theorem KV.merge:∀{more:List (Key×V)} {rs:List (Key×Value)} {kvs:List (Key×V)} {vs:List (Key×Value)},KV more rs->KV kvs vs->KV (qc9 kvs more) (merged vs rs):=by
 intro more rs kvs vs r;unfold KV at r
 induction r generalizing kvs vs with
 | nil=>intro q;exact q
 | @cons p q ps qs h t ih =>
   intro r0
   have e:KV (putK kvs p.1 p.2) (stored vs q.1 q.2):=by
     have:=r0.put p.1 h.2
     rw[<-h.1];exact this
   exact ih e
theorem length_mergeK:∀(more kvs:List (Key×V)),(qc9 kvs more).length<=kvs.length+more.length
 | [],kvs=>by show kvs.length<=kvs.length+0;omega
 | p :: r, kvs => by
   have h1:=length_mergeK r (putK kvs p.1 p.2)
   have h2:=qcC kvs p.1 p.2
   show(qc9 (putK kvs p.1 p.2) r).length<=_
   rw[qT];omega
theorem qeZ{P:Program}{w:World}:∀{kvs:List (Key×V)} {ws:List (Value×Value)},VV (kvs.map λkv=>(kV kv.1,kv.2)) ws->∃rs,Carries (qbg P w) ws rs/\KV kvs rs
 | [],_,r=>by rw[wK]at r;cases r;exact⟨[],True.intro,.nil⟩
 | p :: kvs, _, r => by
   rw[rH]at r
   cases r with
   | @cons a b as bs h t =>
     obtain⟨rs,c,q⟩:=qeZ (P:=P) (w:=w) t
     obtain⟨b1,b2⟩:=b
     exact⟨(p.1,b2)::rs,⟨qig h.1,rfl,c⟩,.cons ⟨rfl,h.2⟩ q⟩
def tDisp(trs:List (TE×TE)):TE:=λσ H Q=>∀p,H p=none->tPairs trs σ (upd H p (.dK [])) λps H2=>H2 p=some (.dK [])/\∃kvs:List (Key×V),ps=kvs.map (λkv=>(kV kv.1,kv.2))/\kvs.length<=15/\Q (.ref p) (upd H2 p (.dK (qc9 [] kvs)))
theorem pe_disp{X:Cx}{pos:Pos}{keys:List (Option Expr)}{values:List Expr}{trs:List (TE×TE)}(h:PPs X pos keys values trs)(hall:keys.all (·.isSome)=true)(hl:keys.length=values.length)(h0:keys≠[])(h15:keys.length<=15):PE X (.Dict keys values pos) (tDisp trs):=by
 intro pins s σ H Q I q;have hn:=I.hok.fresh (qG s.heap.objs.size);have I1:=I.laid (a:=s.heap.objs.size) (o:=.dK []) (h':=s.heap.push {cls:=.type "dict",data:=.dict #[]}) (t':=s.toks) (λ_ _ q=>qI _ q) (qG _) (dk_empty s.heap I.big);refine wpAny_Dict_walk (knd:=qbg X.prog X.w) hall hl h0 h15 (thn (h pins _ σ _ _ I1 (q _ hn)) λws s2 ⟨ps,H2,I2,rel,e,kvs,ep,lk,q2⟩=>?_);subst ep;obtain⟨rs,c,rk⟩:=qeZ (P:=X.prog) (w:=X.w) rel;obtain⟨z,hd,vs0,r0,dd⟩:=qiY I2.hok e;cases r0;refine⟨rs,c,dd,λh' dd' hs=>⟨.ref s.heap.objs.size,_,?_,rfl,q2⟩⟩;have hz:(qc9 [] kvs).length<=sizeLine:=by
  have h1:=length_mergeK kvs [];rw[List.length_nil]at h1;rw[sizeLine_eq];omega
 have he:∃q,h'.get? s.heap.objs.size=some q:=let⟨q,_,_,hq,_⟩:=dd';⟨q,hq⟩;exact qgs I2 (by rw[e];exact True.intro) hs he (qiy hz hd (rk.merge .nil) dd')
end L2
namespace Gen
open PySem L2 Bk
theorem qcu(m:Nat)(x:Th):∀(l:List Th) (c:Nat),qbh m c (l++[x])=qbh m c l++(if isNote x then(if cntN m c l<m then[qcJ (cntN m c l:Nat)]else[])else[x])
 | [], c => by
   show qbh m c [x]=_
   rw[qbh,qbh,qbh,cntN,yL]
   split
   · split<;>rfl
   · rfl
 | y :: l, c => by
   rw[xN,qbh,qbh,cntN,qcu m x l,qcu m x l]
   by_cases hy:isNote y=true
   · by_cases hc:c<m
     · simp only[hy,hc,if_true,and_self,List.cons_append]
     · simp only[hy,hc,if_true,if_false,and_false]
   · simp only[hy,if_false,false_and,List.cons_append,Bool.false_eq_true]
theorem qcT(m:Nat)(x:Th):∀(l:List Th) (c:Nat),cntN m c (l++[x])=if isNote x/\cntN m c l<m then cntN m c l+1 else cntN m c l
 | [], c => by
   show cntN m c [x]=_
   rw[cntN,cntN,cntN,cntN]
 | y :: l, c => by
   rw[xN,cntN,cntN,qcT m x l,qcT m x l]
   split<;>rfl
theorem qeb(m:Nat):∀(l:List Th) (c:Nat),c<=m->cntN m c l<=m
 | [],c,h=>h
 | x :: l, c, h => by
   rw[cntN]
   split
   · rename_i z
     exact qeb m l _ z.2
   · exact qeb m l _ h
theorem qcx(m:Nat):∀(l:List Th) (c:Nat),(qbh m c l).length<=l.length
 | [],c=>qG _
 | x :: l, c => by
   rw[qbh]
   split
   · split
     · rw[qT,qT];exact u9 (qcx m l _)
     · exact wB (qcx m l _)
   · rw[qT,qT];exact u9 (qcx m l _)
theorem qe6(c:Nat):∀j,(addN c j).length=j
 | 0=>rfl
 | j+1=>by rw[addN,qH,qe6 c j];rfl
theorem qg5{m:Nat}{st:List Th}(h:st.length<=60):(qaF m st).length<=60:=by
 unfold qaF;rw[qH,qe6];have:=qcx m st 0;omega
theorem qhD{n:Nat}(h:n<=60):PcOk (qcJ n):=⟨by omega,by omega,rfl⟩
theorem qea{m:Nat}(hm:m<=60):∀(l:List Th) (c:Nat),(∀x∈l,PcOk x)->∀x∈qbh m c l,PcOk x
 | [],c,_,x,hx=>nomatch hx
 | y :: l, c, h, x, hx => by
   have h':∀x∈l,PcOk x:=λx hx=>h x (qN _ hx)
   rw[qbh]at hx
   split at hx
   · split at hx
     · rcases qO.mp hx with rfl | hx
       · exact qhD (by omega)
       · exact qea hm l _ h' x hx
     · exact qea hm l _ h' x hx
   · rcases qO.mp hx with rfl | hx
     · exact h x qJ
     · exact qea hm l _ h' x hx
theorem qgx{c:Nat}{x:Th}:∀{j:Nat},x∈addN c j->∃i,i<j/\x=qcJ (c+i:Nat)
 | 0,h=>nomatch h
 | j + 1, h => by
   rw[addN]at h
   rcases qW.mp h with h | h
   · obtain⟨i,hi,e⟩:=qgx h
     exact⟨i,by omega,e⟩
   · exact⟨j,by omega,by simpa using h⟩
theorem qhj{m:Nat}{st:List Th}(hm:m<=60)(h:∀x∈st,PcOk x):∀x∈qaF m st,PcOk x:=λx hx=>by
 unfold qaF at hx;rcases qW.mp hx with hx | hx
 ·exact qea hm st 0 h x hx
 ·obtain⟨i,hi,rfl⟩:=qgx hx;have:=qeb m st 0 (r8 _);exact qhD (by omega)
theorem qa7{α β:Type}{ds:List α}{f:Nat->α->List β}{i:Nat}{d:α}(h:ds[i]?=some d):atTo ds f (i+1)=atTo ds f i++f i d:=by rw[atTo,h]
theorem qci{α β:Type}{ds:List α}{f:Nat->α->β}:∀{i:Nat},i<=ds.length->(atTo ds (λi d=>[f i d]) i).length=i
 | 0,_=>rfl
 | i + 1, h => by
   rw[qa7 (qE (by omega)),qH,qci (by omega)]
   rfl
theorem qe2{α β:Type}{ds:List α}{f:Nat->α->β}:∀{i j:Nat},i<=ds.length->j<i->(atTo ds (λi d=>[f i d]) i)[j]?=ds[j]?.map (f j)
 | 0,j,_,h=>absurd h (xM _)
 | i + 1, j, hi, h => by
   rw[qa7 (qE (by omega))]
   by_cases e:j<i
   · rw[rV (by rw[qci (by omega)];exact e),qe2 (by omega) e]
   · have:j=i:=by omega
     subst this
     rw[rY (by rw[qci (by omega)];exact qG _),qci (by omega),Nat.sub_self,qE (l:=ds) (by omega)]
     rfl
theorem qcZ{α β:Type}{ds:List α}{f:Nat->α->List β}{y:β}:∀{i:Nat},y∈atTo ds f i->∃j d,j<i/\ds[j]?=some d/\y∈f j d
 | 0,h=>nomatch h
 | i + 1, h => by
   rw[atTo]at h
   cases e:ds[i]? with
   | none =>
     rw[e]at h
     obtain⟨j,d,hj,q⟩:=qcZ h
     exact⟨j,d,by omega,q⟩
   | some d =>
     rw[e]at h
     rcases qW.mp h with h | h
     · obtain⟨j,d,hj,q⟩:=qcZ h
       exact⟨j,d,by omega,q⟩
     · exact⟨i,d,by omega,e,h⟩
theorem qcj{α β:Type}{ds:List α}{f:Nat->α->List β}{B:Nat}(hf:∀i d,(f i d).length<=B):∀i,(atTo ds f i).length<=B*i
 | 0=>r8 _
 | i + 1 => by
   rw[atTo,Nat.mul_succ]
   have:=qcj (ds:=ds) hf i
   split
   · omega
   · rename_i d _
     have:=hf i d
     rw[qH]
     omega
theorem qds(ds:List Nd)(sp:List Int):∀{i:Nat},i<=ds.length->(qcL ds sp i).length=qaQ sp i
 | 0,_=>rfl
 | i + 1, h => by
   unfold qcL
   rw[qa7 (qE (by omega)),qH]
   have:=qds ds sp (i:=i) (by omega)
   unfold qcL at this
   rw[this,qaQ]
   split<;>rfl
theorem qfb(sp:List Int):∀i,qaQ sp i<=i
 | 0=>qG _
 | i + 1 => by
   have:=qfb sp i
   rw[qaQ]
   split<;>omega
def Nw(N:Addr->Prop)(L:Addr):Addr->Prop:=λb=>N b/\b≠L
theorem keep_nw{N:Addr->Prop}{H:Hp}{L:Addr}{o:HO}:KeepN (Nw N L) H (upd H L o):=λb u n e=>by rw[qax n.2];exact e
theorem qdX{N:Addr->Prop}{H:Hp}{L:Addr}(h:H L=none):∀b,N b->(H b).isSome=true->Nw N L b:=λb n e=>⟨n,λz=>by rw[z,h]at e;cases e⟩
theorem qcR{N:Addr->Prop}{H:Hp}{L b:Addr}{o:HO}(n:N b)(hL:H L=some o)(hb:H b=none):Nw N L b:=⟨n,λz=>by rw[z,hL]at hb;cases hb⟩
theorem qaD{H H':Hp}{L:Addr}{o:HO}(s:Same H H')(h:H L=none):Same H (upd H' L o):=λb u e=>by rw[qax (qam e h)];exact s b u e
theorem qbz{n:Nat}(h:n<=1000):n<sizeLine:=qaG h
theorem inV_intD(x:Int)(l:List Int):inV (.int x) (l.map V.int)=decide (x∈l):=by
 unfold inV
 induction l with
 | nil=>simp
 | cons y r ih =>
   rw[rH,xQ,ih]
   have:eqV (.int y) (.int x)=decide (y=x):=by
     show(y == x)=_
     rw[xD];simp
   rw[this]
   by_cases h:y=x
   · simp[h]
   · have h':¬x=y:=λz=>h z.symm
     simp[h,h']
theorem flat_ints(l:List Int):(l.map V.int).all flatV=true:=by
 rw[xB];intro v hv;obtain⟨x,_,rfl⟩:=qV.mp hv;rfl
theorem qcn{ds:List Nd}{n x:Int}(h:x∈kids ds n):∃(j:Nat) (d:Nd),x=(j:Int)/\ds[j]?=some d/\d.e=n:=by
 unfold kids qaI at h;obtain⟨j,hj,rfl⟩:=qV.mp h;obtain⟨_,hj⟩:=xL.mp hj;have hj:=rL hj;cases e:ds[j]? with
 | none=>rw[e]at hj;cases hj
 | some d=>rw[e]at hj;exact⟨j,d,rfl,e,rD hj⟩
theorem kids_len(ds:List Nd)(n:Int):(kids ds n).length<=ds.length:=qcS ds n ds.length
theorem qbM(ds:List Nd)(n:Nat)(d:Nd):(noted ds n d).e=d.e/\(noted ds n d).k=d.k/\(noted ds n d).nm=d.nm/\(noted ds n d).mks=d.mks:=by
 unfold noted
 split<;>exact⟨rfl,rfl,rfl,rfl⟩
theorem qb4(ds:List Nd):(qb9 ds).length=ds.length:=qci (qG _)
theorem qcW{ds:List Nd}{n:Nat}(h:n<ds.length):(qb9 ds)[n]?=ds[n]?.map (noted ds n):=qe2 (qG _) h
theorem qcX{ds:List Nd}(ok:NodesOk ds){x:Int}(h:x∈qav ds):∃(j:Nat) (d:Nd),x=(j:Int)/\ds[j]?=some d/\d.k=.note:=by
 obtain⟨k,c,_,ec,hx⟩:=qcZ h;unfold qbu at hx
 by_cases hn:mayHold c.k .note=true
 ·rw[if_pos hn]at hx;obtain⟨j,d,rfl,ed,ee⟩:=qcn (yR hx);refine⟨j,d,rfl,ed,?_⟩;rcases ok.hung j d ed with⟨_,z,_⟩ | ⟨_,i,c',e1,_,ec',m⟩
  ·rw[z]at ee;omega
  ·have:i=k:=by rw[e1]at ee;omega
   subst this;rw[ec]at ec';cases ec';rcases qcw hn with z | z<;>rw[z]at m<;>cases e:d.k<;>rw[e]at m<;>first | rfl | cases m
 ·rw[if_neg hn]at hx;cases hx
def WOk(ds:List Nd)(sp:List Int):Prop:=∀(n:Nat) (d:Nd),ds[n]?=some d->(n:Int)∉sp->d.e=-1\/∃j:Nat,d.e=(j:Int)/\j<n/\(j:Int)∉sp
theorem notes_wok{ds:List Nd}(ok:NodesOk ds):WOk (qb9 ds) (qav ds):=by
 intro n d h _;have hn:n<ds.length:=by rw[<-qb4 ds];exact(qD.mp h).1
 rw[qcW hn]at h;cases e:ds[n]? with
 | none=>rw[e]at h;cases h
 | some c =>
   rw[e]at h
   cases h
   rw[(qbM ds n c).1]
   rcases ok.hung n c e with⟨_,z,_⟩ | ⟨_,j,c',e1,lt,ec',m⟩
   · exact .inl z
   · refine .inr ⟨j,e1,lt,λhj=>?_⟩
     obtain⟨j',d',e2,ed',kd⟩:=qcX ok hj
     have:j=j':=by omega
     subst this
     rw[ec']at ed'
     cases ed'
     rw[kd]at m
     cases e:c.k<;>rw[e]at m<;>cases m
def AsOk(ds:List Nd):Prop:=∀d∈ds,d.k=.aside->0<=d.e/\d.e<ds.length
def spNumbered:Sp:=λvs H Q _=>∃(s:Addr) (st:List Th) (m:Nat) (N:Addr->Prop),vs=[.ref s,.int m]/\StAt N H s st/\Up0 N H/\(∀x∈st,PcOk x)/\st.length<=60/\m<=60/\∀s' H',H s'=none->Same H H'->StAt N H' s' (qaF m st)->Q (.ref s') H'
def spWithout:Sp:=λvs H Q _=>∃(p s:Addr) (ds:List Nd) (sp:List Int) (N:Addr->Prop),vs=[.ref p,.ref s]/\BookAt N H p ds/\H s=some (.lst (sp.map V.int))/\Up0 N H/\ds.length<=60/\WOk ds sp/\∀l H',H l=none->Same H H'->BookAt N H' l (qcL ds sp ds.length)->Q (.ref l) H'
def spMendNotes:Sp:=λvs H Q _=>∃(p:Addr) (ds:List Nd) (N:Addr->Prop),vs=[.ref p]/\BookAt N H p ds/\Up0 N H/\NodesOk ds/\∀l H',H l=none->Same H H'->BookAt N H' l (qao ds)->Q (.ref l) H'
def spNextKind:Sp:=λvs H Q _=>∃(p:Addr) (n:Nat) (d:Nd) (ds:List Nd) (N:Addr->Prop),vs=[.ref p,.int n]/\BookAt N H p ds/\ds.length<=100/\ds[n]?=some d/\0<=d.e/\d.e<ds.length/\∀H',Same H H'->Q (.str (qbE ds n d).s) H'
def spWants:Sp:=λvs H Q _=>∃(p:Addr) (n:Nat) (d:Nd) (ds:List Nd) (N:Addr->Prop),vs=[.ref p,.int n]/\BookAt N H p ds/\ds.length<=100/\ds[n]?=some d/\AsOk ds/\∀H',Same H H'->Q (.bl (qar ds n d)) H'
def spMendKinds:Sp:=λvs H Q _=>∃(p:Addr) (ds:List Nd) (N:Addr->Prop),vs=[.ref p]/\BookAt N H p ds/\Up0 N H/\ds.length<=100/\AsOk ds/\∀l H',H l=none->Same H H'->BookAt (Nw N l) H' l (qaB ds)->Q (.ref l) H'
end Gen
namespace K10
open PySem L2 Bk Gen
abbrev sNumbered:Stmt:=top 62
abbrev sWithout:Stmt:=top 63
abbrev sMendNotes:Stmt:=top 61
abbrev sNextKind:Stmt:=top 65
abbrev sWants:Stmt:=top 64
abbrev sMendKinds:Stmt:=top 66
section
variable{P:Program}{w:World}{K:W.Frag}{mg:Str->Option Value}{base:Heap}
theorem scNumbered:FnScope ["stuff", "notes", "pieces", "count", "piece"] ["stuff", "notes"] (qaf sNumbered):=⟨rfl,rfl,rfl,by ac_rfl,rfl,by ac_rfl,by ac_rfl⟩
theorem ok_numbered_pieces{f:Addr}{fd:FuncData}(F:Fun K "numbered_pieces" "numbered_pieces" sNumbered f fd)(T:Bn mg)(U:Glob mg)(NU:Nums mg):FnOk P w K mg base CX0 1 f fd ["stuff", "notes"] spNumbered:=by
 refine F.ok scNumbered (λvs H Q E h=>?_) (λcdv A outer s H vs Q E hr h=>?_)
 ·obtain⟨sa,st,m,N,rfl,_⟩:=h;rfl
 ·obtain⟨sa,st,m,N,rfl,⟨nsa,vs,hs,its⟩,up,pc,le,m6,q⟩:=h;obtain⟨_,g_SORT⟩:=NU.sort;obtain⟨_,g_MOST_PIECES⟩:=U.pieces;have lv:vs.length=st.length:=its.length;refine⟨_,(qab (qau (i:=2) scNumbered.nd (by rfl) (by trivial) (qaR pa_nil))
   (qab (qau (i:=3) scNumbered.nd (by rfl) (by trivial) qag)
   (qab (qcl xE (by rfl) (qbb (pv 0)) (qaw (i:=4) scNumbered.nd (by rfl) (by trivial))
   (qad (qaH (qak op_ne (qan ix_tup (pv 4) (qae (v:=.int 0) (by rfl) g_SORT ⟨_,rfl⟩) (λ_ _=>rfl)) qah (qap _)) (qad (qaS (qbp qS rE rF mt_append (pv 2) (qaa (pv 4) pa_nil)))) (qad (qaH (qak op_lt (pv 3) (pv 1) (qap _)) (qab (qaS (qbp qS rE rF mt_append (pv 2) (qaa (qbc (qaa qah (qaa (pv 3) (qaa qag pa_nil)))) pa_nil)))
   (qad (qhV (i:=3) scNumbered.nd (by rfl) (by trivial) qag ip_add))) pss_nil)))))
   (qab (qfq xE (PW.pt (qcH (qak op_lt (pv 3) (pv 1) (qap _)) (qbZ (qak op_lt (qal call_len_seq (by rfl) T.len b_len (qaa (pv 2) pa_nil)) (qae (v:=.int 60) (by rfl) g_MOST_PIECES ⟨_,rfl⟩) (qap _))))) (qab (qaS (qbp qS rE rF mt_append (pv 2) (qaa (qbc (qaa qah (qaa (pv 3) (qaa qag pa_nil)))) pa_nil)))
   (qad (qhV (i:=3) scNumbered.nd (by rfl) (by trivial) qag ip_add))))
   (qad (qai (pv 2))))))),?_⟩
  refine⟨by show 0<=sizeLine;decide,λL hL=>?_⟩;have s1:=qac hL (.lst []);dsimp only[qcq];refine qa0 (λσ' H'=>σ'=[some (.ref sa),some (.int m),some (.ref L),some (.int (0:Nat)),none]/\H'=upd H L (.lst [])) (λD' kk=>kk _ _ ⟨rfl,rfl⟩) ?_;rintro _ _ ⟨rfl,rfl⟩;refine qa0 (λσ' H'=>∃ys z,σ'=[some (.ref sa),some (.int m),some (.ref L),some (.int (cntN m 0 st:Nat)),z]/\Same H H'/\H' L=some (.lst ys)/\Paired (ItAt (Nw N L) H') ys (qbh m 0 st)) (λD' kk=>?_) ?_
  ·refine⟨_,rfl,sa,rfl,⟨_,SqL.of (s1 _ _ hs)⟩,qgO (xs:=vs) (λi σ' H'=>∃ys z,∃c:Nat,σ'=[some (.ref sa),some (.int m),some (.ref L),some (.int c),z]/\c=cntN m 0 (st.take i)/\Same H H'/\H' L=some (.lst ys)/\Paired (ItAt (Nw N L) H') ys (qbh m 0 (st.take i))) ⟨[],none,0,rfl,rfl,s1,upd_same,.nil⟩ ?_ ?_ ?_⟩
   ·rintro i σ' H' hi ⟨ys,z,c,rfl,_,s2,_⟩;exact SqL.of (s2 _ _ hs)
   ·rintro i x σ' H' hx ⟨ys,z,c,rfl,rfl,s2,hL2,pa⟩;obtain⟨th,et,it⟩:=qbH its hx;have tk:st.take (i+1)=st.take i++[th]:=by rw[rO,et];rfl
    obtain⟨so,y,n,rfl,en⟩:=qhn (pc th (qK et));have hi':i<st.length:=(qD.mp et).1;have it':=it;obtain⟨a,rfl,_,ha⟩:=it;have ly:ys.length<=60:=by
     have h1:=pa.length;have h2:=qcx m (st.take i) 0;rw[rN]at h2;omega
    have itn:ItAt (Nw N L) (upd H' L (.lst (ys++[.ref a]))) (.ref a) (.tri so y n):=it'.keep (qaD s2 hL).keep (qdX hL);refine⟨_,rfl,a,_,_,_,rfl,rfl,SqT.of (s2 _ _ ha),rfl,rfl,_,rfl,?_⟩;rw[show decide (V.str so.s=V.str (Str.ofString "note"))=decide (so=.note)from sot so .note,<-en];cases eb:isNote (.tri so y n)with
    | false =>
      refine iteT ⟨_,rfl,.inl ⟨rfl,_,SqL.of hL2⟩,_,rfl,L,_,_,rfl,rfl,hL2,qbz (by omega),?_⟩
      refine⟨ys++[.ref a],_,_,rfl,?_,qaD s2 hL,upd_same,?_⟩
      · rw[tk,qcT,if_neg (λz=>by rw[eb]at z;exact absurd z.1 (by decide))]
      · rw[tk,qcu,eb]
        exact qbl (pa.mono λv x h=>h.keep keep_nw λ_ n _=>n) (.cons itn .nil)
    | true =>
      refine iteF ⟨_,rfl,_,rfl,_,_,rfl,rfl,_,rfl,?_⟩
      by_cases hc:cntN m 0 (st.take i)<m
      · rw[qB (by omega:((cntN m 0 (st.take i):Nat):Int)<(m:Nat))]
        refine iteT ⟨_,rfl,.inl ⟨rfl,_,SqL.of hL2⟩,_,rfl,(by show 3<=sizeLine;decide),λt ht=>?_⟩
        have s3:=s2.trans (qac ht (.tup [.str So.note.s,.int (cntN m 0 (st.take i):Nat),.int 0]))
        have hL3:=qac ht (.tup [.str So.note.s,.int (cntN m 0 (st.take i):Nat),.int 0]) _ _ hL2
        refine⟨L,_,_,rfl,rfl,hL3,qbz (by omega),_,rfl,_,_,rfl,rfl,?_⟩
        refine⟨ys++[.ref t],_,cntN m 0 (st.take i)+1,rfl,?_,qaD s3 hL,upd_same,?_⟩
        · rw[tk,qcT,if_pos ⟨eb,hc⟩]
        · rw[tk,qcu,eb,if_pos rfl,if_pos hc]
          refine qbl (pa.mono λv x h=>(h.keep (qac ht _).keep λ_ n _=>n).keep keep_nw λ_ n _=>n) (.cons ⟨t,rfl,qcR (up t (s2.none ht)) hL2 ht,?_⟩ .nil)
          rw[qax (qam hL2 ht).symm,upd_same]
          rfl
      · rw[qC (by omega:¬((cntN m 0 (st.take i):Nat):Int)<(m:Nat))]
        refine iteF ⟨ys,_,_,rfl,?_,s2,hL2,?_⟩
        · rw[tk,qcT,if_neg λz=>hc z.2]
        · rw[tk,qcu,eb,if_pos rfl,if_neg hc,rC]
          exact pa
   ·rintro σ' H' ⟨ys,z,c,rfl,rfl,s2,hL2,pa⟩;rw[lv,rJ]at pa⊢;exact kk _ _ ⟨ys,z,rfl,s2,hL2,pa⟩
  rintro σ1 H1 ⟨ys,z,rfl,s1,hL1,pa⟩;have rl:=qcx m st 0;have cl:=qeb m st 0 (r8 _);refine⟨λk σ' H'=>∃zs,∃j:Nat,σ'=[some (.ref sa),some (.int m),some (.ref L),some (.int (cntN m 0 st+j:Nat)),z]/\Same H H'/\H' L=some (.lst zs)/\Paired (ItAt (Nw N L) H') zs (qbh m 0 st++addN (cntN m 0 st) j)/\j<=min (m-cntN m 0 st) (60-(qbh m 0 st).length)/\k=60-j,⟨_,ys,0,rfl,s1,hL1,by rw[addN,rC];exact pa,by omega,rfl⟩,?_⟩;rintro k σ' H' ⟨zs,j,rfl,s2,hL2,pz,hj,rfl⟩;have lz:zs.length=(qbh m 0 st).length+j:=by rw[pz.length,qH,qe6]
  refine⟨_,rfl,_,rfl,_,_,rfl,rfl,_,rfl,?_⟩;have done:j=min (m-cntN m 0 st) (60-(qbh m 0 st).length)->Q (.ref L) H':=λe=>q L H' hL s2 ⟨up L hL,zs,hL2,by
   unfold qaF;rw[<-e];exact pz.mono λv x h=>h.keep KeepN.refl λ_ n _=>n.1⟩
  by_cases h1:cntN m 0 st+j<m
  rotate_left
  ·rw[qC (by omega:¬((cntN m 0 st+j:Nat):Int)<(m:Nat))];exact iteF (iteF ⟨_,rfl,done (by omega)⟩)
  rw[qB (by omega:((cntN m 0 st+j:Nat):Int)<(m:Nat))];refine iteT ⟨_,rfl,L,_,rfl,.inl (SqL.of hL2),_,_,rfl,rfl,_,rfl,?_⟩
  by_cases h2:zs.length<60
  rotate_left
  ·rw[qC (by omega:¬((zs.length:Nat):Int)<60)];exact iteF ⟨_,rfl,done (by omega)⟩
  rw[qB (by omega:((zs.length:Nat):Int)<60)];refine iteT ⟨λσ' H2=>∃zs,σ'=[some (.ref sa),some (.int m),some (.ref L),some (.int (cntN m 0 st+(j+1):Nat)),z]/\Same H H2/\H2 L=some (.lst zs)/\Paired (ItAt (Nw N L) H2) zs (qbh m 0 st++addN (cntN m 0 st) (j+1)),?_,?_⟩
  ·rintro σ' H2 ⟨zs',rfl,s3,hL3,pz3⟩;exact⟨60-(j+1),by omega,zs',j+1,rfl,s3,hL3,pz3,by omega,rfl⟩
  ·refine⟨_,rfl,.inl ⟨rfl,_,SqL.of hL2⟩,_,rfl,(by show 3<=sizeLine;decide),λt ht=>?_⟩;have s3:=s2.trans (qac ht (.tup [.str So.note.s,.int (cntN m 0 st+j:Nat),.int 0]));have hL3:=qac ht (.tup [.str So.note.s,.int (cntN m 0 st+j:Nat),.int 0]) _ _ hL2;refine⟨L,_,_,rfl,rfl,hL3,qbz (by omega),_,rfl,_,_,rfl,rfl,?_⟩;refine⟨zs++[.ref t],rfl,qaD s3 hL,upd_same,?_⟩;rw[addN,<-yA];refine qbl (pz.mono λv x h=>(h.keep (qac ht _).keep λ_ n _=>n).keep keep_nw λ_ n _=>n) (.cons ⟨t,rfl,qcR (up t (s2.none ht)) hL2 ht,?_⟩ .nil);rw[qax (qam hL2 ht).symm,upd_same];rfl
theorem scWithout:FnScope ["nodes", "spare", "kept", "new_numbers", "number", "node"] ["nodes", "spare"] (qaf sWithout):=⟨rfl,rfl,rfl,by ac_rfl,rfl,by ac_rfl,by ac_rfl⟩
theorem ok_without_nodes{f:Addr}{fd:FuncData}(F:Fun K "without_nodes" "without_nodes" sWithout f fd)(T:Bn mg)(NU:Nums mg):FnOk P w K mg base CX0 1 f fd ["nodes", "spare"] spWithout:=by
 refine F.ok scWithout (λvs H Q E h=>?_) (λcdv A outer s H vs Q E hr h=>?_)
 ·obtain⟨p,sa,ds,sp,N,rfl,_⟩:=h;rfl
 ·obtain⟨p,sa,ds,sp,N,rfl,⟨as,hp,nd⟩,hs,up,le,wo,q⟩:=h;obtain⟨_,g_ELDER⟩:=NU.elder;obtain⟨_,g_KIND⟩:=NU.kind;obtain⟨_,g_NAME⟩:=NU.name;obtain⟨_,g_MARKS⟩:=NU.marks;obtain⟨_,g_STUFF⟩:=NU.stuff;have hu1:=hu_of hr;refine⟨_,(qab (qau (i:=2) scWithout.nd (by rfl) (by trivial) (qaR pa_nil))
   (qab (qau (i:=3) scWithout.nd (by rfl) (by trivial) (pe_disp (pps_cons (qen un_neg qag) (qen un_neg qag) pps_nil) rfl rfl (by simp) (by decide)))
   (qab (qcl xE (by rfl) (qcQ (by rfl) T.enumerate (qaa (pv 0) pa_nil)) (qdj (by rfl) (qa1 (qaw (i:=4) scWithout.nd (by rfl) (by trivial)) (qa1 (qaw (i:=5) scWithout.nd (by rfl) (by trivial)) pgs_nil)))
   (qad (qaH (qak op_notIn_seq (pv 4) (pv 1) (by with_unfolding_all rfl)) (qab (ps_dput hu1 (pv 3) (pv 4) (qal call_len_seq (by rfl) T.len b_len (qaa (pv 2) pa_nil)) (by rfl))
   (qad (qaS (qbp qS rE rF mt_append (pv 2) (qaa (qbc (qaa (pe_dget hu1 (pv 3) (qan ix_tup (pv 5) (qae (v:=.int 0) (by rfl) g_ELDER ⟨_,rfl⟩) (λ_ _=>rfl)) (λ_ _=>rfl)) (qaa (qan ix_tup (pv 5) (qae (v:=.int 1) (by rfl) g_KIND ⟨_,rfl⟩) (λ_ _=>rfl)) (qaa (qan ix_tup (pv 5) (qae (v:=.int 2) (by rfl) g_NAME ⟨_,rfl⟩) (λ_ _=>rfl)) (qaa (qan ix_tup (pv 5) (qae (v:=.int 3) (by rfl) g_MARKS ⟨_,rfl⟩) (λ_ _=>rfl)) (qaa (qan ix_tup (pv 5) (qae (v:=.int 4) (by rfl) g_STUFF ⟨_,rfl⟩) (λ_ _=>rfl)) pa_nil)))))) pa_nil))))) pss_nil)))
   (qad (qai (pv 2)))))),?_⟩
  refine⟨by show 0<=sizeLine;decide,λL hL=>?_⟩;have s1:=qac hL (.lst []);refine λdd hdd=>⟨_,rfl,_,rfl,upd_same,[(Sum.inl (-1),.int (-1))],rfl,by decide,?_⟩
  have hdd0:H dd=none:=s1.none hdd;have s2:Same H (upd (upd (upd H L (.lst [])) dd (.dK [])) dd (.dK (qc9 [] [(Sum.inl (-1),.int (-1))]))):=qaD (s1.trans (qac hdd _)) hdd0;have hL2:upd (upd (upd H L (.lst [])) dd (.dK [])) dd (.dK (qc9 [] [(Sum.inl (-1),.int (-1))])) L=some (.lst []):=by
   rw[upd_upd,qax (qam upd_same hdd),upd_same]
  have hd2:upd (upd (upd H L (.lst [])) dd (.dK [])) dd (.dK (qc9 [] [(Sum.inl (-1),.int (-1))])) dd=some (.dK (qc9 [] [(Sum.inl (-1),.int (-1))])):=upd_same;generalize upd (upd (upd H L (.lst [])) dd (.dK [])) dd (.dK (qc9 [] [(Sum.inl (-1),.int (-1))]))=H2 at s2 hL2 hd2⊢;have old:∀b,N b->(H b).isSome=true->Nw (Nw N L) dd b:=λb n e=>qdX hdd0 b (qdX hL b n e) e
  have la:as.length=ds.length:=nd.length;refine⟨_,rfl,p,rfl,⟨_,SqL.of (s2 _ _ hp)⟩,qc2 (xs:=as.map V.ref) (λi σ' H'=>∃z1 z2 kvs bs,σ'=[some (.ref p),some (.ref sa),some (.ref L),some (.ref dd),z1,z2]/\Same H H'/\H' L=some (.lst (bs.map V.ref))/\NdsAt (Nw (Nw N L) dd) H' bs (qcL ds sp i)/\H' dd=some (.dK kvs)/\kvs.length<=i+1/\∀j:Int,(j=-1\/∃n:Nat,j=(n:Int)/\n<i/\(n:Int)∉sp)->valV kvs (Sum.inl j)=some (.int (qbr sp j))) ⟨none,none,_,[],rfl,s2,hL2,.nil,hd2,by decide,?_⟩ ?_ ?_ ?_⟩
  ·rintro j (rfl | ⟨n,_,h,_⟩)
   ·rfl
   ·exact absurd h (xM _)
  ·rintro i σ' H' hi ⟨z1,z2,kvs,bs,rfl,s3,_⟩;exact SqL.of (s3 _ _ hp)
  ·rintro i x σ' H' t hx ht ⟨z1,z2,kvs,bs,rfl,s3,hL3,nds,hd3,lk,inv⟩;obtain⟨a,ea,rfl⟩:=qdu hx;obtain⟨d,ed,nad⟩:=nd.at ea;have hi':i<ds.length:=(qD.mp ed).1;have k4:=qac ht (.tup [.int (i:Nat),.ref a]);have s4:=s3.trans k4;obtain⟨m',s',ha,_⟩:=nad.ex;refine⟨t,_,rfl,SqT.of upd_same,rfl,_,_,rfl,_,_,rfl,rfl,?_⟩;refine⟨_,rfl,_,rfl,sa,_,rfl,.inl (SqL.of (s4 _ _ hs)),rfl,flat_ints _,_,rfl,?_⟩;rw[if_pos rfl,inV_intD]
   by_cases hsp:(i:Int)∈sp
   ·rw[qB hsp];refine iteF ⟨_,_,kvs,bs,rfl,s4,k4 _ _ hL3,?_,k4 _ _ hd3,by omega,λj hj=>inv j (hj.imp id ?_)⟩
    ·unfold qcL;rw[qa7 ed,if_pos hsp,rC];exact nds.keep k4.keep λ_ n _=>n
    ·rintro⟨n,e,lt,nn⟩;refine⟨n,e,?_,nn⟩;have:n≠i:=λz=>nn (by rw[z];exact hsp)
     omega
   ·rw[qC hsp];have lb:bs.length=qaQ sp i:=by rw[nds.length,qds ds sp (by omega)]
    have cl:=qfb sp i;have hL4:=k4 _ _ hL3;have hd4:=k4 _ _ hd3;refine iteT ⟨_,rfl,L,_,rfl,.inl (SqL.of hL4),_,rfl,_,rfl,dd,_,rfl,DPut.k (k:=Sum.inl (i:Int)) hd4 (qbz (by omega)),?_⟩;rw[qA,lb];have k5:KeepN (Nw (Nw N L) dd) (upd H' t (.tup [.int (i:Nat),.ref a])) (upd (upd H' t (.tup [.int (i:Nat),.ref a])) dd (.dK (putK kvs (Sum.inl (i:Int)) (.int (qaQ sp i:Nat))))):=keep_nw;have s5:=qaD (o:=.dK (putK kvs (Sum.inl (i:Int)) (.int (qaQ sp i:Nat)))) s4 hdd0;have hd5:upd (upd H' t (.tup [.int (i:Nat),.ref a])) dd (.dK (putK kvs (Sum.inl (i:Int)) (.int (qaQ sp i:Nat)))) dd=some (.dK (putK kvs (Sum.inl (i:Int)) (.int (qaQ sp i:Nat)))):=upd_same;have hL5:upd (upd H' t (.tup [.int (i:Nat),.ref a])) dd (.dK (putK kvs (Sum.inl (i:Int)) (.int (qaQ sp i:Nat)))) L=some (.lst (bs.map V.ref)):=by rw[qax (qhc hL4 hd4 (by intro z;cases z))];exact hL4
    generalize upd (upd H' t (.tup [.int (i:Nat),.ref a])) dd (.dK (putK kvs (Sum.inl (i:Int)) (.int (qaQ sp i:Nat))))=H5 at k5 s5 hd5 hL5⊢;have ha5:=s5 _ _ ha;have ev:valV (putK kvs (Sum.inl (i:Int)) (.int (qaQ sp i:Nat))) (Sum.inl d.e)=some (.int (qbr sp d.e)):=by
     have lt:d.e=-1\/∃n:Nat,d.e=(n:Int)/\n<i/\(n:Int)∉sp:=wo i d ed hsp;rw[qgZ,if_neg]
     ·exact inv _ lt
     ·intro z;have z:=Sum.inl.inj z;rcases lt with h | ⟨n,h,l2,_⟩<;>omega
    have dg:DGet H5 dd (.int d.e) (some (.int (qbr sp d.e))):=by
     have:=DGet.k (k:=Sum.inl d.e) hd5;rw[ev]at this;exact this
    refine⟨_,rfl,.inl ⟨rfl,_,SqL.of hL5⟩,_,rfl,_,rfl,a,_,_,_,rfl,rfl,SqT.of ha5,rfl,dd,_,rfl,dg,_,rfl,a,_,_,_,rfl,rfl,SqT.of ha5,rfl,_,rfl,a,_,_,_,rfl,rfl,SqT.of ha5,rfl,_,rfl,a,_,_,_,rfl,rfl,SqT.of ha5,rfl,_,rfl,a,_,_,_,rfl,rfl,SqT.of ha5,rfl,(by show 5<=sizeLine;decide),λu hu=>?_⟩;have k6:=qac hu (.tup [.int (qbr sp d.e),.str d.k.s,.str d.nm,.ref m',.ref s']);have s6:=s5.trans k6;have hL6:=k6 _ _ hL5;have hd6:=k6 _ _ hd5;refine⟨L,_,_,rfl,rfl,hL6,qbz (by rw[qA];omega),?_⟩;have k7:KeepN (Nw (Nw N L) dd) (upd H5 u (.tup [.int (qbr sp d.e),.str d.k.s,.str d.nm,.ref m',.ref s'])) (upd (upd H5 u (.tup [.int (qbr sp d.e),.str d.k.s,.str d.nm,.ref m',.ref s'])) L (.lst (bs.map V.ref++[.ref u]))):=keep_nw.mono λb n=>n.1
    refine⟨_,_,_,bs++[u],rfl,qaD s6 hL,by rw[upd_same];simp,?_,by rw[qax (qhc hd6 hL6 (by intro z;cases z))];exact hd6,?_,λj hj=>?_⟩
    ·unfold qcL;rw[qa7 ed,if_neg hsp];have kk:=((k4.keep (N:=Nw (Nw N L) dd)).trans k5).trans (k6.keep.trans k7);refine NdsAt.append (nds.keep kk λ_ n _=>n) (.cons ?_ .nil);obtain⟨_,m2,s2',ha2,nm,hm,st⟩:=nad.keep (N':=Nw (Nw N L) dd) (qaD (o:=.lst (bs.map V.ref++[.ref u])) s6 hL).keep old;have e2:upd (upd H5 u (.tup [.int (qbr sp d.e),.str d.k.s,.str d.nm,.ref m',.ref s'])) L (.lst (bs.map V.ref++[.ref u])) a=some (.tup [.int d.e,.str d.k.s,.str d.nm,.ref m',.ref s']):=qaD s6 hL _ _ ha;rw[e2]at ha2;cases ha2;refine⟨qcR (qcR (up u (s5.none hu)) hL5 hu) hd5 hu,m',s',?_,nm,hm,st⟩;rw[qax (qam hL5 hu).symm,upd_same]
    ·have:=qcC kvs (Sum.inl (i:Int)) (.int (qaQ sp i:Nat));omega
    ·rw[qgZ]
     by_cases e:j=(i:Int)
     ·rw[if_pos (by rw[e])];subst e;unfold qbr;rw[if_neg (by omega),rM]
     ·rw[if_neg (λz=>e (Sum.inl.inj z))];refine inv j (hj.imp id ?_);rintro⟨n,e1,l2,nn⟩;exact⟨n,e1,by omega,nn⟩
  ·rintro σ' H' ⟨z1,z2,kvs,bs,rfl,s3,hL3,nds,_⟩;rw[qA,la]at nds;exact⟨_,rfl,q L H' hL s3 ⟨bs,hL3,nds.keep KeepN.refl λ_ n _=>n.1.1⟩⟩
theorem scMendNotes:FnScope ["nodes", "mended", "spare", "number", "node", "stuff", "held"] ["nodes"] (qaf sMendNotes):=⟨rfl,rfl,rfl,by ac_rfl,rfl,by ac_rfl,by ac_rfl⟩
theorem ok_mended_notes{f C:Addr}{fd:FuncData}(F:Fun K "mended_notes" "mended_notes" sMendNotes f fd)(T:Bn mg)(NU:Nums mg)(F_may_hold:Fx P w K mg base CX0 1 "may_hold" ["elder_kind", "kind"] spMayX)(F_holds:Fx P w K mg base (CX1 P w) 1 "holds" ["book", "node"] (qdb C))(F_numbered_pieces:Fx P w K mg base CX0 1 "numbered_pieces" ["stuff", "notes"] spNumbered)(F_note_numbers:Fx P w K mg base CX0 1 "note_numbers" ["stuff"] spNotesA)(F_without_nodes:Fx P w K mg base CX0 1 "without_nodes" ["nodes", "spare"] spWithout):FnOk P w K mg base CX0 2 f fd ["nodes"] spMendNotes:=by
 refine F.ok scMendNotes (λvs H Q E h=>?_) (λcdv A outer s H vs Q E hr h=>?_)
 ·obtain⟨p,ds,N,rfl,_⟩:=h;rfl
 ·obtain⟨p,ds,N,rfl,⟨as,hp,nd⟩,up,ok,q⟩:=h;obtain⟨_,g_ELDER⟩:=NU.elder;obtain⟨_,g_KIND⟩:=NU.kind;obtain⟨_,g_NAME⟩:=NU.name;obtain⟨_,g_MARKS⟩:=NU.marks;obtain⟨_,g_STUFF⟩:=NU.stuff;have hr_may_hold:=hr;have hr_holds:=hr;have hr_numbered_pieces:=hr;have hr_note_numbers:=hr;have hr_without_nodes:=hr;refine⟨_,(qab (qau (i:=1) scMendNotes.nd (by rfl) (by trivial) (qaR pa_nil))
   (qab (qau (i:=2) scMendNotes.nd (by rfl) (by trivial) (qaR pa_nil))
   (qab (qcl xE (by rfl) (qcQ (by rfl) T.enumerate (qaa (pv 0) pa_nil)) (qdj (by rfl) (qa1 (qaw (i:=3) scMendNotes.nd (by rfl) (by trivial)) (qa1 (qaw (i:=4) scMendNotes.nd (by rfl) (by trivial)) pgs_nil)))
   (qab (qau (i:=5) scMendNotes.nd (by rfl) (by trivial) (qan ix_tup (pv 4) (qae (v:=.int 4) (by rfl) g_STUFF ⟨_,rfl⟩) (λ_ _=>rfl)))
   (qab (qaH (qaZ (qat F_may_hold hr_may_hold (by rfl) qay (qaa (qan ix_tup (pv 4) (qae (v:=.int 1) (by rfl) g_KIND ⟨_,rfl⟩) (λ_ _=>rfl)) (qaa qah pa_nil)))) (qab (qau (i:=6) scMendNotes.nd (by rfl) (by trivial) (qat F_holds hr_holds (by rfl) qgj (qaa (pv 0) (qaa (pv 3) pa_nil))))
   (qab (qau (i:=5) scMendNotes.nd (by rfl) (by trivial) (qat F_numbered_pieces hr_numbered_pieces (by rfl) qay (qaa (pv 5) (qaa (qal call_len_seq (by rfl) T.len b_len (qaa (pv 6) pa_nil)) pa_nil))))
   (qad (qaS (qbp qS xH xI mt_extend (pv 2) (qaa (qaX sl_list (pv 6) (qaY (qal call_len_seq (by rfl) T.len b_len (qaa (qat F_note_numbers hr_note_numbers (by rfl) qay (qaa (pv 5) pa_nil)) pa_nil))) po_none) pa_nil)))))) pss_nil)
   (qad (qaS (qbp qS rE rF mt_append (pv 1) (qaa (qbc (qaa (qan ix_tup (pv 4) (qae (v:=.int 0) (by rfl) g_ELDER ⟨_,rfl⟩) (λ_ _=>rfl)) (qaa (qan ix_tup (pv 4) (qae (v:=.int 1) (by rfl) g_KIND ⟨_,rfl⟩) (λ_ _=>rfl)) (qaa (qan ix_tup (pv 4) (qae (v:=.int 2) (by rfl) g_NAME ⟨_,rfl⟩) (λ_ _=>rfl)) (qaa (qan ix_tup (pv 4) (qae (v:=.int 3) (by rfl) g_MARKS ⟨_,rfl⟩) (λ_ _=>rfl)) (qaa (pv 5) pa_nil)))))) pa_nil)))))))
   (qad (qai (qat F_without_nodes hr_without_nodes (by rfl) qay (qaa (pv 1) (qaa (pv 2) pa_nil)))))))),?_⟩
  refine⟨by show 0<=sizeLine;decide,λL hL=>⟨by show 0<=sizeLine;decide,λS hS=>?_⟩⟩;have s1:=qac hL (.lst []);have hS0:H S=none:=s1.none hS;have s2:=s1.trans (qac hS (.lst []));have hL2:upd (upd H L (.lst [])) S (.lst []) L=some (.lst []):=by rw[qax (qam upd_same hS),upd_same]
  have hS2:upd (upd H L (.lst [])) S (.lst []) S=some (.lst []):=upd_same;have neLS:L≠S:=qam upd_same hS;generalize upd (upd H L (.lst [])) S (.lst [])=H2 at s2 hL2 hS2⊢;have old:∀b,N b->(H b).isSome=true->Nw (Nw N L) S b:=λb n e=>qdX hS0 b (qdX hL b n e) e
  have la:as.length=ds.length:=nd.length;have le:=ok.le;refine⟨_,rfl,p,rfl,⟨_,SqL.of (s2 _ _ hp)⟩,qc2 (xs:=as.map V.ref) (λi σ' H'=>∃z1 z2 z3 z4 bs,σ'=[some (.ref p),some (.ref L),some (.ref S),z1,z2,z3,z4]/\Same H H'/\H' L=some (.lst (bs.map V.ref))/\NdsAt (Nw (Nw N L) S) H' bs (atTo ds (λi d=>[noted ds i d]) i)/\H' S=some (.lst ((atTo ds (λi d=>qbu ds i d) i).map V.int))) ⟨none,none,none,none,[],rfl,s2,hL2,.nil,hS2⟩ ?_ ?_ ?_⟩
  ·rintro i σ' H' hi ⟨z1,z2,z3,z4,bs,rfl,s3,_⟩;exact SqL.of (s3 _ _ hp)
  ·rintro i x σ' H' t hx ht ⟨z1,z2,z3,z4,bs,rfl,s3,hL3,nds,hS3⟩;obtain⟨a,ea,rfl⟩:=qdu hx;obtain⟨d,ed,nad⟩:=nd.at ea;have hi':i<ds.length:=(qD.mp ed).1;obtain⟨fm,hk⟩:=ok.form d (qK ed);have k4:=qac ht (.tup [.int (i:Nat),.ref a]);have s4:=s3.trans k4;obtain⟨m',s',ha,nm',hm',st'⟩:=nad.ex;have lb:bs.length=i:=by rw[nds.length,qci (by omega)]
   have upN:∀{H':Hp},Same H H'->(∃o,H' L=some o)->(∃o,H' S=some o)->Up0 (Nw (Nw N L) S) H':=λ{H'} sa hl hs b hb=>by
    obtain⟨o1,e1⟩:=hl;obtain⟨o2,e2⟩:=hs;exact qcR (qcR (up b (sa.none hb)) e1 hb) e2 hb
   refine⟨t,_,rfl,SqT.of upd_same,rfl,_,_,rfl,_,_,rfl,rfl,?_⟩;refine⟨_,rfl,a,_,_,_,rfl,rfl,SqT.of (s4 _ _ ha),rfl,?_⟩;dsimp only[qcq];refine qa0 (λσ' H5=>∃s5 z,σ'=[some (.ref p),some (.ref L),some (.ref S),some (.int (i:Nat)),some (.ref a),some (.ref s5),z]/\Same H H5/\KeepN (Nw (Nw N L) S) H' H5/\H5 L=some (.lst (bs.map V.ref))/\H5 S=some (.lst ((atTo ds (λi d=>qbu ds i d) (i+1)).map V.int))/\StAt (Nw (Nw N L) S) H5 s5 (noted ds i d).st) (λD' kk=>?_) ?_
   ·refine⟨_,rfl,a,_,_,_,rfl,rfl,SqT.of (s4 _ _ ha),rfl,d.k,.note,rfl,hk,_,rfl,?_⟩;cases eb:mayHold d.k .note with
    | false =>
      refine iteF (kk _ _ ⟨s',_,rfl,s4,k4.keep,k4 _ _ hL3,?_,?_⟩)
      · rw[qa7 ed]
        unfold qbu
        rw[if_neg (by rw[eb];decide),rC]
        exact k4 _ _ hS3
      · unfold noted
        rw[if_neg (by rw[eb];decide)]
        exact st'.keep s4.keep old
    | true =>
      have fp:=qfo fm (by rcases qcw eb with z | z<;>rw[z]<;>rfl)
      have kl:=kids_len ds i
      refine iteT ⟨_,rfl,_,rfl,p,i,ds,N,rfl,⟨as,s4 _ _ hp,nd.keep s4.keep λ_ n _=>n⟩,by omega,uF (show((i:Int)).natAbs<1000 by omega) (by ac_rfl),.inr ⟨⟨by omega,by omega⟩,λh5 H5 hh5 s5 e5=>?_⟩⟩
      have s45:=s4.trans s5
      have hL5:=s5 _ _ (k4 _ _ hL3)
      have hS5:=s5 _ _ (k4 _ _ hS3)
      refine⟨_,rfl,_,rfl,h5,_,rfl,.inl (SqL.of e5),?_⟩
      rw[qA]
      refine⟨s',d.st,(kids ds i).length,Nw (Nw N L) S,rfl,st'.keep s45.keep old,upN s45 ⟨_,hL5⟩ ⟨_,hS5⟩,fp.1,fp.2,by omega,λs6 H6 hs6 k6 st6=>?_⟩
      have s46:=s45.trans k6
      refine⟨_,rfl,.inl ⟨rfl,_,SqL.of (k6 _ _ hS5)⟩,_,rfl,_,rfl,s6,_,_,rfl,st6,qhj (by omega) fp.1,qg5 fp.2,λl7 H7 hl7 k7 e7=>?_⟩
      refine⟨l7,_,rfl,.inl (SqL.of e7),_,rfl,h5,_,rfl,SqL.of (k7 _ _ (k6 _ _ e5)),λc8 hc8=>?_⟩
      rw[qA,qd8,<-wV]
      have k8:=qac hc8 (.lst (((qaI ds i ds.length).drop (qaj (qaF (kids ds i).length d.st)).length).map V.int))
      have s48:=(s46.trans k7).trans k8
      have hS8:=k8 _ _ (k7 _ _ (k6 _ _ hS5))
      have hL8:=k8 _ _ (k7 _ _ (k6 _ _ hL5))
      have ls:(atTo ds (λi d=>qbu ds i d) i).length<=60*i:=qcj (λi d=>by
        unfold qbu
        have:=kids_len ds i
        split
        · rw[rW];omega
        · exact r8 _) i
      refine⟨S,c8,_,_,rfl,rfl,hS8,upd_same,?_,kk _ _ ⟨s6,_,rfl,qaD s48 hS0,?_,?_,?_,?_⟩⟩
      · rw[qA,qA,rW]
        have:(qaI ds i ds.length).length<=ds.length:=qcS ds i ds.length
        exact qR (show _<=10000 by omega) (by decide)
      · exact(k4.keep.trans (s5.keep.trans (k6.keep.trans (k7.keep.trans k8.keep)))).trans keep_nw
      · rw[qax neLS];exact hL8
      · rw[upd_same,qa7 ed,qM]
        unfold qbu
        rw[if_pos eb]
        rfl
      · unfold noted
        rw[if_pos eb]
        exact st6.keep ((k7.trans k8).keep.trans keep_nw) λ_ n _=>n
   rintro σ5 H5 ⟨s5,z,rfl,s05,k5,hL5,hS5,st5⟩;have ha5:=s05 _ _ ha;refine⟨_,rfl,.inl ⟨rfl,_,SqL.of hL5⟩,_,rfl,a,_,_,_,rfl,rfl,SqT.of ha5,rfl,_,rfl,a,_,_,_,rfl,rfl,SqT.of ha5,rfl,_,rfl,a,_,_,_,rfl,rfl,SqT.of ha5,rfl,_,rfl,a,_,_,_,rfl,rfl,SqT.of ha5,rfl,_,rfl,(by show 5<=sizeLine;decide),λu hu=>?_⟩;have k6:=qac hu (.tup [.int d.e,.str d.k.s,.str d.nm,.ref m',.ref s5]);have s6:=s05.trans k6;have hL6:=k6 _ _ hL5;have k7:KeepN (Nw (Nw N L) S) (upd H5 u (.tup [.int d.e,.str d.k.s,.str d.nm,.ref m',.ref s5])) (upd (upd H5 u (.tup [.int d.e,.str d.k.s,.str d.nm,.ref m',.ref s5])) L (.lst (bs.map V.ref++[.ref u]))):=keep_nw.mono λb n=>n.1
   refine⟨L,_,_,rfl,rfl,hL6,qbz (by rw[qA];omega),?_⟩;refine⟨_,_,_,_,bs++[u],rfl,qaD s6 hL,by rw[upd_same];simp,?_,by rw[qax neLS.symm];exact k6 _ _ hS5⟩;rw[qa7 ed];refine NdsAt.append (nds.keep (k5.trans (k6.keep.trans k7)) λ_ n _=>n) (.cons ?_ .nil);have nk:=qbM ds i d;have hm6:upd (upd H5 u (.tup [.int d.e,.str d.k.s,.str d.nm,.ref m',.ref s5])) L (.lst (bs.map V.ref++[.ref u])) m'=some (.lst (d.mks.map V.str)):=qaD s6 hL _ _ hm';refine⟨upN s05 ⟨_,hL5⟩ ⟨_,hS5⟩ u hu,m',s5,?_,old m' nm' (by rw[hm'];rfl),by rw[nk.2.2.2];exact hm6,st5.keep (k6.keep.trans k7) λ_ n _=>n⟩;rw[nk.1,nk.2.1,nk.2.2.1,qax (qam hL5 hu).symm,upd_same]
  ·rintro σ' H' ⟨z1,z2,z3,z4,bs,rfl,s3,hL3,nds,hS3⟩;rw[qA,la]at nds hS3;have ll:(qb9 ds).length<=60:=by rw[qb4];exact le
   refine⟨_,rfl,_,rfl,L,S,qb9 ds,qav ds,N,rfl,⟨bs,hL3,nds.keep KeepN.refl λ_ n _=>n.1.1⟩,hS3,up.same s3,ll,notes_wok ok,λl H4 hl s4 B=>q l H4 (s3.none hl) (s3.trans s4) B⟩
theorem scNextKind:FnScope ["nodes", "number", "behind"] ["nodes", "number"] (qaf sNextKind):=⟨rfl,rfl,rfl,by ac_rfl,rfl,by ac_rfl,by ac_rfl⟩
theorem ok_next_kind{f C:Addr}{fd:FuncData}(F:Fun K "next_kind" "next_kind" sNextKind f fd)(T:Bn mg)(NU:Nums mg)(F_holds:Fx P w K mg base (CX1 P w) 1 "holds" ["book", "node"] (qdb C)):FnOk P w K mg base CX0 2 f fd ["nodes", "number"] spNextKind:=by
 refine F.ok scNextKind (λvs H Q E h=>?_) (λcdv A outer s H vs Q E hr h=>?_)
 ·obtain⟨p,n,d,ds,N,rfl,_⟩:=h;rfl
 ·obtain⟨p,n,d,ds,N,rfl,⟨as,hp,nd⟩,le,ed,e0,e1,q⟩:=h;obtain⟨_,g_ELDER⟩:=NU.elder;obtain⟨_,g_KIND⟩:=NU.kind;have hr_holds:=hr;have ln:n<ds.length:=(qD.mp ed).1;obtain⟨a,ea,na⟩:=nd.get ed;obtain⟨m',s',ha,_⟩:=na.ex;refine⟨_,(qab (qer (i:=2) (by rfl) scNextKind.nd (by rfl) (by trivial) (own:=["one"]) (ix:=[1]) (frees:=["number"]) (CompScope.frees (by rfl) (by ac_rfl) (by ac_rfl) (by ac_rfl) (by rfl) (by ac_rfl) (by first | exact qfC (by rfl) | exact free2 (by rfl) (by rfl))) (qbb (qat F_holds hr_holds (by rfl) qgj (qaa (pv 0) (qaa (qan ix_tup (qan ix_list (pv 0) (pv 1) (λ_ _=>rfl)) (qae (v:=.int 0) (by rfl) g_ELDER ⟨_,rfl⟩) (λ_ _=>rfl)) pa_nil)))) (λcl C s2 H2 fp=>(qaw (i:=0) (by show(["one", "number"]:List Str).Nodup;ac_rfl) (by rfl) (by trivial) (by trivial))) (λcl C s2 H2 fp=>(qcN (qak op_gt (pv 0) (pv 1) (qap _)))) (λcl C s2 H2 fp=>(pv 0)))
   (qad (qai (qch (qak op_gt (qal call_len_seq (by rfl) T.len b_len (qaa (pv 2) pa_nil)) qag (qap _)) (qan ix_tup (qan ix_list (pv 0) (qan ix_list (pv 2) qag (λ_ _=>rfl)) (λ_ _=>rfl)) (qae (v:=.int 1) (by rfl) g_KIND ⟨_,rfl⟩) (λ_ _=>rfl)) qah)))),?_⟩
  refine⟨_,rfl,_,rfl,_,rfl,p,_,_,_,rfl,rfl,SqL.of hp,qbO ea,a,_,_,_,rfl,rfl,SqT.of ha,rfl,p,d.e,ds,N,rfl,⟨as,hp,nd⟩,by omega,uF (show(d.e).natAbs<1000 by omega) (by ac_rfl),.inr ⟨⟨e0,e1⟩,λl H1 hl s1 h1=>?_⟩⟩;have kl:(qaI ds d.e ds.length).length<=ds.length:=qcS ds d.e ds.length;refine⟨l,rfl,⟨_,SqL.of h1⟩,qaN (xs:=(qaI ds d.e ds.length).map V.int) (λi ys σ' H'=>H'=H1/\ys=(((qaI ds d.e ds.length).take i).filter λj=>decide ((n:Int)<j)).map V.int/\∃z,σ'=[z,some (.int (n:Nat))]) (by rw[qA];exact qbz (by omega)) ⟨rfl,rfl,none,rfl⟩ ?_ ?_ ?_⟩
  ·rintro i ys σ' H' hi ⟨rfl,rfl,_⟩;refine⟨SqL.of h1,?_⟩;rw[qA];exact qR (yC ..) (by rw[rN];omega)
  ·rintro i x ys σ' H' hx ⟨rfl,rfl,z,rfl⟩;rw[qP]at hx;cases e:(qaI ds d.e ds.length)[i]? with
   | none=>rw[e]at hx;cases hx
   | some j =>
     rw[e]at hx
     cases hx
     refine⟨_,rfl,_,rfl,_,_,rfl,rfl,_,rfl,?_⟩
     rw[rO,e,rR,rT]
     by_cases hj:(n:Int)<j
     · rw[qB hj]
       exact iteT ⟨_,rfl,rfl,by simp[hj],_,rfl⟩
     · rw[qC hj]
       exact iteF ⟨rfl,by simp[hj],_,rfl⟩
  ·rintro ys σ' H' ⟨rfl,rfl,_⟩ D hD;rw[qA,rJ];have s2:=s1.trans (qac hD (.lst (((qaI ds d.e ds.length).filter λj=>decide ((n:Int)<j)).map V.int)));refine⟨_,rfl,D,_,rfl,.inl (SqL.of upd_same),_,_,rfl,rfl,_,rfl,?_⟩;have q2:=q _ s2;unfold qbE kids at q2;cases ef:(qaI ds d.e ds.length).filter λj=>decide ((n:Int)<j)with
   | nil =>
     rw[ef]at q2
     exact iteF q2
   | cons j r =>
     rw[ef]at q2
     have hj:j∈kids ds d.e:=(xL.mp (show j∈(qaI ds d.e ds.length).filter _ by rw[ef];exact qJ)).1
     obtain⟨jn,dj,rfl,ej,_⟩:=qcn hj
     obtain⟨b,eb,nb⟩:=nd.get ej
     obtain⟨m2,s2',hb,_⟩:=nb.ex
     rw[ef]at s2
     rw[qB (by simp:(0:Int)<(((((jn:Int)::r).map V.int).length:Nat):Int))]
     refine iteT ⟨_,rfl,_,rfl,D,_,_,_,rfl,rfl,SqL.of upd_same,(qbV (j:=0) rfl),p,_,_,_,rfl,rfl,SqL.of (s2 _ _ hp),qbO eb,b,_,_,_,rfl,rfl,SqT.of (s2 _ _ hb),rfl,?_⟩
     dsimp only at q2
     rw[show qb0 ds ((jn:Int)).toNat=dj.k by unfold qb0;rw[rM,ej]]at q2
     exact q2
theorem scWants:FnScope ["nodes", "number", "kind"] ["nodes", "number"] (qaf sWants):=⟨rfl,rfl,rfl,by ac_rfl,rfl,by ac_rfl,by ac_rfl⟩
theorem ok_wants_case{f C:Addr}{fd:FuncData}(F:Fun K "wants_case" "wants_case" sWants f fd)(T:Bn mg)(NU:Nums mg)(F_holds:Fx P w K mg base (CX1 P w) 1 "holds" ["book", "node"] (qdb C))(F_next_kind:Fx P w K mg base CX0 2 "next_kind" ["nodes", "number"] spNextKind):FnOk P w K mg base CX0 3 f fd ["nodes", "number"] spWants:=by
 refine F.ok scWants (λvs H Q E h=>?_) (λcdv A outer s H vs Q E hr h=>?_)
 ·obtain⟨p,n,d,ds,N,rfl,_⟩:=h;rfl
 ·obtain⟨p,n,d,ds,N,rfl,⟨as,hp,nd⟩,le,ed,ao,q⟩:=h;obtain⟨_,g_KIND⟩:=NU.kind;have hr_holds:Room 1 _:=hr.mono (by decide);have hr_next_kind:=hr;have ln:n<ds.length:=(qD.mp ed).1;obtain⟨a,ea,na⟩:=nd.get ed;obtain⟨m',s',ha,_⟩:=na.ex;refine⟨_,(qab (qau (i:=2) scWants.nd (by rfl) (by trivial) (qan ix_tup (qan ix_list (pv 0) (pv 1) (λ_ _=>rfl)) (qae (v:=.int 1) (by rfl) g_KIND ⟨_,rfl⟩) (λ_ _=>rfl)))
   (qab (qaH (PW.pt (qcH (qak op_eq (pv 2) qah (qap _)) (qbZ (qak op_ne (qat F_next_kind hr_next_kind (by rfl) qay (qaa (pv 0) (qaa (pv 1) pa_nil))) qah (qap _))))) (qad (qai qdP)) pss_nil)
   (qad (qai (qdY (qaW op_in_seq (pv 2) (qbc (qaa qah (qaa qah (qaa qah pa_nil)))) (by with_unfolding_all rfl)) (qda (qaW op_eq (qal call_len_seq (by rfl) T.len b_len (qaa (qat F_holds hr_holds (by rfl) qgj (qaa (pv 0) (qaa (pv 1) pa_nil))) pa_nil)) qag (qap _)))))))),?_⟩
  refine⟨_,rfl,_,rfl,p,_,_,_,rfl,rfl,SqL.of hp,qbO ea,a,_,_,_,rfl,rfl,SqT.of ha,rfl,?_⟩;dsimp only[qcq];refine qbs (λσ' H'=>σ'=[some (.ref p),some (.int (n:Nat)),some (.str d.k.s)]/\Same H H'/\(decide (d.k=.aside) && decide (qbE ds n d≠.text))=false) (λN0 kk=>?_) ?_
  ·refine⟨_,rfl,rfl,_,rfl,?_⟩;rw[show decide (V.str d.k.s=V.str (Str.ofString "aside"))=decide (d.k=.aside)from kdt d.k .aside]
   by_cases hk:d.k=.aside
   ·rw[qB hk];obtain⟨e0,e1⟩:=ao d (qK ed) hk;refine iteT ⟨_,rfl,_,rfl,p,n,d,ds,N,rfl,⟨as,hp,nd⟩,le,ed,e0,e1,λH2 s2=>⟨rfl,_,rfl,?_⟩⟩;rw[show decide (V.str (qbE ds n d).s=V.str (Str.ofString "text"))=decide (qbE ds n d=.text)from kdt _ .text]
    by_cases ht:qbE ds n d=.text
    ·rw[qB ht];exact iteF (kk _ _ ⟨rfl,s2,by rw[ht];simp⟩)
    ·rw[qC ht];refine iteT ?_;have:=q H2 s2;unfold qar at this;rw[qB hk,qB ht]at this;exact this
   ·rw[qC hk];exact iteF (iteF (kk _ _ ⟨rfl,Same.refl H,by rw[qC hk];rfl⟩))
  rintro _ H1 ⟨rfl,s1,e1⟩;have q1:∀H',Same H H'->Q (.bl (decide (d.k∈[Kd.aside,.shelf,.grid]) && decide (kids ds n=[]))) H':=λH' s=>by
   have:=q H' s;unfold qar at this;rw[e1,wE]at this;exact this
  refine⟨_,rfl,(by show 3<=sizeLine;decide),λt ht=>⟨t,_,rfl,.inr (SqT.of upd_same),rfl,rfl,_,rfl,?_⟩⟩;rw[if_neg qL,show inV (V.str d.k.s) [V.str (Str.ofString "aside"),V.str (Str.ofString "shelf"),V.str (Str.ofString "grid")]=decide (d.k∈[Kd.aside,.shelf,.grid])from qbT d.k [Kd.aside,.shelf,.grid]];have s2:=s1.trans (qac ht (.tup [.str (Str.ofString "aside"),.str (Str.ofString "shelf"),.str (Str.ofString "grid")]))
  by_cases hk:d.k∈[Kd.aside,.shelf,.grid]
  ·rw[qB hk];refine iteT ⟨_,rfl,_,rfl,p,n,ds,N,rfl,⟨as,s2 _ _ hp,nd.keep s2.keep λ_ n _=>n⟩,by omega,uF (show((n:Int)).natAbs<1000 by omega) (by ac_rfl),.inr ⟨⟨by omega,by omega⟩,λl H3 hl s3 h3=>?_⟩⟩;refine⟨l,_,rfl,.inl (SqL.of h3),rfl,?_⟩;have:=q1 H3 (s2.trans s3);rw[qB hk,xP]at this;rw[qA];have e:decide (V.int ((qaI ds n ds.length).length:Nat)=V.int 0)=decide (kids ds n=[]):=by
    unfold kids;rw[xD,qY,qY];constructor
    ·intro z;have:=V.int.inj z;exact rA (by omega)
    ·intro z;rw[z];rfl
   rw[e];exact this
  ·rw[qC hk];have:=q1 _ s2;rw[qC hk]at this;exact iteF this
theorem scMendKinds:FnScope ["nodes", "mended", "number", "node", "kind"] ["nodes"] (qaf sMendKinds):=⟨rfl,rfl,rfl,by ac_rfl,rfl,by ac_rfl,by ac_rfl⟩
theorem ok_mended_kinds{f:Addr}{fd:FuncData}(F:Fun K "mended_kinds" "mended_kinds" sMendKinds f fd)(T:Bn mg)(NU:Nums mg)(F_wants_case:Fx P w K mg base CX0 3 "wants_case" ["nodes", "number"] spWants):FnOk P w K mg base CX0 4 f fd ["nodes"] spMendKinds:=by
 refine F.ok scMendKinds (λvs H Q E h=>?_) (λcdv A outer s H vs Q E hr h=>?_)
 ·obtain⟨p,ds,N,rfl,_⟩:=h;rfl
 ·obtain⟨p,ds,N,rfl,⟨as,hp,nd⟩,up,le,ao,q⟩:=h;obtain⟨_,g_ELDER⟩:=NU.elder;obtain⟨_,g_KIND⟩:=NU.kind;obtain⟨_,g_NAME⟩:=NU.name;obtain⟨_,g_MARKS⟩:=NU.marks;obtain⟨_,g_STUFF⟩:=NU.stuff;have hr_wants_case:=hr;refine⟨_,(qab (qau (i:=1) scMendKinds.nd (by rfl) (by trivial) (qaR pa_nil))
   (qab (qcl xE (by rfl) (qcQ (by rfl) T.enumerate (qaa (pv 0) pa_nil)) (qdj (by rfl) (qa1 (qaw (i:=2) scMendKinds.nd (by rfl) (by trivial)) (qa1 (qaw (i:=3) scMendKinds.nd (by rfl) (by trivial)) pgs_nil)))
   (qab (qau (i:=4) scMendKinds.nd (by rfl) (by trivial) (qch (qaZ (qat F_wants_case hr_wants_case (by rfl) qay (qaa (pv 0) (qaa (pv 2) pa_nil)))) qah (qan ix_tup (pv 3) (qae (v:=.int 1) (by rfl) g_KIND ⟨_,rfl⟩) (λ_ _=>rfl))))
   (qad (qaS (qbp qS rE rF mt_append (pv 1) (qaa (qbc (qaa (qan ix_tup (pv 3) (qae (v:=.int 0) (by rfl) g_ELDER ⟨_,rfl⟩) (λ_ _=>rfl)) (qaa (pv 4) (qaa (qan ix_tup (pv 3) (qae (v:=.int 2) (by rfl) g_NAME ⟨_,rfl⟩) (λ_ _=>rfl)) (qaa (qan ix_tup (pv 3) (qae (v:=.int 3) (by rfl) g_MARKS ⟨_,rfl⟩) (λ_ _=>rfl)) (qaa (qan ix_tup (pv 3) (qae (v:=.int 4) (by rfl) g_STUFF ⟨_,rfl⟩) (λ_ _=>rfl)) pa_nil)))))) pa_nil))))))
   (qad (qai (pv 1))))),?_⟩
  refine⟨by show 0<=sizeLine;decide,λL hL=>?_⟩;have s2:=qac hL (.lst []);have la:as.length=ds.length:=nd.length;have old:∀b,N b->(H b).isSome=true->Nw N L b:=qdX hL;refine⟨_,rfl,p,rfl,⟨_,SqL.of (s2 _ _ hp)⟩,qc2 (xs:=as.map V.ref) (λi σ' H'=>∃z1 z2 z3 bs,σ'=[some (.ref p),some (.ref L),z1,z2,z3]/\Same H H'/\H' L=some (.lst (bs.map V.ref))/\NdsAt (Nw N L) H' bs (atTo ds (λi d=>[{d with k:=if qar ds i d then .case else d.k}]) i)) ⟨none,none,none,[],rfl,s2,upd_same,.nil⟩ ?_ ?_ ?_⟩
  ·rintro i σ' H' hi ⟨z1,z2,z3,bs,rfl,s3,_⟩;exact SqL.of (s3 _ _ hp)
  ·rintro i x σ' H' t hx ht ⟨z1,z2,z3,bs,rfl,s3,hL3,nds⟩;obtain⟨a,ea,rfl⟩:=qdu hx;obtain⟨d,ed,nad⟩:=nd.at ea;have hi':i<ds.length:=(qD.mp ed).1;have k4:=qac ht (.tup [.int (i:Nat),.ref a]);have s4:=s3.trans k4;obtain⟨m',s',ha,nm',hm',st'⟩:=nad.ex;have lb:bs.length=i:=by rw[nds.length,qci (by omega)]
   refine⟨t,_,rfl,SqT.of upd_same,rfl,_,_,rfl,_,_,rfl,rfl,?_⟩;refine qa0 (λσ' H5=>σ'=[some (.ref p),some (.ref L),some (.int (i:Nat)),some (.ref a),some (.str (if qar ds i d then Kd.case else d.k).s)]/\Same (upd H' t (.tup [.int (i:Nat),.ref a])) H5) (λD' kk=>?_) ?_
   ·refine⟨_,rfl,_,rfl,p,i,d,ds,N,rfl,⟨as,s4 _ _ hp,nd.keep s4.keep λ_ n _=>n⟩,le,ed,ao,λH5 s5=>⟨_,rfl,?_⟩⟩;cases eb:qar ds i d with
    | true=>exact iteT (kk _ _ ⟨by rw[eb];rfl,s5⟩)
    | false=>exact iteF ⟨_,rfl,a,_,_,_,rfl,rfl,SqT.of (s5 _ _ (s4 _ _ ha)),rfl,kk _ _ ⟨by rw[eb];rfl,s5⟩⟩
   rintro _ H5 ⟨rfl,s5⟩;have s05:=s4.trans s5;have ha5:=s05 _ _ ha;have hL5:=s5 _ _ (k4 _ _ hL3);refine⟨_,rfl,.inl ⟨rfl,_,SqL.of hL5⟩,_,rfl,a,_,_,_,rfl,rfl,SqT.of ha5,rfl,_,rfl,_,rfl,a,_,_,_,rfl,rfl,SqT.of ha5,rfl,_,rfl,a,_,_,_,rfl,rfl,SqT.of ha5,rfl,_,rfl,a,_,_,_,rfl,rfl,SqT.of ha5,rfl,(by show 5<=sizeLine;decide),λu hu=>?_⟩;have k6:=qac hu (.tup [.int d.e,.str (if qar ds i d then Kd.case else d.k).s,.str d.nm,.ref m',.ref s']);have s6:=s05.trans k6;have hL6:=k6 _ _ hL5;refine⟨L,_,_,rfl,rfl,hL6,qbz (by rw[qA];omega),?_⟩;refine⟨_,_,_,bs++[u],rfl,qaD s6 hL,by rw[upd_same];simp,?_⟩;rw[qa7 ed];refine NdsAt.append (nds.keep (k4.keep.trans (s5.keep.trans (k6.keep.trans keep_nw))) λ_ n _=>n) (.cons ?_ .nil);refine⟨qcR (up u (s05.none hu)) hL5 hu,m',s',?_,old m' nm' (by rw[hm'];rfl),qaD s6 hL _ _ hm',st'.keep (qaD s6 hL).keep old⟩;rw[qax (qam hL5 hu).symm,upd_same]
  ·rintro σ' H' ⟨z1,z2,z3,bs,rfl,s3,hL3,nds⟩;rw[qA,la]at nds;exact⟨_,rfl,q L H' hL s3 ⟨bs,hL3,nds⟩⟩
end
end K10
namespace Gen
open PySem L2 Bk
open Classical in
noncomputable def insS(x:Str):List Str->List Str
 | []=>[x]
 | y::r=>if x.cps.toList<y.cps.toList then x::y::r else y::insS x r
theorem qek(x:Str):∀l,(insS x l).Perm (x::l)
 | []=>.refl _
 | y :: r => by
   rw[insS]
   split
   · exact .refl _
   · exact((qek x r).cons y).trans (.swap x y r)
theorem qfO{x:Str}:∀{l:List Str},Rise l->x∉l->Rise (insS x l)
 | [],_,_=>List.pairwise_singleton _ _
 | y :: r, h, n => by
   have h':=List.pairwise_cons.mp h
   rw[insS]
   split
   · rename_i lt
     exact List.pairwise_cons.mpr ⟨λz hz=>by
       rcases qO.mp hz with rfl | hz
       · exact lt
       · exact List.lt_trans lt (h'.1 z hz),h⟩
   · rename_i nl
     refine List.pairwise_cons.mpr ⟨λz hz=>?_,qfO h'.2 λm=>n (qN _ m)⟩
     rcases qO.mp ((qek x r).subset hz)with rfl | hz
     · by_cases q:y.cps.toList<z.cps.toList
       · exact q
       · exact absurd (qdx (List.le_antisymm (wA.mp nl) (wA.mp q))) (λe=>n (by rw[e];exact qJ))
     · exact h'.1 z hz
theorem sort_ex:∀{l:List Str},l.Nodup->∃ss:List Str,ss.Perm l/\Rise ss
 | [],_=>⟨[],.refl _,List.Pairwise.nil⟩
 | x :: r, h => by
   have h':=uR.mp h
   obtain⟨ss,p,q⟩:=sort_ex h'.2
   exact⟨insS x ss,(qek x ss).trans (p.cons x),qfO q λm=>h'.1 (p.subset m)⟩
theorem marks_ex(mks:List Str):MarksOf mks (qaL mks):=by
 obtain⟨ss,p,r⟩:=sort_ex (qfi mks);have:MarksOf mks (ss.take 4):=⟨ss,p,r,rfl⟩;rw[qcP this];exact this
theorem qeT{mks:List Str}(h:∀m∈mks,Name m):qif (qaL mks):=by
 obtain⟨ss,p,r,e⟩:=marks_ex mks;rw[e];refine⟨by rw[rN];omega,λm hm=>h m ((qgy mks m).mp (p.subset (uZ hm))),r.sublist (List.take_sublist ..)⟩
theorem mendName_form{ds:List Nd}{nm:Str}(h:nm=noName\/Name nm):qaP ds nm=noName\/Name (qaP ds nm):=by
 unfold qaP
 split
 ·exact .inl rfl
 ·exact h
theorem bare_ok:qc5 bareSt:=by
 refine⟨λx hx=>?_,⟨_,_,rfl,rfl⟩,by decide⟩;have:x=.tri .word (.inl (T "?")) 0:=by simpa[bareSt]using hx
 subst this;exact⟨⟨by ac_rfl,by ac_rfl,by ac_rfl⟩,by decide,by decide⟩
theorem qg6{k:Kd}{st:List Th}(h:∀x∈st,PcOk x):∀x∈qaq k st,PcOk x:=λx hx=>by
 unfold qaq at hx;have hx:=uZ hx
 split at hx
 ·exact h x (xL.mp hx).1
 ·exact h x ((yB _).subset hx)
theorem mendP_ok{k:Kd}{st:List Th}(h:∀x∈st,PcOk x)(ne:qaq k st≠[]):qc5 (qaq k st):=by
 refine⟨qg6 h,?_,by unfold qaq;rw[rN];omega⟩;cases e:qaq k st with
 | nil=>exact absurd e ne
 | cons x r =>
   refine⟨x,r,rfl,?_⟩
   unfold qaq at e
   cases e2:(if k=.note then st.filter (λx=>!isNote x)else st.dropWhile isNote)with
   | nil=>rw[e2]at e;cases e
   | cons y r2 =>
     rw[e2]at e
     have:y=x:=by
       rw[List.take_succ_cons]at e
       exact(wF e).1
     subst this
     split at e2
     · have hy:y∈st.filter (λx=>!isNote x):=by rw[e2];exact qJ
       simpa using(xL.mp hy).2
     · have:=List.head?_dropWhile_not isNote st
       rw[e2]at this
       simpa using this
theorem newSt_form{k:Kd}{st:List Th}(pc:ofPieces k=true->∀x∈st,PcOk x)(o:ofPieces k=false->Stuff k st):Stuff k (qdh k st):=by
 unfold qdh;cases e:ofPieces k with
 | false=>exact o e
 | true =>
   rw[if_pos rfl]
   have hk:k∈[Kd.text,.head,.note]:=by cases k<;>first | (cases e;done) | decide
   refine(qcg hk).mp ?_
   split
   · exact bare_ok
   · rename_i ne
     exact mendP_ok (pc e) ne
theorem qf0{ds:List Nd}{e:Int}{d:Nd}(h:PartsOk d):Form (qa9 ds e d)/\(qa9 ds e d).k∈kindsAll :=
 ⟨⟨mendName_form h.nm,qeT h.mks.1,newSt_form (λz=>(h.pc z).1) h.st⟩,h.k⟩
theorem qff{c:Nat}{x:Str}(h:labB c x=true):Name (tl1 x):=by
 unfold labB at h;rw[rG]at h;exact nameB_iff.mp h.2
theorem nameLab_form(ls:List Str):qbF ls=noName\/Name (qbF ls):=by
 unfold qbF;cases ls with
 | nil=>exact .inl rfl
 | cons x r =>
   cases e:qbw (x::r)with
   | false=>exact .inl rfl
   | true=>exact .inr (qff e)
theorem markLabs_form(ls:List Str):(∀m∈qbd ls,Name m)/\(qbd ls).length<=ls.length:=by
 unfold qbd;refine⟨λm hm=>?_,by rw[qA];exact yC ..⟩;obtain⟨x,hx,rfl⟩:=qV.mp hm;exact qff (xL.mp hx).2
theorem readPiece_pc{x:Str}{t:Th}(h:qaA x=some t):PcOk t:=by
 unfold qaA at h
 by_cases e:x=T "{}"
 ·rw[if_pos e]at h;cases h;exact⟨by decide,by decide,rfl⟩
 ·rw[if_neg e]at h
  by_cases e2:pieceB (qbL x)=true
  ·rw[if_pos e2]at h;cases h;exact pieceB_iff.mp e2
  ·rw[if_neg e2]at h;cases h
theorem qdf{x:Str}{d:Nd}(ok:RowOk x)(h:qa8 x=some d):PartsOk d:=by
 unfold qa8 at h;cases ek:kindOf ((qaJ x).headD noName)with
 | none=>rw[ek]at h;cases h
 | some k =>
   rw[ek]at h
   dsimp only at h
   have hk:=(qdd ek).2
   split at h
   · cases h
   cases es:qaT k (qbK (qaJ x))with
   | none=>rw[es]at h;cases h
   | some st =>
     rw[es]at h
     cases h
     have ml:=markLabs_form (qbe (qaJ x))
     have lab:=ok.labs
     have rl:(qbK (qaJ x)).length<=500:=by
       have:=ok.ws.2
       unfold qbK
       rw[rW]
       omega
     have ll:qbW x<=100000:=by
       have h1:=ok.len
       have h2:qbW x<=x.cps.toList.length:=(List.takeWhile_prefix _).length_le
       rw[qbo]at h2
       omega
     refine⟨hk,⟨by show(0:Int)<=(qbW x:Nat);omega,by show((qbW x:Nat):Int)<=100000;omega⟩,nameLab_form _,⟨ml.1,by show(qbd _).length<=60;omega⟩,λhp=>?_,λhp=>?_⟩
     · unfold qaT at es
       by_cases kp:k=.picture
       · rw[kp]at hp;cases hp
       rw[if_neg kp]at es
       split at es
       · cases es
       · cases es
         refine⟨λt ht=>?_,qR (List.length_filterMap_le ..) rl⟩
         obtain⟨y,_,ey⟩:=uP.mp ht
         exact readPiece_pc ey
     · show Stuff k st
       unfold qaT at es
       by_cases kp:k=.picture
       · rw[if_pos kp]at es
         subst kp
         split at es
         · cases es;assumption
         · cases es
       rw[if_neg kp]at es
       split at es
       · cases es
       · rename_i z
         cases es
         have hs:qaE k=false:=by
           unfold qaE
           have hp:ofPieces k=false:=hp
           cases k<;>first | exact absurd rfl kp | rfl | cases hp
         rw[hs,wM,not_or]at z
         have z2:¬0<(qbK (qaJ x)).length:=by
           intro q
           exact z.2 (by rw[qB q];rfl)
         have e0:qbK (qaJ x)=[]:=rA (by omega)
         rw[e0]
         have hp:ofPieces k=false:=hp
         cases k<;>first | exact absurd rfl kp | rfl | cases hp
theorem qgI{ok:Nat->Bool}:∀{n:Nat},qd0 ok n≠0->ok (qd0 ok n)=true/\qd0 ok n<=n
 | 0,h=>absurd rfl h
 | n + 1, h => by
   cases e:ok (n+1)with
   | true=>rw[qdH e];exact⟨e,qG _⟩
   | false =>
     rw[qfu e]at h⊢
     obtain⟨a,b⟩:=qgI h
     exact⟨a,by omega⟩
theorem qdA{ds:List Nd}{k:Kd}{lv:Nat}(h:qa5 ds k lv≠0):1<=qa5 ds k lv/\qa5 ds k lv<=6/\qa5 ds k lv<=(upL ds).length/\(upL ds)[(upL ds).length-qa5 ds k lv]?=some (qbU ds (qa5 ds k lv))/\mayHold (qb0 ds (qbU ds (qa5 ds k lv))) k=true:=by
 have hh:qa5 ds k lv=qd0 (okLv ds k) (min (max lv 1) 6):=rfl;obtain⟨a,b⟩:=qgI (ok:=okLv ds k) (n:=min (max lv 1) 6) h;rw[<-hh]at a b;generalize qa5 ds k lv=t at *;unfold okLv at a;rw[rG,qY]at a;obtain⟨a1,a2⟩:=a;have lp:(qbv ds).length=(upL ds).length:=by unfold qbv;rw[vP]
 refine⟨by omega,by omega,by omega,?_,a2⟩;unfold qbU qbv;rw[xW,uU (by omega),show(upL ds).length-1-(t-1)=(upL ds).length-t by omega,qE (by omega)];rfl
theorem qca{α:Type}{l:List α}{n:Nat}{a:α}(h:l[n]?=some a):l.drop n=a::l.drop (n+1):=by
 obtain⟨hn,e⟩:=qD.mp h;rw[y7 hn,e]
theorem nodes_push{ds:List Nd}(ok:NodesOk ds)(ne:ds≠[])(l59:ds.length<=59){c:Nd}{t:Nat}(h1:1<=t)(ht:t<=(upL ds).length){j:Nat}(hj:(upL ds)[(upL ds).length-t]?=some j)(may:mayHold (qb0 ds j) c.k=true)(ce:c.e=(j:Int))(cf:Form c/\c.k∈kindsAll) :
  NodesOk (ds++[c])/\upL (ds++[c])=ds.length::(upL ds).drop ((upL ds).length-t):=by
 obtain⟨dn,hd⟩:=ok.down ne;have lt:(upL ds).length-t<(upL ds).length:=by omega
 have dj:=dn.drop lt;rw[qca hj]at dj;obtain⟨dd,ed⟩:=dn.mem j (qK hj);have jl:j<ds.length:=(qD.mp ed).1;have D:Down (ds++[c]) (ds.length::j::(upL ds).drop ((upL ds).length-t+1)):=⟨⟨c,by rw[rY (qG _)];simp,ce,jl⟩,dj.app [c]⟩;have ul:upL (ds++[c])=ds.length::(upL ds).drop ((upL ds).length-t):=by
  unfold upL;rw[qH,y4,Nat.add_sub_cancel];have:=D.len;rw[Down.is D (by omega)];rw[show qdU ds ds.length (ds.length-1)=upL ds from rfl,qca hj]
 have km:mayHold dd.k c.k=true:=by
  unfold qb0 at may;rw[ed]at may;exact may
 refine⟨⟨λd hd=>?_,λ_=>?_,by rw[qH];exact u9 l59,λn d h=>?_⟩,ul⟩
 ·rcases qW.mp hd with h | h
  ·exact ok.form d h
  ·have:d=c:=by simpa using h
   rw[this];exact cf
 ·rw[ul,qca hj];exact⟨D,by simp⟩
 ·by_cases hn:n<ds.length
  ·rw[rV hn]at h;rcases ok.hung n d h with z | ⟨a,i,c',e1,e2,e3,e4⟩
   ·exact .inl z
   ·exact .inr ⟨a,i,c',e1,e2,by rw[rV (by omega)];exact e3,e4⟩
  ·rw[rY (by omega)]at h;have hz:n-ds.length=0:=by
    have:=(qD.mp h).1;simp at this;omega
   rw[hz]at h;cases h;have g1:1<=ds.length:=by omega
   exact .inr ⟨by omega,j,dd,ce,by omega,by rw[rV jl];exact ed,km⟩
theorem up1(c:Nd)(h:c.e=-1):upL [c]=[0]:=by
 unfold upL;show qdU [c] 1 0=[0];rw[qdU];simp[h]
theorem qeC{c:Nd}(e:c.e=-1)(k:c.k=.body)(f:Form c):NodesOk [c]:=by
 refine⟨λd hd=>?_,λ_=>?_,by simp,λn d h=>?_⟩
 ·have:d=c:=by simpa using hd
  subst this;exact⟨f,by rw[k];decide⟩
 ·rw[up1 c e];exact⟨⟨c,rfl,e⟩,rfl⟩
 ·cases n with
  | zero=>cases h;exact .inl ⟨rfl,e,k⟩
  | succ n=>cases h
theorem nodes_nil:NodesOk []:=⟨(λd hd=>nomatch hd),(λh=>absurd rfl h),by decide,(λn d h=>by cases h)⟩
theorem nodes_body:NodesOk [bodyNd]:=qeC rfl rfl body_form
theorem qd7{ds:List Nd}(ok:NodesOk ds)(ne:ds≠[])(l59:ds.length<=59){d:Nd}(pd:PartsOk d):NodesOk (ds++(qas ds d).1)/\(qas ds d).1.length<=1:=by
 unfold qas
 split
 ·rw[rC];exact⟨ok,by decide⟩
 ·rename_i h;obtain⟨a1,_,a3,a4,a5⟩:=qdA h;exact⟨(nodes_push ok ne l59 a1 a3 a4 (c:=qa9 ds (qbU ds (qa5 ds d.k d.e.toNat)) d) a5 rfl (qf0 pd)).1,by show 1<=1;decide⟩
theorem qdK{d:Nd}(h:PartsOk d)(k:d.k=.body):PartsOk {d with k:=.case}:=by
 have st:=h.st (by rw[k];rfl);rw[k]at st;exact⟨by show Kd.case∈kindsAll;decide,h.e,h.nm,h.mks,(λz=>by cases z),λ_=>st⟩
theorem first_ok{d:Nd}(pd:PartsOk d):NodesOk (qa3 d).1/\(qa3 d).1.length<=2:=by
 unfold qa3
 split
 ·rename_i k;exact⟨qeC rfl k (qf0 pd).1,by show 1<=2;decide⟩
 ·obtain⟨a,b⟩:=qd7 nodes_body (by simp) (by decide) pd;exact⟨a,by show(qas [bodyNd] d).1.length+1<=2;omega⟩
theorem qhC{ds:List Nd}{x:Str}(ok:NodesOk ds)(rx:RowOk x):NodesOk (ds++(qaV ds x).1):=by
 unfold qaV;cases e:qa8 x with
 | none=>rw[rC];exact ok
 | some d =>
   have pd:=qdf rx e
   dsimp only
   split
   · rw[rC];exact ok
   · split
     · rename_i h
       subst h
       exact(first_ok pd).1
     · rename_i h1 h2
       split
       · rename_i k
         exact(qd7 ok h2 (by omega) (qdK pd k)).1
       · exact(qd7 ok h2 (by omega) pd).1
theorem qfT{rows:List Str}(h:∀x∈rows,RowOk x):∀i,NodesOk (rdTo rows i).1
 | 0=>nodes_nil
 | i + 1 => by
   rw[rdTo]
   cases e:rows[i]? with
   | none=>exact qfT h i
   | some x=>exact qhC (qfT h i) (h x (qK e))
theorem qfa{ds:List Nd}(ok:NodesOk ds):NodesOk (begun ds)/\begun ds≠[]:=by
 unfold begun
 split
 ·exact⟨nodes_body,by simp⟩
 ·rename_i h;exact⟨ok,h⟩
theorem qgD(sp:List Int):∀{i j:Nat},i<=j->qaQ sp i<=qaQ sp j
 | i, 0, h => by have : i = 0 := by omega
                 rw[this];exact qG _
 | i, j + 1, h => by
   by_cases e:i=j+1
   · rw[e];exact qG _
   · have:=qgD sp (i:=i) (j:=j) (by omega)
     rw[qaQ]
     split<;>omega
theorem qdZ{sp:List Int}{j n:Nat}(h:(j:Int)∉sp)(lt:j<n):qaQ sp j<qaQ sp n:=by
 have h1:=qgD sp (i:=j+1) (j:=n) lt;rw[qaQ,if_neg h]at h1;omega
theorem qc1{ds:List Nd}:(qao ds).length=qaQ (qav ds) ds.length:=by
 unfold qao;rw[qds _ _ (qG _),qb4]
theorem qgo(ds:List Nd):(qao ds).length<=ds.length:=by rw[qc1];exact qfb ..
theorem qg2{ds:List Nd}{c:Nd}(h:c∈qao ds):∃(n:Nat) (d:Nd),ds[n]?=some d/\(n:Int)∉qav ds/\c={noted ds n d with e:=qbr (qav ds) d.e}:=by
 unfold qao qcL at h;obtain⟨n,d',hn,ed,hc⟩:=qcZ h;rw[qb4]at hn;rw[qcW hn]at ed;cases e:ds[n]? with
 | none=>rw[e]at ed;cases ed
 | some d =>
   rw[e]at ed
   cases ed
   refine⟨n,d,e,?_⟩
   by_cases hs:(n:Int)∈qav ds
   · rw[if_pos hs]at hc;cases hc
   · rw[if_neg hs]at hc
     refine⟨hs,?_⟩
     have:c={noted ds n d with e:=qbr (qav ds) (noted ds n d).e}:=by simpa using hc
     rw[this,(qbM ds n d).1]
theorem mend_as{ds:List Nd}(ok:NodesOk ds):AsOk (qao ds):=by
 intro c hc hk;obtain⟨n,d,ed,hs,rfl⟩:=qg2 hc;have hk:(noted ds n d).k=.aside:=hk;rw[(qbM ds n d).2.1]at hk;have ln:n<ds.length:=(qD.mp ed).1;rcases ok.hung n d ed with⟨_,_,z⟩ | ⟨_,j,c',e1,lt,ec',m⟩
 ·rw[z]at hk;cases hk
 ·have nj:(j:Int)∉qav ds:=λhj=>by
   obtain⟨j',d',e2,ed',kd⟩:=qcX ok hj;have:j=j':=by omega
   subst this;rw[ec']at ed';cases ed';rw[kd]at m;cases e:d.k<;>rw[e]at m<;>cases m
  have e3:qbr (qav ds) d.e=(qaQ (qav ds) j:Nat):=by
   unfold qbr;rw[e1,if_neg (by omega),rM]
  show 0<=qbr (qav ds) d.e/\qbr (qav ds) d.e<_;rw[e3,qc1];have:=qdZ nj (show j<ds.length by omega);omega
theorem qhz{ds:List Nd}(ok:NodesOk ds)(ne:ds≠[]):1<=(qao ds).length:=by
 rw[qc1];have l:0<ds.length:=by cases ds with | nil=>exact absurd rfl ne | cons=>simp
 have n0:((0:Nat):Int)∉qav ds:=λh=>by
  obtain⟨j,d,e,ed,k⟩:=qcX ok h;have:j=0:=by omega
  subst this;rcases ok.hung 0 d ed with⟨_,_,z⟩ | ⟨z,_⟩
  ·rw[z]at k;cases k
  ·exact absurd z (by decide)
 have:=qdZ n0 l;omega
theorem qbS(ds:List Nd):(qaB ds).length=ds.length:=qci (qG _)
theorem thgD_inj:∀{x y:Sum Str Int},thgD x=thgD y->x=y
 | .inl a,.inl b,h=>by injection h with h;rw[h]
 | .inl a,.inr b,h=>nomatch h
 | .inr a,.inl b,h=>nomatch h
 | .inr a,.inr b,h=>by injection h with h;rw[h]
theorem thD_inj:∀x y:Th,thD x=thD y->x=y
 | .int a,.int b,h=>by injection h with h;rw[h]
 | .int a,.tri _ _ _,h=>nomatch h
 | .tri _ _ _,.int b,h=>nomatch h
 | .tri s x t, .tri s' x' t', h => by
   injection h with h
   injection h with h1 h
   injection h with h2 h
   injection h with h3 _
   injection h1 with h1
   injection h3 with h3
   rw[(So.inj s s').mp h1,thgD_inj h2,h3]
theorem qiv{l:List Th}(h:∀x∈l,PcOk x):PySem.W.kqdOk 9 (.list (l.map thD))=true:=by
 simp only[PySem.W.kqdOk,List.all_eq_true,List.mem_map];rintro x ⟨t,ht,rfl⟩;exact pc_ok8 (h t ht)
theorem BookAt.same{N:Addr->Prop}{H H':Hp}{p:Addr}{ds:List Nd}(h:BookAt N H p ds)(s:Same H H'):BookAt N H' p ds:=by
 obtain⟨as,e,q⟩:=h;exact⟨as,s _ _ e,q.keep s.keep λ_ n _=>n⟩
theorem qf1(p:Prop)(x:Str):(wd p x).length<=1:=by unfold wd;split<;>simp
theorem qez(d:Nd)(lv:Nat):(qa2 d lv).length<=1:=qf1 _ _
theorem qeD(ds:List Nd)(d:Nd):(qaO ds d).length<=4:=by
 unfold qaO;rw[qH,qH,qH];have h1:=qf1 (qaP ds d.nm≠d.nm) (T "name");have h2:=qf1 (qaL d.mks≠d.mks) (T "marks");have h3:=qf1 (ofPieces d.k=true/\qaq d.k d.st≠d.st) (T "pieces");have h4:=qf1 (ofPieces d.k=true/\qaq d.k d.st=[]) (T "bare");omega
theorem qb5(ds:List Nd)(d:Nd):(qas ds d).2.length<=5:=by
 unfold qas
 split
 ·show 1<=5;decide
 ·show(qa2 d _++qaO ds d).length<=5;rw[qH];have:=qez d (qa5 ds d.k d.e.toNat);have:=qeD ds d;omega
theorem BookAt.put{N:Addr->Prop}{H:Hp}{p W:Addr}{ds:List Nd}{o:HO}(h:BookAt (Nw N W) H p ds)(ne:p≠W):BookAt (Nw N W) (upd H W o) p ds:=by
 obtain⟨as,e,q⟩:=h;exact⟨as,by rw[qax ne];exact e,q.keep keep_nw λ_ n _=>n⟩
theorem qdp(ds:List Nd)(x:Str):(qaV ds x).2.length<=7:=by
 unfold qaV;cases qa8 x with
 | none=>show 1<=7;decide
 | some d =>
   dsimp only
   split
   · show 1<=7;decide
   · split
     · unfold qa3
       split
       · show(qa2 d 0++qaO [] d).length<=7
         rw[qH]
         have h1:(qa2 d 0).length<=1:=by unfold qa2 wd;split<;>simp
         have h2:(qaO [] d).length<=4:=by
           unfold qaO
           rw[qH,qH,qH]
           have w:∀(p:Prop) (x:Str),(wd p x).length<=1:=λp x=>by unfold wd;split<;>simp
           have h1:=w (qaP [] d.nm≠d.nm) (T "name")
           have h2:=w (qaL d.mks≠d.mks) (T "marks")
           have h3:=w (ofPieces d.k=true/\qaq d.k d.st≠d.st) (T "pieces")
           have h4:=w (ofPieces d.k=true/\qaq d.k d.st=[]) (T "bare")
           omega
         omega
       · show(qas [bodyNd] d).2.length+1<=7
         have:=qb5 [bodyNd] d
         omega
     · split
       · show(qas ds _).2.length+1<=7
         have:=qb5 ds {d with k:=.case}
         omega
       · have:=qb5 ds d
         omega
theorem qgv{rows:List Str}{i:Nat}{x:Str}(h:rows[i]?=some x):rdTo rows (i+1)=((rdTo rows i).1++(qaV (rdTo rows i).1 x).1,(rdTo rows i).2++(qaV (rdTo rows i).1 x).2.map λy=>((i:Int),y)):=by rw[rdTo,h]
theorem qft(rows:List Str):∀i,(rdTo rows i).2.length<=7*i
 | 0=>r8 _
 | i + 1 => by
   have h:=qft rows i
   cases e:rows[i]? with
   | none =>
     rw[rdTo,e]
     show(rdTo rows i).2.length<=_
     omega
   | some x =>
     rw[qgv e]
     show((rdTo rows i).2++(qaV (rdTo rows i).1 x).2.map λy=>((i:Int),y)).length<=_
     rw[qH,qA]
     have:=qdp (rdTo rows i).1 x
     omega
theorem qdF{p:Prop}{x:Str}(h:p):wd p x=[x]:=if_pos h
theorem qcK{p:Prop}{x:Str}(h:¬p):wd p x=[]:=if_neg h
theorem endWords_le{ds:List Nd}(ok:NodesOk ds):(qbm ds).length<=122:=by
 obtain⟨okb,_⟩:=qfa ok;have le:=okb.le;have lm:=qgo (begun ds);unfold qbm;rw[qH,qH,qH];have h1:=qf1 (ds=[]) (T "body");have h2:=qf1 (kids (qaB (qao (begun ds))) 0=[]) (T "bare");have h3:=qcj (ds:=begun ds) (f:=λi d=>if qbI (begun ds) i d then[T "notes"]else[]) (B:=1) (λi d=>by split<;>simp) (begun ds).length;have h4:=qcj (ds:=qao (begun ds)) (f:=λi d=>if qar (qao (begun ds)) i d then[T "case"]else[]) (B:=1) (λi d=>by split<;>simp) (qao (begun ds)).length;omega
theorem pieces_mem(k:Kd):decide (k∈[Kd.text,.head,.note])=ofPieces k:=by cases k<;>rfl
def spLevelWords:Sp:=λvs H Q _=>∃(a:Addr) (d:Nd) (lv:Nat) (N:Addr->Prop),vs=[.ref a,.int lv]/\NdAt N H a d/\∀m H',H m=none->Same H H'->H' m=some (.lst ((qa2 d lv).map V.str))->Q (.ref m) H'
def spMadeNode:Sp:=λvs H Q _=>∃(p a:Addr) (e:Int) (d:Nd) (ds:List Nd) (N:Addr->Prop),vs=[.ref p,.int e,.ref a]/\BookAt N H p ds/\ds.length<=60/\NdAt N H a d/\PartsOk d/\Up0 N H/\∀t H',Same H H'->qgc N H' t ([qa9 ds e d],qaO ds d)->Q (.ref t) H'
def spLater:Sp:=λvs H Q _=>∃(p a:Addr) (d:Nd) (ds:List Nd) (N:Addr->Prop),vs=[.ref p,.ref a]/\BookAt N H p ds/\NodesOk ds/\ds≠[]/\NdAt N H a d/\PartsOk d/\Up0 N H/\∀t H',Same H H'->qgc N H' t (qas ds d)->Q (.ref t) H'
def spFirst:Sp:=λvs H Q _=>∃(a:Addr) (d:Nd) (N:Addr->Prop),vs=[.ref a]/\NdAt N H a d/\PartsOk d/\Up0 N H/\∀t H',Same H H'->qgc N H' t (qa3 d)->Q (.ref t) H'
def spReadRow:Sp:=λvs H Q _=>∃(p:Addr) (x:Str) (ds:List Nd) (N:Addr->Prop),vs=[.ref p,.str x]/\BookAt N H p ds/\NodesOk ds/\RowOk x/\Up0 N H/\∀t H',Same H H'->qgc N H' t (qaV ds x)->Q (.ref t) H'
def spFinished:Sp:=λvs H Q _=>∃(p:Addr) (ds:List Nd) (N:Addr->Prop),vs=[.ref p]/\BookAt N H p ds/\NodesOk ds/\Up0 N H/\∀t H',Same H H'->qgc N H' t (qcd ds,qbm ds)->Q (.ref t) H'
def MdAt(N:Addr->Prop)(H:Hp)(v:V)(p:Int×Str):Prop:=∃a,v=.ref a/\N a/\H a=some (.tup [.int p.1,.str p.2])
def qde(N:Addr->Prop)(H:Hp)(m:Addr)(ms:List (Int×Str)):Prop:=∃vs,H m=some (.lst vs)/\Paired (MdAt N H) vs ms
theorem MdAt.keep{N N':Addr->Prop}{H H':Hp}{v:V}{p:Int×Str}(h:MdAt N H v p)(k:KeepN N H H')(sub:∀b,N b->(H b).isSome=true->N' b):MdAt N' H' v p:=by
 obtain⟨a,e,n,g⟩:=h;exact⟨a,e,sub a n (by rw[g];rfl),k _ _ n g⟩
def spReadBook:Sp:=λvs H Q _=>∃(p:Addr) (rows:List Str),vs=[.ref p]/\H p=some (.lst (rows.map V.str))/\rows.length<=200/\(∀x∈rows,RowOk x) /\
 ∀t b m H',Same H H'->H t=none->H' t=some (.tup [.ref b,.ref m])->H b=none->BookAt (qbP H) H' b (qcM rows).1->H m=none->qde (qbP H) H' m (qcM rows).2->b≠m->Q (.ref t) H'
end Gen
namespace K10
open PySem L2 Bk Gen
abbrev sLevelWords:Stmt:=top 85
abbrev sMadeNode:Stmt:=top 86
abbrev sLater:Stmt:=top 84
abbrev sFirst:Stmt:=top 83
abbrev sReadRow:Stmt:=top 82
section
variable{P:Program}{w:World}{K:W.Frag}{mg:Str->Option Value}{base:Heap}
theorem scLevelWords:FnScope ["parts", "level"] ["parts", "level"] (qaf sLevelWords):=⟨rfl,rfl,rfl,by ac_rfl,rfl,by ac_rfl,by ac_rfl⟩
theorem ok_level_words{f:Addr}{fd:FuncData}(F:Fun K "level_words" "level_words" sLevelWords f fd)(gl:∃t,mg "LEVEL" = some (.int 0 t)):FnOk P w K mg base CX0 1 f fd ["parts", "level"] spLevelWords:=by
 refine F.ok scLevelWords (λvs H Q E h=>?_) (λcdv A outer s H vs Q E hr h=>?_)
 ·obtain⟨a,d,lv,N,rfl,_⟩:=h;rfl
 ·obtain⟨a,d,lv,N,rfl,na,q⟩:=h;obtain⟨_,g_LEVEL⟩:=gl;obtain⟨m',s',ha,_⟩:=na.ex;refine⟨_,(qad (qai (qch (qak op_ne (pv 1) (qan ix_tup (pv 0) (qae (v:=.int 0) (by rfl) g_LEVEL ⟨_,rfl⟩) (λ_ _=>rfl)) (qap _)) (qaR (qaa qah pa_nil)) (qaR pa_nil)))),?_⟩;refine⟨_,rfl,_,rfl,a,_,_,_,rfl,rfl,SqT.of ha,rfl,rfl,_,rfl,?_⟩;unfold qa2 at q
  by_cases h:(lv:Int)=d.e
  ·rw[qB (by rw[h]:V.int (lv:Nat)=V.int d.e)];rw[qcK (λz=>z h)]at q;exact iteF ⟨by show 0<=sizeLine;decide,λm hm=>q m _ hm (qac hm _) upd_same⟩
  ·rw[qC (λz=>h (V.int.inj z):¬V.int (lv:Nat)=V.int d.e)];rw[qdF h]at q;exact iteT ⟨by show 1<=sizeLine;decide,λm hm=>q m _ hm (qac hm _) upd_same⟩
theorem scMadeNode:FnScope ["nodes", "elder", "parts", "words", "name", "marks", "stuff"] ["nodes", "elder", "parts"] (qaf sMadeNode):=⟨rfl,rfl,rfl,by ac_rfl,rfl,by ac_rfl,by ac_rfl⟩
theorem ok_made_node{f a_KINDS_OF_PIECES:Addr}{fd:FuncData}(F:Fun K "made_node" "made_node" sMadeNode f fd)(T:Bn mg)(NU:Nums mg)(g_KINDS_OF_PIECES:mg "KINDS_OF_PIECES" = some (.ref a_KINDS_OF_PIECES))(KP:KTup K a_KINDS_OF_PIECES [.text,.head,.note])(F_mended_name:Fx P w K mg base CX0 1 "mended_name" ["nodes", "name"] spMendName)(F_mended_marks:Fx P w K mg base CX0 1 "mended_marks" ["marks"] spMendMarks)(F_mended_pieces:Fx P w K mg base CX0 2 "mended_pieces" ["kind", "stuff"] spMendPieces)(F_bare_stuff:Fx P w K mg base CX0 1 "bare_stuff" [] spBareStuff):FnOk P w K mg base CX0 3 f fd ["nodes", "elder", "parts"] spMadeNode:=by
 refine F.ok scMadeNode (λvs H Q E h=>?_) (λcdv A outer s H vs Q E hr h=>?_)
 ·obtain⟨p,a,e,d,ds,N,rfl,_⟩:=h;rfl
 ·obtain⟨p,a,e,d,ds,N,rfl,B,le,na,pd,up,q⟩:=h;obtain⟨_,g_KIND⟩:=NU.kind;obtain⟨_,g_NAME⟩:=NU.name;obtain⟨_,g_MARKS⟩:=NU.marks;obtain⟨_,g_STUFF⟩:=NU.stuff;have hr_mended_name:Room 1 _:=hr.mono (by decide);have hr_mended_marks:Room 1 _:=hr.mono (by decide);have hr_bare_stuff:Room 1 _:=hr.mono (by decide);have hr_mended_pieces:=hr;have hu:=hr.units;obtain⟨m',s',ha,nm',hm',st'⟩:=na.ex;refine⟨_,(qab (qau (i:=3) scMadeNode.nd (by rfl) (by trivial) (qaR pa_nil))
   (qab (qau (i:=4) scMadeNode.nd (by rfl) (by trivial) (qat F_mended_name hr_mended_name (by rfl) qay (qaa (pv 0) (qaa (qan ix_tup (pv 2) (qae (v:=.int 2) (by rfl) g_NAME ⟨_,rfl⟩) (λ_ _=>rfl)) pa_nil))))
   (qab (qaH (qak op_ne (pv 4) (qan ix_tup (pv 2) (qae (v:=.int 2) (by rfl) g_NAME ⟨_,rfl⟩) (λ_ _=>rfl)) (qap _)) (qad (qaS (qbp qS rE rF mt_append (pv 3) (qaa qah pa_nil)))) pss_nil)
   (qab (qau (i:=5) scMadeNode.nd (by rfl) (by trivial) (qat F_mended_marks hr_mended_marks (by rfl) qay (qaa (qan ix_tup (pv 2) (qae (v:=.int 3) (by rfl) g_MARKS ⟨_,rfl⟩) (λ_ _=>rfl)) pa_nil)))
   (qab (qaH (qak (qfL hu) (pv 5) (qan ix_tup (pv 2) (qae (v:=.int 3) (by rfl) g_MARKS ⟨_,rfl⟩) (λ_ _=>rfl)) (qap _)) (qad (qaS (qbp qS rE rF mt_append (pv 3) (qaa qah pa_nil)))) pss_nil)
   (qab (qau (i:=6) scMadeNode.nd (by rfl) (by trivial) (qan ix_tup (pv 2) (qae (v:=.int 4) (by rfl) g_STUFF ⟨_,rfl⟩) (λ_ _=>rfl)))
   (qab (qaH (qak op_in_seq (qan ix_tup (pv 2) (qae (v:=.int 1) (by rfl) g_KIND ⟨_,rfl⟩) (λ_ _=>rfl)) (qae (v:=.ref a_KINDS_OF_PIECES) (by rfl) g_KINDS_OF_PIECES rfl) (by with_unfolding_all rfl)) (qab (qau (i:=6) scMadeNode.nd (by rfl) (by trivial) (qat F_mended_pieces hr_mended_pieces (by rfl) qay (qaa (qan ix_tup (pv 2) (qae (v:=.int 1) (by rfl) g_KIND ⟨_,rfl⟩) (λ_ _=>rfl)) (qaa (qan ix_tup (pv 2) (qae (v:=.int 4) (by rfl) g_STUFF ⟨_,rfl⟩) (λ_ _=>rfl)) pa_nil))))
   (qab (qaH (qak (qfL hu) (pv 6) (qan ix_tup (pv 2) (qae (v:=.int 4) (by rfl) g_STUFF ⟨_,rfl⟩) (λ_ _=>rfl)) (qap _)) (qad (qaS (qbp qS rE rF mt_append (pv 3) (qaa qah pa_nil)))) pss_nil)
   (qad (qaH (qak op_eq (qal call_len_seq (by rfl) T.len b_len (qaa (pv 6) pa_nil)) qag (qap _)) (qab (qau (i:=6) scMadeNode.nd (by rfl) (by trivial) (qfy F_bare_stuff hr_bare_stuff (by rfl) qay))
   (qad (qaS (qbp qS rE rF mt_append (pv 3) (qaa qah pa_nil))))) pss_nil)))) pss_nil)
   (qad (qai (qbc (qaa (qaR (qaa (qbc (qaa (pv 1) (qaa (qan ix_tup (pv 2) (qae (v:=.int 1) (by rfl) g_KIND ⟨_,rfl⟩) (λ_ _=>rfl)) (qaa (pv 4) (qaa (pv 5) (qaa (pv 6) pa_nil)))))) pa_nil)) (qaa (pv 3) pa_nil)))))))))))),?_⟩
  refine⟨by show 0<=sizeLine;decide,λW hW=>?_⟩;have s1:=qac hW (.lst []);refine⟨_,rfl,_,rfl,a,_,_,_,rfl,rfl,SqT.of (s1 _ _ ha),rfl,p,ds,d.nm,N,rfl,BookAt.same B s1,by omega,λH2 k2=>?_⟩;have s2:=s1.trans k2;have hW2:H2 W=some (.lst ([]:List V)):=k2 _ _ upd_same;dsimp only[qcq];refine qa0 (λσ' H'=>σ'=[some (.ref p),some (.int e),some (.ref a),some (.ref W),some (.str (qaP ds d.nm)),none,none]/\Same H H'/\H' W=some (.lst ((wd (qaP ds d.nm≠d.nm) (Str.ofString "name")).map V.str))) (λD' kk=>?_) ?_
  ·refine⟨_,rfl,_,rfl,a,_,_,_,rfl,rfl,SqT.of (s2 _ _ ha),rfl,rfl,_,rfl,?_⟩
   by_cases h:qaP ds d.nm=d.nm
   ·rw[qB (by rw[h]:V.str (qaP ds d.nm)=V.str d.nm)];exact iteF (kk _ _ ⟨rfl,s2,by rw[qcK (λz=>z h)];exact hW2⟩)
   ·rw[qC (λz=>h (V.str.inj z):¬V.str (qaP ds d.nm)=V.str d.nm)];exact iteT ⟨_,rfl,.inl ⟨rfl,_,SqL.of hW2⟩,W,_,_,rfl,rfl,hW2,by decide,kk _ _ ⟨rfl,qaD s2 hW,by rw[qdF h,upd_same];rfl⟩⟩
  rintro _ H3 ⟨rfl,s3,hW3⟩;have l3:(wd (qaP ds d.nm≠d.nm) (Str.ofString "name")).length<=1:=by unfold wd;split<;>simp
  generalize e3:wd (qaP ds d.nm≠d.nm) (Str.ofString "name")=w1 at hW3 l3;refine⟨_,rfl,a,_,_,_,rfl,rfl,SqT.of (s3 _ _ ha),rfl,m',d.mks,rfl,s3 _ _ hm',pd.mks.2,λl H4 hl k4 el mo=>?_⟩;have s4:=s3.trans k4;have hW4:=k4 _ _ hW3;have hl0:H l=none:=s3.none hl;have neW:l≠W:=(qam hW3 hl).symm;have mf:=qeT pd.mks.1;dsimp only[qcq];refine qa0 (λσ' H'=>σ'=[some (.ref p),some (.int e),some (.ref a),some (.ref W),some (.str (qaP ds d.nm)),some (.ref l),none]/\Same H H'/\H' W=some (.lst ((w1++wd (qaL d.mks≠d.mks) (Str.ofString "marks")).map V.str))/\H' l=some (.lst ((qaL d.mks).map V.str))) (λD' kk=>?_) ?_
  ·refine⟨_,rfl,_,rfl,a,_,_,_,rfl,rfl,SqT.of (s4 _ _ ha),rfl,_,_,.lst el (qg9 _),.lst (s4 _ _ hm') (qg9 _),strs_ok mf.2.1,strs_ok pd.mks.1,λee=>⟨_,rfl,?_⟩,λee=>⟨_,rfl,?_⟩⟩
   ·injection ee with ee
    have ee:qaL d.mks=d.mks:=qdN (λa b h=>by injection h) ee;exact iteF (kk _ _ ⟨rfl,s4,by rw[qcK (λz=>z ee),rC];exact hW4,el⟩)
   ·have ne:qaL d.mks≠d.mks:=λz=>ee (by rw[z])
    exact iteT ⟨_,rfl,.inl ⟨rfl,_,SqL.of hW4⟩,W,_,_,rfl,rfl,hW4,qbz (by rw[qA];omega),kk _ _ ⟨rfl,qaD s4 hW,by rw[qdF ne,upd_same,qM];rfl,by rw[qax neW];exact el⟩⟩
  rintro _ H5 ⟨rfl,s5,hW5,el5⟩;have l5:(w1++wd (qaL d.mks≠d.mks) (Str.ofString "marks")).length<=2:=by
   rw[qH];have:(wd (qaL d.mks≠d.mks) (Str.ofString "marks")).length<=1:=by unfold wd;split<;>simp
   omega
  generalize e5:w1++wd (qaL d.mks≠d.mks) (Str.ofString "marks")=w2 at hW5 l5;refine⟨_,rfl,a,_,_,_,rfl,rfl,SqT.of (s5 _ _ ha),rfl,?_⟩;dsimp only[qcq];have oldW:∀b,N b->(H b).isSome=true->Nw N W b:=qdX hW;refine qa0 (λσ' H'=>∃sx,σ'=[some (.ref p),some (.int e),some (.ref a),some (.ref W),some (.str (qaP ds d.nm)),some (.ref l),some (.ref sx)]/\Same H H'/\H' W=some (.lst ((w2++wd (ofPieces d.k=true/\qaq d.k d.st≠d.st) (Str.ofString "pieces")++wd (ofPieces d.k=true/\qaq d.k d.st=[]) (Str.ofString "bare")).map V.str))/\H' l=some (.lst ((qaL d.mks).map V.str))/\StAt N H' sx (qdh d.k d.st)) (λD' kk=>?_) ?_
  ·refine⟨_,rfl,a,_,_,_,rfl,rfl,SqT.of (s5 _ _ ha),rfl,a_KINDS_OF_PIECES,_,rfl,.inr (KP H5),rfl,qby _,_,rfl,?_⟩;rw[if_neg qL,qbT,pieces_mem];cases eo:ofPieces d.k with
   | false =>
     refine iteF (kk _ _ ⟨s',rfl,s5,?_,el5,?_⟩)
     · rw[qcK (λz=>by rw[eo]at z;exact absurd z.1 (by decide)),qcK (λz=>by rw[eo]at z;exact absurd z.1 (by decide)),rC,rC]
       exact hW5
     · unfold qdh
       rw[eo]
       exact st'.keep s5.keep λ_ n _=>n
   | true =>
     have pc:=pd.pc eo
     refine iteT ⟨_,rfl,a,_,_,_,rfl,rfl,SqT.of (s5 _ _ ha),rfl,_,rfl,a,_,_,_,rfl,rfl,SqT.of (s5 _ _ ha),rfl,d.k,s',d.st,N,rfl,st'.keep s5.keep (λ_ n _=>n),up.same s5,pc.1,pc.2,λs6 H6 hs6 k6 st6=>?_⟩
     have s06:=s5.trans k6
     have hW6:=k6 _ _ hW5
     have el6:=k6 _ _ el5
     have ne6:s6≠W:=(qam hW5 hs6).symm
     dsimp only[qcq]
     refine qa0 (λσ' H'=>σ'=[some (.ref p),some (.int e),some (.ref a),some (.ref W),some (.str (qaP ds d.nm)),some (.ref l),some (.ref s6)]/\Same H H'/\H' W=some (.lst ((w2++wd (ofPieces d.k=true/\qaq d.k d.st≠d.st) (Str.ofString "pieces")).map V.str))/\H' l=some (.lst ((qaL d.mks).map V.str))/\StAt N H' s6 (qaq d.k d.st)) (λD2 k2=>?_) ?_
     · obtain⟨n6,vs6,hs6',pa6⟩:=st6
       obtain⟨ns',vs',hs',pa'⟩:=st'.keep s06.keep (λ_ n _=>n)
       refine⟨_,rfl,_,rfl,a,_,_,_,rfl,rfl,SqT.of (s06 _ _ ha),rfl,_,_,.lst hs6' (qh5 pa6),.lst hs' (qh5 pa'),qiv (qg6 pc.1),qiv pc.1,λee=>⟨_,rfl,?_⟩,λee=>⟨_,rfl,?_⟩⟩
       · injection ee with ee
         have ee:qaq d.k d.st=d.st:=qdN thD_inj ee
         exact iteF (k2 _ _ ⟨rfl,s06,by rw[qcK (λz=>z.2 ee),rC];exact hW6,el6,n6,vs6,hs6',pa6⟩)
       · have ne:qaq d.k d.st≠d.st:=λz=>ee (by rw[z])
         refine iteT ⟨_,rfl,.inl ⟨rfl,_,SqL.of hW6⟩,W,_,_,rfl,rfl,hW6,qbz (by rw[qA];omega),k2 _ _ ⟨rfl,qaD s06 hW,by rw[qdF ⟨eo,ne⟩,upd_same,qM];rfl,by rw[qax neW];exact el6,n6,vs6,by rw[qax ne6];exact hs6',?_⟩⟩
         refine pa6.mono λv x h=>?_
         cases x with
         | int n=>exact h
         | tri so y n =>
           obtain⟨b,eb,nb,hb⟩:=h
           exact⟨b,eb,nb,by rw[qax (qhc hb hW6 (by intro z;cases z))];exact hb⟩
     rintro _ H7 ⟨rfl,s7,hW7,el7,n7,vs7,hs7,pa7⟩
     have l7:(w2++wd (ofPieces d.k=true/\qaq d.k d.st≠d.st) (Str.ofString "pieces")).length<=3:=by
       rw[qH]
       have:(wd (ofPieces d.k=true/\qaq d.k d.st≠d.st) (Str.ofString "pieces")).length<=1:=by unfold wd;split<;>simp
       omega
     generalize w2++wd (ofPieces d.k=true/\qaq d.k d.st≠d.st) (Str.ofString "pieces")=w3 at hW7 l7 kk
     have lp:vs7.length=(qaq d.k d.st).length:=pa7.length
     refine⟨_,rfl,s6,_,rfl,.inl (SqL.of hs7),rfl,_,rfl,?_⟩
     by_cases he:qaq d.k d.st=[]
     · rw[qB (by rw[lp,he];rfl:V.int (vs7.length:Nat)=V.int 0)]
       refine iteT ⟨rfl,λsb H8 k8 stb=>?_⟩
       have s8:=s7.trans k8
       have hW8:=k8 _ _ hW7
       have el8:=k8 _ _ el7
       refine⟨_,rfl,.inl ⟨rfl,_,SqL.of hW8⟩,W,_,_,rfl,rfl,hW8,qbz (by rw[qA];omega),kk _ _ ⟨sb,rfl,qaD s8 hW,by rw[qdF ⟨eo,he⟩,upd_same,qM];rfl,by rw[qax neW];exact el8,?_⟩⟩
       unfold qdh
       rw[if_pos eo,if_pos he]
       refine stb.keep (N':=N) (λb o n eb=>by rw[qax];exact eb;rintro rfl;have n:H7 b=none:=n;rw[hW7]at n;cases n) λb n _=>up b (s7.none n)
     · rw[qC (λz=>he (rA (by have:=V.int.inj z;omega)):¬V.int (vs7.length:Nat)=V.int 0)]
       refine iteF (kk _ _ ⟨s6,rfl,s7,by rw[qcK (λz=>he z.2),rC];exact hW7,el7,?_⟩)
       unfold qdh
       rw[if_pos eo,if_neg he]
       exact⟨n7,vs7,hs7,pa7⟩
  rintro _ H9 ⟨sx,rfl,s9,hW9,el9,st9⟩;refine⟨_,rfl,_,rfl,a,_,_,_,rfl,rfl,SqT.of (s9 _ _ ha),rfl,_,rfl,_,rfl,_,rfl,(by show 5<=sizeLine;decide),λu hu=>⟨by show 1<=sizeLine;decide,λL hL=>⟨_,rfl,by show 2<=sizeLine;decide,λt ht=>?_⟩⟩⟩;have k10:=qac hu (.tup [.int e,.str d.k.s,.str (qaP ds d.nm),.ref l,.ref sx]);have k11:=qac hL (.lst [.ref u]);have k12:=qac ht (.tup [.ref L,.ref W]);have k:=(k10.trans k11).trans k12;refine q t _ (s9.trans k) ⟨L,W,upd_same,up L (s9.none (k10.none hL)),⟨[u],k12 _ _ upd_same,.cons ?_ .nil⟩,up W hW,?_⟩
  ·exact⟨up u (s9.none hu),l,sx,(k11.trans k12) _ _ upd_same,up l hl0,k _ _ el9,st9.keep k.keep λ_ n _=>n⟩
  ·rw[k _ _ hW9];unfold qaO;rw[<-e5,<-e3]
theorem scLater:FnScope ["nodes", "parts", "level", "told"] ["nodes", "parts"] (qaf sLater):=⟨rfl,rfl,rfl,by ac_rfl,rfl,by ac_rfl,by ac_rfl⟩
theorem ok_later_nodes{f:Addr}{fd:FuncData}(F:Fun K "later_nodes" "later_nodes" sLater f fd)(NU:Nums mg)(gl:∃t,mg "LEVEL" = some (.int 0 t))(F_mended_level:Fx P w K mg base CX0 3 "mended_level" ["nodes", "level", "kind"] spMendLv)(F_open_nodes:Fx P w K mg base CX0 2 "open_nodes" ["nodes"] spOpen)(F_made_node:Fx P w K mg base CX0 3 "made_node" ["nodes", "elder", "parts"] spMadeNode)(F_level_words:Fx P w K mg base CX0 1 "level_words" ["parts", "level"] spLevelWords):FnOk P w K mg base CX0 4 f fd ["nodes", "parts"] spLater:=by
 refine F.ok scLater (λvs H Q E h=>?_) (λcdv A outer s H vs Q E hr h=>?_)
 ·obtain⟨p,a,d,ds,N,rfl,_⟩:=h;rfl
 ·obtain⟨p,a,d,ds,N,rfl,B,ok,ne,na,pd,up,q⟩:=h;obtain⟨_,g_LEVEL⟩:=gl;obtain⟨_,g_KIND⟩:=NU.kind;have hr_mended_level:=hr;have hr_made_node:=hr;have hr_open_nodes:Room 2 _:=hr.mono (by decide);have hr_level_words:Room 1 _:=hr.mono (by decide);obtain⟨m',s',ha,_⟩:=na.ex;have ee:d.e=((d.e.toNat:Nat):Int):=by have:=pd.e.1;omega
  have el:d.e.toNat<=100000:=by have:=pd.e.2;omega
  have le:=ok.le;refine⟨_,(qab (qau (i:=2) scLater.nd (by rfl) (by trivial) (qat F_mended_level hr_mended_level (by rfl) qay (qaa (pv 0) (qaa (qan ix_tup (pv 1) (qae (v:=.int 0) (by rfl) g_LEVEL ⟨_,rfl⟩) (λ_ _=>rfl)) (qaa (qan ix_tup (pv 1) (qae (v:=.int 1) (by rfl) g_KIND ⟨_,rfl⟩) (λ_ _=>rfl)) pa_nil)))))
   (qab (qaH (qak op_eq (pv 2) qag (qap _)) (qad (qai (qbc (qaa (qaR pa_nil) (qaa (qaR (qaa qah pa_nil)) pa_nil))))) pss_nil)
   (qab (qau (i:=3) scLater.nd (by rfl) (by trivial) (qat F_made_node hr_made_node (by rfl) qay (qaa (pv 0) (qaa (qan ix_list (qat F_open_nodes hr_open_nodes (by rfl) qay (qaa (pv 0) pa_nil)) (qaM op_sub (pv 2) qag) (λ_ _=>rfl)) (qaa (pv 1) pa_nil)))))
   (qad (qai (qbc (qaa (qan ix_tup (pv 3) qag (λ_ _=>rfl)) (qaa (qaM op_cat (qat F_level_words hr_level_words (by rfl) qay (qaa (pv 1) (qaa (pv 2) pa_nil))) (qan ix_tup (pv 3) qag (λ_ _=>rfl))) pa_nil)))))))),?_⟩
  refine⟨_,rfl,_,rfl,a,_,_,_,rfl,rfl,SqT.of ha,rfl,_,rfl,a,_,_,_,rfl,rfl,SqT.of ha,rfl,p,ds,d.e.toNat,d.k,N,by rw[<-ee];rfl,B,ok,ne,el,λH1 s1=>?_⟩;refine⟨_,rfl,rfl,_,rfl,?_⟩;unfold qas at q
  by_cases h0:qa5 ds d.k d.e.toNat=0
  ·rw[if_pos h0]at q;rw[qB (by rw[h0];rfl:V.int (qa5 ds d.k d.e.toNat:Nat)=V.int 0)];refine iteT ⟨by show 0<=sizeLine;decide,λl hl=>⟨by show 1<=sizeLine;decide,λm hm=>⟨by show 2<=sizeLine;decide,λt ht=>?_⟩⟩⟩;have k1:=qac hl (.lst []);have k2:=qac hm (.lst [.str (Str.ofString "place")]);have k3:=qac ht (.tup [.ref l,.ref m]);exact q t _ (s1.trans ((k1.trans k2).trans k3)) ⟨l,m,upd_same,up l (s1.none hl),⟨[],(k2.trans k3) _ _ upd_same,.nil⟩,up m (s1.none (k1.none hm)),k3 _ _ upd_same⟩
  rw[if_neg h0]at q;obtain⟨a1,a2,a3,a4,a5⟩:=qdA h0;rw[qC (λz=>h0 (by have:=V.int.inj z;omega):¬V.int (qa5 ds d.k d.e.toNat:Nat)=V.int 0)];refine iteF ⟨_,rfl,_,rfl,p,ds,N,rfl,BookAt.same B s1,ok,ne,λl H2 hl k2 h2=>?_⟩;have s2:=s1.trans k2;have hp:(qbv ds)[qa5 ds d.k d.e.toNat-1]?=some (qbU ds (qa5 ds d.k d.e.toNat)):=by
   unfold qbv;rw[uU (by omega),show(upL ds).length-1-(qa5 ds d.k d.e.toNat-1)=(upL ds).length-qa5 ds d.k d.e.toNat by omega];exact a4
  generalize qa5 ds d.k d.e.toNat=lv at *;generalize qbU ds lv=el' at *;refine⟨_,rfl,_,_,rfl,rfl,l,_,_,_,rfl,rfl,SqL.of h2,(by
   rw[show((lv:Nat):Int)-1=((lv-1:Nat):Int) by omega];exact qbV (v:=V.int (el':Nat)) (by rw[qP,qP,hp];rfl)),_,rfl,p,a,(el':Nat),d,ds,N,rfl,BookAt.same B s2,le,na.keep s2.keep (λ_ n _=>n),pd,up.same s2,λt H3 k3 T3=>?_⟩
  have s3:=s2.trans k3;obtain⟨L,W,et,nL,BL,nW,eW⟩:=T3;refine⟨_,rfl,t,_,_,_,rfl,rfl,SqT.of et,rfl,_,rfl,_,rfl,a,d,lv,N,rfl,na.keep s3.keep (λ_ n _=>n),λm H4 hm k4 e4=>?_⟩;refine⟨_,rfl,t,_,_,_,rfl,rfl,SqT.of (k4 _ _ et),rfl,m,W,_,_,rfl,rfl,e4,k4 _ _ eW,?_,λm2 hm2=>⟨by show 2<=sizeLine;decide,λt2 ht2=>?_⟩⟩
  ·rw[qA,qA];exact qR (vX (qez d lv) (qeD ds d)) (by decide)
  have k5:=qac hm2 (.lst ((qa2 d lv).map V.str++(qaO ds d).map V.str));have k6:=qac ht2 (.tup [.ref L,.ref m2]);have k:=k4.trans (k5.trans k6);exact q t2 _ (s3.trans k) ⟨L,m2,upd_same,nL,BookAt.same BL k,up m2 ((s3.trans k4).none hm2),by rw[k6 _ _ upd_same,qM]⟩
theorem scFirst:FnScope ["parts", "told"] ["parts"] (qaf sFirst):=⟨rfl,rfl,rfl,by ac_rfl,rfl,by ac_rfl,by ac_rfl⟩
theorem ok_first_nodes{f:Addr}{fd:FuncData}(F:Fun K "first_nodes" "first_nodes" sFirst f fd)(NU:Nums mg)(F_later_nodes:Fx P w K mg base CX0 4 "later_nodes" ["nodes", "parts"] spLater)(F_bare_body:Fx P w K mg base CX0 1 "bare_body" [] spBareBody)(F_made_node:Fx P w K mg base CX0 3 "made_node" ["nodes", "elder", "parts"] spMadeNode)(F_level_words:Fx P w K mg base CX0 1 "level_words" ["parts", "level"] spLevelWords):FnOk P w K mg base CX0 5 f fd ["parts"] spFirst:=by
 refine F.ok scFirst (λvs H Q E h=>?_) (λcdv A outer s H vs Q E hr h=>?_)
 ·obtain⟨a,d,N,rfl,_⟩:=h;rfl
 ·obtain⟨a,d,N,rfl,na,pd,up,q⟩:=h;obtain⟨_,g_KIND⟩:=NU.kind;have hr_later_nodes:=hr;have hr_made_node:Room 3 _:=hr.mono (by decide);have hr_bare_body:Room 1 _:=hr.mono (by decide);have hr_level_words:Room 1 _:=hr.mono (by decide);obtain⟨m',s',ha,_⟩:=na.ex;refine⟨_,(qab (qaH (qak op_ne (qan ix_tup (pv 0) (qae (v:=.int 1) (by rfl) g_KIND ⟨_,rfl⟩) (λ_ _=>rfl)) qah (qap _)) (qab (qau (i:=1) scFirst.nd (by rfl) (by trivial) (qat F_later_nodes hr_later_nodes (by rfl) qay (qaa (qaR (qaa (qfy F_bare_body hr_bare_body (by rfl) qay) pa_nil)) (qaa (pv 0) pa_nil))))
   (qad (qai (qbc (qaa (qaM op_cat (qaR (qaa (qfy F_bare_body hr_bare_body (by rfl) qay) pa_nil)) (qan ix_tup (pv 1) qag (λ_ _=>rfl))) (qaa (qaM op_cat (qaR (qaa qah pa_nil)) (qan ix_tup (pv 1) qag (λ_ _=>rfl))) pa_nil)))))) pss_nil)
   (qab (qau (i:=1) scFirst.nd (by rfl) (by trivial) (qat F_made_node hr_made_node (by rfl) qay (qaa (qaR pa_nil) (qaa (qen un_neg qag) (qaa (pv 0) pa_nil)))))
   (qad (qai (qbc (qaa (qan ix_tup (pv 1) qag (λ_ _=>rfl)) (qaa (qaM op_cat (qat F_level_words hr_level_words (by rfl) qay (qaa (pv 0) (qaa qag pa_nil))) (qan ix_tup (pv 1) qag (λ_ _=>rfl))) pa_nil))))))),?_⟩
  refine⟨_,rfl,a,_,_,_,rfl,rfl,SqT.of ha,rfl,rfl,_,rfl,?_⟩;rw[show decide (V.str d.k.s=V.str (Str.ofString "body"))=decide (d.k=.body)from kdt d.k .body];unfold qa3 at q
  by_cases hk:d.k=.body
  ·rw[if_pos hk]at q;rw[qB hk];refine iteF ⟨by show 0<=sizeLine;decide,λo ho=>⟨_,rfl,_,rfl,o,a,-1,d,[],N,rfl,⟨[],upd_same,.nil⟩,by decide,na.keep (qac ho _).keep (λ_ n _=>n),pd,up.same (qac ho _),λt H3 k3 T3=>?_⟩⟩;have s3:=(qac ho _).trans k3;obtain⟨L,W,et,nL,BL,nW,eW⟩:=T3;refine⟨_,rfl,t,_,_,_,rfl,rfl,SqT.of et,rfl,_,rfl,a,d,0,N,rfl,na.keep s3.keep (λ_ n _=>n),λm H4 hm k4 e4=>?_⟩;refine⟨_,rfl,t,_,_,_,rfl,rfl,SqT.of (k4 _ _ et),rfl,m,W,_,_,rfl,rfl,e4,k4 _ _ eW,?_,λm2 hm2=>⟨by show 2<=sizeLine;decide,λt2 ht2=>?_⟩⟩
   ·rw[qA,qA];exact qR (vX (qez d 0) (qeD [] d)) (by decide)
   have k5:=qac hm2 (.lst ((qa2 d 0).map V.str++(qaO [] d).map V.str));have k6:=qac ht2 (.tup [.ref L,.ref m2]);have k:=k4.trans (k5.trans k6);exact q t2 _ (s3.trans k) ⟨L,m2,upd_same,nL,BookAt.same BL k,up m2 ((s3.trans k4).none hm2),by rw[k6 _ _ upd_same,qM]⟩
  ·rw[if_neg hk]at q;rw[qC hk];refine iteT ⟨rfl,λb H1 k1 nb=>⟨by show 1<=sizeLine;decide,λo ho=>⟨_,rfl,o,a,d,[bodyNd],N,rfl,⟨[b],upd_same,.cons (nb.keep (qac ho _).keep λc n _=>up c n) .nil⟩,nodes_body,by simp,na.keep (k1.trans (qac ho _)).keep (λ_ n _=>n),pd,up.same (k1.trans (qac ho _)),λt H3 k3 T3=>?_⟩⟩⟩;have s3:=(k1.trans (qac ho _)).trans k3;obtain⟨L,W,et,nL,BL,nW,eW⟩:=T3;refine⟨rfl,λb2 H4 k4 nb2=>⟨by show 1<=sizeLine;decide,λo2 ho2=>?_⟩⟩;have s4:=s3.trans k4;have k5:=qac ho2 (.lst [.ref b2]);have k45:=k4.trans k5;obtain⟨as,eL,nds⟩:=BL;have ll:as.length<=1:=by rw[nds.length];exact(qd7 nodes_body (by simp) (by decide) pd).2
   refine⟨_,rfl,t,_,_,_,rfl,rfl,SqT.of (k45 _ _ et),rfl,o2,L,_,_,rfl,rfl,upd_same,k45 _ _ eL,?_,λo3 ho3=>?_⟩
   ·rw[qA];exact qR (show 1+as.length<=2 by omega) (by decide)
   have k6:=qac ho3 (.lst ([.ref b2]++as.map V.ref));refine⟨by show 1<=sizeLine;decide,λo4 ho4=>?_⟩;have k7:=qac ho4 (.lst [.str (Str.ofString "body")]);have k47:=(k45.trans k6).trans k7;refine⟨_,rfl,t,_,_,_,rfl,rfl,SqT.of (k47 _ _ et),rfl,o4,W,_,_,rfl,rfl,upd_same,k47 _ _ eW,?_,λo5 ho5=>⟨by show 2<=sizeLine;decide,λt2 ht2=>?_⟩⟩
   ·rw[qA];exact qR (vX (qG 1) (qb5 [bodyNd] d)) (by decide)
   have k8:=qac ho5 (.lst ([.str (Str.ofString "body")]++(qas [bodyNd] d).2.map V.str));have k9:=qac ht2 (.tup [.ref o3,.ref o5]);have k79:=k7.trans (k8.trans k9);have k49:=k47.trans (k8.trans k9);refine q t2 _ (s3.trans k49) ⟨o3,o5,upd_same,up o3 ((s4.trans k5).none ho3),⟨b2::as,k79 _ _ upd_same,.cons (nb2.keep (k5.trans (k6.trans k79)).keep λc n _=>up c (s3.none n)) (nds.keep k49.keep λ_ n _=>n)⟩,up o5 ((s3.trans k47).none ho5),by rw[k9 _ _ upd_same];rfl⟩
theorem scReadRow:FnScope ["nodes", "row", "parts", "told"] ["nodes", "row"] (qaf sReadRow):=⟨rfl,rfl,rfl,by ac_rfl,rfl,by ac_rfl,by ac_rfl⟩
theorem ok_read_row{f:Addr}{fd:FuncData}(F:Fun K "read_row" "read_row" sReadRow f fd)(T:Bn mg)(U:Glob mg)(NU:Nums mg)(gl:∃t,mg "LEVEL" = some (.int 0 t))(F_row_parts:Fx P w K mg base CX0 7 "row_parts" ["row"] spRowParts)(F_first_nodes:Fx P w K mg base CX0 5 "first_nodes" ["parts"] spFirst)(F_later_nodes:Fx P w K mg base CX0 4 "later_nodes" ["nodes", "parts"] spLater):FnOk P w K mg base CX0 8 f fd ["nodes", "row"] spReadRow:=by
 refine F.ok scReadRow (λvs H Q E h=>?_) (λcdv A outer s H vs Q E hr h=>?_)
 ·obtain⟨p,x,ds,N,rfl,_⟩:=h;rfl
 ·obtain⟨p,x,ds,N,rfl,B,ok,rx,up,q⟩:=h;obtain⟨_,g_LEVEL⟩:=gl;obtain⟨_,g_KIND⟩:=NU.kind;obtain⟨_,g_NAME⟩:=NU.name;obtain⟨_,g_MARKS⟩:=NU.marks;obtain⟨_,g_STUFF⟩:=NU.stuff;obtain⟨_,g_MOST_NODES⟩:=U.nodes;have hr_row_parts:=hr;have hr_first_nodes:Room 5 _:=hr.mono (by decide);have hr_later_nodes:Room 4 _:=hr.mono (by decide);have one:∀(wx:Str) (H1:Hp) (l m t:Addr),Same H H1->H1 l=none->upd H1 l (.lst []) m=none->upd (upd H1 l (.lst [])) m (.lst [.str wx]) t=none->qaV ds x=([],[wx])->Q (.ref t) (upd (upd (upd H1 l (.lst [])) m (.lst [.str wx])) t (.tup [.ref l,.ref m])):=λwx H1 l m t s1 hl hm ht er=>by
   have k1:=qac hl (.lst []);have k2:=qac hm (.lst [.str wx]);have k3:=qac ht (.tup [.ref l,.ref m]);refine q t _ (s1.trans ((k1.trans k2).trans k3)) ?_;rw[er];exact⟨l,m,upd_same,up l (s1.none hl),⟨[],(k2.trans k3) _ _ upd_same,.nil⟩,up m (s1.none (k1.none hm)),k3 _ _ upd_same⟩
  refine⟨_,(qab (qau (i:=2) scReadRow.nd (by rfl) (by trivial) (qat F_row_parts hr_row_parts (by rfl) qay (qaa (pv 1) pa_nil)))
   (qab (qaH (qiI (qiw (pv 2))) (qad (qai (qbc (qaa (qaR pa_nil) (qaa (qaR (qaa qah pa_nil)) pa_nil))))) pss_nil)
   (qab (qaH (qak op_ge (qal call_len_seq (by rfl) T.len b_len (qaa (pv 0) pa_nil)) (qae (v:=.int 60) (by rfl) g_MOST_NODES ⟨_,rfl⟩) (qap _)) (qad (qai (qbc (qaa (qaR pa_nil) (qaa (qaR (qaa qah pa_nil)) pa_nil))))) pss_nil)
   (qab (qaH (qak op_eq (qal call_len_seq (by rfl) T.len b_len (qaa (pv 0) pa_nil)) qag (qap _)) (qad (qai (qat F_first_nodes hr_first_nodes (by rfl) qay (qaa (pv 2) pa_nil)))) pss_nil)
   (qab (qaH (qak op_eq (qan ix_tup (pv 2) (qae (v:=.int 1) (by rfl) g_KIND ⟨_,rfl⟩) (λ_ _=>rfl)) qah (qap _)) (qab (qau (i:=3) scReadRow.nd (by rfl) (by trivial) (qat F_later_nodes hr_later_nodes (by rfl) qay (qaa (pv 0) (qaa (qbc (qaa (qan ix_tup (pv 2) (qae (v:=.int 0) (by rfl) g_LEVEL ⟨_,rfl⟩) (λ_ _=>rfl)) (qaa qah (qaa (qan ix_tup (pv 2) (qae (v:=.int 2) (by rfl) g_NAME ⟨_,rfl⟩) (λ_ _=>rfl)) (qaa (qan ix_tup (pv 2) (qae (v:=.int 3) (by rfl) g_MARKS ⟨_,rfl⟩) (λ_ _=>rfl)) (qaa (qan ix_tup (pv 2) (qae (v:=.int 4) (by rfl) g_STUFF ⟨_,rfl⟩) (λ_ _=>rfl)) pa_nil)))))) pa_nil))))
   (qad (qai (qbc (qaa (qan ix_tup (pv 3) qag (λ_ _=>rfl)) (qaa (qaM op_cat (qaR (qaa qah pa_nil)) (qan ix_tup (pv 3) qag (λ_ _=>rfl))) pa_nil)))))) pss_nil)
   (qad (qai (qat F_later_nodes hr_later_nodes (by rfl) qay (qaa (pv 0) (qaa (pv 2) pa_nil)))))))))),?_⟩
  refine⟨_,rfl,x,rfl,rx,λen H1 s1=>?_,λd ed a H1 s1 na=>?_⟩
  ·refine⟨_,rfl,_,rfl,iteT ⟨by show 0<=sizeLine;decide,λl hl=>⟨by show 1<=sizeLine;decide,λm hm=>⟨by show 2<=sizeLine;decide,λt ht=>one _ _ _ _ _ s1 hl hm ht ?_⟩⟩⟩⟩;unfold qaV;rw[en]
  have na:NdAt N H1 a d:=na.keep KeepN.refl λb n _=>up b n
  have pd:=qdf rx ed;have er:qaV ds x=if 60<=ds.length then([],[Str.ofString "many"])else if ds=[]then qa3 d
    else if d.k=.body then((qas ds {d with k:=.case}).1,Str.ofString "body" :: (qas ds {d with k:=.case}).2)else qas ds d:=by
   unfold qaV;rw[ed]
  obtain⟨as,hp,nds⟩:=B;have la:as.length=ds.length:=nds.length;obtain⟨m',s',ha,nm',hm',st'⟩:=na.ex;refine⟨_,rfl,_,rfl,iteF ?_⟩;refine⟨_,rfl,p,_,rfl,.inl (SqL.of (s1 _ _ hp)),_,_,rfl,rfl,_,rfl,?_⟩;rw[qA,la]
  by_cases h60:60<=ds.length
  ·rw[qB (by omega:(60:Int)<=(ds.length:Nat))];refine iteT ⟨by show 0<=sizeLine;decide,λl hl=>⟨by show 1<=sizeLine;decide,λm hm=>⟨by show 2<=sizeLine;decide,λt ht=>one _ _ _ _ _ s1 hl hm ht ?_⟩⟩⟩;rw[er,if_pos h60]
  rw[qC (by omega:¬(60:Int)<=(ds.length:Nat))];rw[if_neg h60]at er;refine iteF ⟨_,rfl,p,_,rfl,.inl (SqL.of (s1 _ _ hp)),rfl,_,rfl,?_⟩;rw[qA,la]
  by_cases h0:ds=[]
  ·rw[qB (by rw[h0];rfl:V.int (ds.length:Nat)=V.int 0)];rw[if_pos h0]at er;exact iteT ⟨_,rfl,a,d,N,rfl,na,pd,up.same s1,λt H2 k2 T2=>q t H2 (s1.trans k2) (by rw[er];exact T2)⟩
  rw[qC (λz=>h0 (rA (by have:=V.int.inj z;omega)):¬V.int (ds.length:Nat)=V.int 0)];rw[if_neg h0]at er;refine iteF ⟨_,rfl,a,_,_,_,rfl,rfl,SqT.of ha,rfl,rfl,_,rfl,?_⟩;rw[show decide (V.str d.k.s=V.str (Str.ofString "body"))=decide (d.k=.body)from kdt d.k .body]
  by_cases hk:d.k=.body
  rotate_left
  ·rw[qC hk];rw[if_neg hk]at er;exact iteF ⟨_,rfl,_,rfl,p,a,d,ds,N,rfl,⟨as,s1 _ _ hp,nds.keep s1.keep λ_ n _=>n⟩,ok,h0,na,pd,up.same s1,λt H2 k2 T2=>q t H2 (s1.trans k2) (by rw[er];exact T2)⟩
  rw[qB hk];rw[if_pos hk]at er;refine iteT ⟨_,rfl,_,rfl,a,_,_,_,rfl,rfl,SqT.of ha,rfl,_,rfl,a,_,_,_,rfl,rfl,SqT.of ha,rfl,_,rfl,a,_,_,_,rfl,rfl,SqT.of ha,rfl,_,rfl,a,_,_,_,rfl,rfl,SqT.of ha,rfl,(by show 5<=sizeLine;decide),λu hu=>?_⟩;have k1:=qac hu (.tup [.int d.e,.str Kd.case.s,.str d.nm,.ref m',.ref s']);have s2:=s1.trans k1;refine⟨p,u,{d with k:=.case},ds,N,rfl,⟨as,s2 _ _ hp,nds.keep s2.keep λ_ n _=>n⟩,ok,h0,⟨up u (s1.none hu),m',s',upd_same,nm',k1 _ _ hm',st'.keep k1.keep λ_ n _=>n⟩,qdK pd hk,up.same s2,λt H3 k3 T3=>?_⟩;have s3:=s2.trans k3;obtain⟨L,W,et,nL,BL,nW,eW⟩:=T3;refine⟨_,rfl,t,_,_,_,rfl,rfl,SqT.of et,rfl,(by show 1<=sizeLine;decide),λo4 ho4=>?_⟩;have k4:=qac ho4 (.lst [.str (Str.ofString "body")]);refine⟨_,rfl,t,_,_,_,rfl,rfl,SqT.of (k4 _ _ et),rfl,o4,W,_,_,rfl,rfl,upd_same,k4 _ _ eW,?_,λo5 ho5=>⟨by show 2<=sizeLine;decide,λt2 ht2=>?_⟩⟩
  ·rw[qA];exact qR (vX (qG 1) (qb5 ds {d with k:=.case})) (by decide)
  have k5:=qac ho5 (.lst ([.str (Str.ofString "body")]++(qas ds {d with k:=.case}).2.map V.str));have k6:=qac ht2 (.tup [.ref L,.ref o5]);have k:=k4.trans (k5.trans k6);refine q t2 _ (s3.trans k) ?_;rw[er];exact⟨L,o5,upd_same,nL,BookAt.same BL k,up o5 ((s3.trans k4).none ho5),by rw[k6 _ _ upd_same];rfl⟩
abbrev sFinished:Stmt:=top 87
abbrev sReadBook:Stmt:=top 81
theorem scFinished:FnScope ["nodes", "words", "begun", "noted", "book"] ["nodes"] (qaf sFinished):=⟨rfl,rfl,rfl,by ac_rfl,rfl,by ac_rfl,by ac_rfl⟩
theorem ok_finished_book{f C:Addr}{fd:FuncData}(F:Fun K "finished_book" "finished_book" sFinished f fd)(T:Bn mg)(F_bare_body:Fx P w K mg base CX0 1 "bare_body" [] spBareBody)(F_lacks_notes:Fx P w K mg base CX0 2 "lacks_notes" ["nodes", "number"] spLacks)(F_mended_notes:Fx P w K mg base CX0 2 "mended_notes" ["nodes"] spMendNotes)(F_wants_case:Fx P w K mg base CX0 3 "wants_case" ["nodes", "number"] spWants)(F_mended_kinds:Fx P w K mg base CX0 4 "mended_kinds" ["nodes"] spMendKinds)(F_holds:Fx P w K mg base (CX1 P w) 1 "holds" ["book", "node"] (qdb C))(F_bare_stuff:Fx P w K mg base CX0 1 "bare_stuff" [] spBareStuff):FnOk P w K mg base CX0 5 f fd ["nodes"] spFinished:=by
 refine F.ok scFinished (λvs H Q E h=>?_) (λcdv A outer s H vs Q E hr h=>?_)
 ·obtain⟨p,ds,N,rfl,_⟩:=h;rfl
 ·obtain⟨p,ds,N,rfl,B,ok,up,q⟩:=h;have hr_bare_body:Room 1 _:=hr.mono (by decide);have hr_bare_stuff:Room 1 _:=hr.mono (by decide);have hr_holds:Room 1 _:=hr.mono (by decide);have hr_lacks_notes:Room 2 _:=hr.mono (by decide);have hr_mended_notes:Room 2 _:=hr.mono (by decide);have hr_wants_case:Room 3 _:=hr.mono (by decide);have hr_mended_kinds:=hr;obtain⟨okb,neb⟩:=qfa ok;have le:=okb.le;obtain⟨as,hp,nds⟩:=B;have la:as.length=ds.length:=nds.length;refine⟨_,(qab (qau (i:=1) scFinished.nd (by rfl) (by trivial) (qaR pa_nil))
   (qab (qau (i:=2) scFinished.nd (by rfl) (by trivial) (pv 0))
   (qab (qaH (qak op_eq (qal call_len_seq (by rfl) T.len b_len (qaa (pv 0) pa_nil)) qag (qap _)) (qab (qau (i:=2) scFinished.nd (by rfl) (by trivial) (qaR (qaa (qfy F_bare_body hr_bare_body (by rfl) qay) pa_nil)))
   (qad (qaS (qbp qS rE rF mt_append (pv 1) (qaa qah pa_nil))))) pss_nil)
   (qab (qaS (qbp qS xH xI mt_extend (pv 1) (qaa (qba (own:=["number"]) (by rfl) (ix:=[2]) (frees:=["begun"]) (CompScope.frees (by rfl) (by ac_rfl) (by ac_rfl) (by ac_rfl) (by rfl) (by ac_rfl) (by first | exact qfC (by rfl) | exact free2 (by rfl) (by rfl))) (qb6 (by rfl) T.range (qaa (qal call_len_seq (by rfl) T.len b_len (qaa (pv 2) pa_nil)) pa_nil)) (λcl C s2 H2 fp=>(qaw (i:=0) (by show(["number", "begun"]:List Str).Nodup;ac_rfl) (by rfl) (by trivial) (by trivial))) (λcl C s2 H2 fp=>(qcN (qaZ (qat F_lacks_notes hr_lacks_notes (by rfl) qay (qaa (pv 1) (qaa (pv 0) pa_nil)))))) (λcl C s2 H2 fp=>qah)) pa_nil)))
   (qab (qau (i:=3) scFinished.nd (by rfl) (by trivial) (qat F_mended_notes hr_mended_notes (by rfl) qay (qaa (pv 2) pa_nil)))
   (qab (qaS (qbp qS xH xI mt_extend (pv 1) (qaa (qba (own:=["number"]) (by rfl) (ix:=[3]) (frees:=["noted"]) (CompScope.frees (by rfl) (by ac_rfl) (by ac_rfl) (by ac_rfl) (by rfl) (by ac_rfl) (by first | exact qfC (by rfl) | exact free2 (by rfl) (by rfl))) (qb6 (by rfl) T.range (qaa (qal call_len_seq (by rfl) T.len b_len (qaa (pv 3) pa_nil)) pa_nil)) (λcl C s2 H2 fp=>(qaw (i:=0) (by show(["number", "noted"]:List Str).Nodup;ac_rfl) (by rfl) (by trivial) (by trivial))) (λcl C s2 H2 fp=>(qcN (qaZ (qat F_wants_case hr_wants_case (by rfl) qay (qaa (pv 1) (qaa (pv 0) pa_nil)))))) (λcl C s2 H2 fp=>qah)) pa_nil)))
   (qab (qau (i:=4) scFinished.nd (by rfl) (by trivial) (qat F_mended_kinds hr_mended_kinds (by rfl) qay (qaa (pv 3) pa_nil)))
   (qab (qaH (qak op_eq (qal call_len_seq (by rfl) T.len b_len (qaa (qat F_holds hr_holds (by rfl) qgj (qaa (pv 4) (qaa qag pa_nil))) pa_nil)) qag (qap _)) (qab (qaS (qbp qS rE rF mt_append (pv 4) (qaa (qbc (qaa qag (qaa qah (qaa qah (qaa (qaR pa_nil) (qaa (qfy F_bare_stuff hr_bare_stuff (by rfl) qay) pa_nil)))))) pa_nil)))
   (qad (qaS (qbp qS rE rF mt_append (pv 1) (qaa qah pa_nil))))) pss_nil)
   (qad (qai (qbc (qaa (pv 4) (qaa (pv 1) pa_nil))))))))))))),?_⟩
  refine⟨by show 0<=sizeLine;decide,λW hW=>?_⟩;have s1:=qac hW (.lst []);refine⟨_,rfl,?_⟩;dsimp only[qcq];have oldW:∀b,N b->(H b).isSome=true->Nw N W b:=qdX hW;have upW:∀{H':Hp},Same H H'->(∃o,H' W=some o)->Up0 (Nw N W) H':=λ{H'} sa hw b hb=>by
   obtain⟨o,e⟩:=hw;exact qcR (up b (sa.none hb)) e hb
  refine qa0 (λσ' H'=>∃b,σ'=[some (.ref p),some (.ref W),some (.ref b),none,none]/\b≠W/\Same H H'/\H' W=some (.lst ((wd (ds=[]) (Str.ofString "body")).map V.str))/\BookAt (Nw N W) H' b (begun ds)) (λD' kk=>?_) ?_
  ·refine⟨_,rfl,p,_,rfl,.inl (SqL.of (s1 _ _ hp)),rfl,_,rfl,?_⟩;rw[qA,la]
   by_cases h0:ds=[]
   ·rw[qB (by rw[h0];rfl:V.int (ds.length:Nat)=V.int 0)];refine iteT ⟨rfl,λb H2 k2 nb=>⟨by show 1<=sizeLine;decide,λo ho=>?_⟩⟩;have k3:=qac ho (.lst [.ref b]);have s3:=(s1.trans k2).trans k3;have hW3:upd H2 o (.lst [.ref b]) W=some (.lst []):=k3 _ _ (k2 _ _ upd_same);have neo:o≠W:=(qam (k2 _ _ upd_same) ho).symm;refine⟨_,rfl,.inl ⟨rfl,_,SqL.of hW3⟩,W,_,_,rfl,rfl,hW3,by decide,kk _ _ ⟨o,rfl,neo,qaD s3 hW,by rw[qdF h0,upd_same];rfl,?_⟩⟩;have:BookAt (Nw N W) (upd H2 o (.lst [.ref b])) o (begun ds):=by
     unfold begun;rw[if_pos h0];refine⟨[b],upd_same,.cons (nb.keep k3.keep λc n _=>?_) .nil⟩;exact qcR (up c (s1.none n)) upd_same n
    exact BookAt.put this neo
   ·rw[qC (λz=>h0 (rA (by have:=V.int.inj z;omega)):¬V.int (ds.length:Nat)=V.int 0)];refine iteF (kk _ _ ⟨p,rfl,qam hp hW,s1,by rw[qcK h0];exact upd_same,?_⟩);unfold begun;rw[if_neg h0];exact⟨as,s1 _ _ hp,nds.keep s1.keep oldW⟩
  rintro _ H2 ⟨b,rfl,neb',s2,hW2,B2⟩;have l2:(wd (ds=[]) (Str.ofString "body")).length<=1:=qf1 _ _;have eW:qbm ds=wd (ds=[]) (Str.ofString "body")++atTo (begun ds) (λi d=>if qbI (begun ds) i d then[Str.ofString "notes"]else[]) (begun ds).length
   ++ atTo (qao (begun ds)) (λi d=>if qar (qao (begun ds)) i d then[Str.ofString "case"]else[]) (qao (begun ds)).length++wd (kids (qaB (qao (begun ds))) 0=[]) (Str.ofString "bare"):=rfl
  have eB:qcd ds=if kids (qaB (qao (begun ds))) 0=[]then qaB (qao (begun ds))++[bareText]else qaB (qao (begun ds)):=rfl
  rw[eW,eB]at q;clear eW eB;generalize wd (ds=[]) (Str.ofString "body")=w0 at hW2 l2 q;generalize begun ds=bs at *;have le1:∀(b:Bool) (x:Str),(if b then[x]else[]).length<=1:=λb x=>by cases b<;>simp
  obtain⟨as2,hb2,nds2⟩:=B2;have la2:as2.length=bs.length:=nds2.length;have l3:(atTo bs (λi d=>if qbI bs i d then[Str.ofString "notes"]else[]) bs.length).length<=60:=by
   have:=qcj (ds:=bs) (f:=λi d=>if qbI bs i d then[Str.ofString "notes"]else[]) (B:=1) (λi d=>le1 _ _) bs.length;omega
  refine⟨_,rfl,.inl ⟨rfl,_,SqL.of hW2⟩,_,rfl,b,_,rfl,.inl (SqL.of hb2),_,rfl,?_⟩;rw[qA,la2];refine⟨by omega,by omega,qeX (λi ys σ' H'=>Same H2 H'/\ys=(atTo bs (λi d=>if qbI bs i d then[Str.ofString "notes"]else[]) i).map V.str/\∃z,σ'=[z,some (.ref b)]) (by rw[rM];exact qbz (by omega)) ⟨Same.refl H2,rfl,none,rfl⟩ ?_ ?_ ?_⟩
  ·rintro i ys σ' H' hi ⟨_,rfl,_⟩;rw[qA];have:=qcj (ds:=bs) (f:=λi d=>if qbI bs i d then[Str.ofString "notes"]else[]) (B:=1) (λi d=>le1 _ _) i;omega
  ·rintro i ys σ' H' hi ⟨k3,rfl,z,rfl⟩;rw[rM]at hi;have ed:bs[i]?=some bs[i]:=qE hi;obtain⟨fm,hk⟩:=okb.form bs[i] (yZ hi);refine⟨_,rfl,_,rfl,b,i,bs[i],bs,Nw N W,by rw[wJ];rfl,⟨as2,k3 _ _ hb2,nds2.keep k3.keep λ_ n _=>n⟩,le,ed,fm,hk,λH4 k4=>⟨_,rfl,?_⟩⟩;rw[qa7 ed];cases eb:qbI bs i bs[i]with
   | true=>exact iteT ⟨k3.trans k4,by rw[if_pos rfl,qM];rfl,_,rfl⟩
   | false=>exact iteF ⟨k3.trans k4,by rw[if_neg (by decide),rC],_,rfl⟩
  rintro ys σ' H3 ⟨k3,rfl,_⟩ D hD;rw[rM];generalize atTo bs (λi d=>if qbI bs i d then[Str.ofString "notes"]else[]) bs.length=w1 at *;have k4:=qac hD (.lst (w1.map V.str));have k34:=k3.trans k4;have hW4:=k34 _ _ hW2;refine⟨W,D,_,_,rfl,rfl,hW4,upd_same,?_,?_⟩
  ·rw[qA,qA];exact qR (show w0.length+w1.length<=61 by omega) (by decide)
  rw[<-qM];have s5:=qaD (o:=.lst ((w0++w1).map V.str)) (s2.trans k34) hW;have hW5:upd (upd H3 D (.lst (w1.map V.str))) W (.lst ((w0++w1).map V.str)) W=some (.lst ((w0++w1).map V.str)):=upd_same;have B5:BookAt (Nw N W) (upd (upd H3 D (.lst (w1.map V.str))) W (.lst ((w0++w1).map V.str))) b bs:=BookAt.put (BookAt.same ⟨as2,hb2,nds2⟩ k34) neb';generalize upd (upd H3 D (.lst (w1.map V.str))) W (.lst ((w0++w1).map V.str))=H5 at s5 hW5 B5⊢;refine⟨_,rfl,b,bs,Nw N W,rfl,B5,upW s5 ⟨_,hW5⟩,okb,λn H6 hn k6 B6=>?_⟩;have s6:=s5.trans k6;have hW6:=k6 _ _ hW5;have nen:n≠W:=(qam hW5 hn).symm;have lm:=qgo bs;have am:=mend_as okb;have m1:=qhz okb neb;generalize qao bs=ns at *;obtain⟨as6,hn6,nds6⟩:=B6;have la6:as6.length=ns.length:=nds6.length;have l7:(atTo ns (λi d=>if qar ns i d then[Str.ofString "case"]else[]) ns.length).length<=60:=by
   have:=qcj (ds:=ns) (f:=λi d=>if qar ns i d then[Str.ofString "case"]else[]) (B:=1) (λi d=>le1 _ _) ns.length;omega
  refine⟨_,rfl,.inl ⟨rfl,_,SqL.of hW6⟩,_,rfl,n,_,rfl,.inl (SqL.of hn6),_,rfl,?_⟩;rw[qA,la6];refine⟨by omega,by omega,qeX (λi ys σ' H'=>Same H6 H'/\ys=(atTo ns (λi d=>if qar ns i d then[Str.ofString "case"]else[]) i).map V.str/\∃z,σ'=[z,some (.ref n)]) (by rw[rM];exact qbz (by omega)) ⟨Same.refl H6,rfl,none,rfl⟩ ?_ ?_ ?_⟩
  ·rintro i ys σ' H' hi ⟨_,rfl,_⟩;rw[qA];have:=qcj (ds:=ns) (f:=λi d=>if qar ns i d then[Str.ofString "case"]else[]) (B:=1) (λi d=>le1 _ _) i;omega
  ·rintro i ys σ' H' hi ⟨k7,rfl,z,rfl⟩;rw[rM]at hi;have ed:ns[i]?=some ns[i]:=qE hi;refine⟨_,rfl,_,rfl,n,i,ns[i],ns,Nw N W,by rw[wJ];rfl,⟨as6,k7 _ _ hn6,nds6.keep k7.keep λ_ n _=>n⟩,by omega,ed,am,λH8 k8=>⟨_,rfl,?_⟩⟩;rw[qa7 ed];cases eb:qar ns i ns[i]with
   | true=>exact iteT ⟨k7.trans k8,by rw[if_pos rfl,qM];rfl,_,rfl⟩
   | false=>exact iteF ⟨k7.trans k8,by rw[if_neg (by decide),rC],_,rfl⟩
  rintro ys σ' H7 ⟨k7,rfl,_⟩ D2 hD2;rw[rM];generalize atTo ns (λi d=>if qar ns i d then[Str.ofString "case"]else[]) ns.length=w2 at *;have k8:=qac hD2 (.lst (w2.map V.str));have k78:=k7.trans k8;have hW8:=k78 _ _ hW6;refine⟨W,D2,_,_,rfl,rfl,hW8,upd_same,?_,?_⟩
  ·rw[qA,qA,qH];exact qR (show w0.length+w1.length+w2.length<=121 by omega) (by decide)
  rw[<-qM];have s9:=qaD (o:=.lst ((w0++w1++w2).map V.str)) (s6.trans k78) hW;have hW9:upd (upd H7 D2 (.lst (w2.map V.str))) W (.lst ((w0++w1++w2).map V.str)) W=some (.lst ((w0++w1++w2).map V.str)):=upd_same;have B9:BookAt (Nw N W) (upd (upd H7 D2 (.lst (w2.map V.str))) W (.lst ((w0++w1++w2).map V.str))) n ns:=BookAt.put (BookAt.same ⟨as6,hn6,nds6⟩ k78) nen;generalize upd (upd H7 D2 (.lst (w2.map V.str))) W (.lst ((w0++w1++w2).map V.str))=H9 at s9 hW9 B9⊢;refine⟨_,rfl,n,ns,Nw N W,rfl,B9,upW s9 ⟨_,hW9⟩,by omega,am,λk H10 hk10 k10 B10=>?_⟩;have s10:=s9.trans k10;have hW10:=k10 _ _ hW9;have nek:k≠W:=(qam hW9 hk10).symm;have lk:=qbS ns;generalize qaB ns=bk at *;obtain⟨ask,hbk,ndsk⟩:=B10;have lak:ask.length=bk.length:=ndsk.length;dsimp only[qcq];refine qa0 (λσ' H'=>∃z2,σ'=[some (.ref p),some (.ref W),z2,some (.ref n),some (.ref k)]/\Same H H'/\H' W=some (.lst ((w0++w1++w2++wd (kids bk 0=[]) (Str.ofString "bare")).map V.str))/\BookAt N H' k (if kids bk 0=[]then bk++[bareText]else bk)) (λD' kk=>?_) ?_
  ·refine⟨_,rfl,k,0,bk,_,rfl,⟨ask,hbk,ndsk⟩,by omega,by decide,.inr ⟨⟨by omega,by omega⟩,λl H11 hl k11 h11=>?_⟩⟩;have s11:=s10.trans k11;have hW11:=k11 _ _ hW10;have hk11:=k11 _ _ hbk;refine⟨l,_,rfl,.inl (SqL.of h11),rfl,_,rfl,?_⟩;rw[qA]
   by_cases hz:kids bk 0=[]
   rotate_left
   ·rw[qC (λz=>hz (rA (by have:=V.int.inj z;unfold kids;omega)):¬V.int ((qaI bk 0 bk.length).length:Nat)=V.int 0)];refine iteF (kk _ _ ⟨_,rfl,s11,by rw[qcK hz,rC];exact hW11,?_⟩);rw[if_neg hz];exact⟨ask,hk11,ndsk.keep k11.keep λ_ n _=>n.1.1⟩
   rw[qB (by rw[show(qaI bk 0 bk.length)=kids bk 0 from rfl,hz];rfl:V.int ((qaI bk 0 bk.length).length:Nat)=V.int 0)];refine iteT ⟨_,rfl,.inl ⟨rfl,_,SqL.of hk11⟩,by show 0<=sizeLine;decide,λmm hmm=>⟨rfl,λsb H13 k13 stb=>⟨by show 5<=sizeLine;decide,λu hu=>?_⟩⟩⟩;have k12:=qac hmm (.lst []);have k14:=qac hu (.tup [.int 0,.str Kd.text.s,.str (Str.ofString ""),.ref mm,.ref sb]);have s12:=s11.trans k12;have s13:=s12.trans k13;have k1214:=(k12.trans k13).trans k14;have s14:=s13.trans k14;have hk14:=k1214 _ _ hk11;have hW14:=k1214 _ _ hW11;refine⟨k,_,_,rfl,rfl,hk14,qbz (by rw[qA];omega),?_⟩;have hW15:upd (upd H13 u (.tup [.int 0,.str Kd.text.s,.str (Str.ofString ""),.ref mm,.ref sb])) k (.lst (ask.map V.ref++[.ref u])) W=some (.lst ((w0++w1++w2).map V.str)):=by rw[qax nek.symm];exact hW14
   have hk0:H k=none:=s9.none hk10;refine⟨_,rfl,.inl ⟨rfl,_,SqL.of hW15⟩,W,_,_,rfl,rfl,hW15,?_,kk _ _ ⟨_,rfl,qaD (qaD s14 hk0) hW,by rw[qdF hz,upd_same];simp,?_⟩⟩
   ·rw[qA,qH,qH];exact uQ (show w0.length+w1.length+w2.length<=121 by omega) (by decide)
   rw[if_pos hz];refine⟨ask++[u],by rw[qax nek,upd_same];simp,NdsAt.append (ndsk.keep ((k11.trans k1214).keep.trans (keep_nw.trans (keep_nw.mono λc n=>n.1))) λc n _=>n.1.1) (.cons ?_ .nil)⟩;have kp:∀c o,H10 c=none->upd H13 u (.tup [.int 0,.str Kd.text.s,.str (Str.ofString ""),.ref mm,.ref sb]) c=some o->upd (upd (upd H13 u (.tup [.int 0,.str Kd.text.s,.str (Str.ofString ""),.ref mm,.ref sb])) k (.lst (ask.map V.ref++[.ref u]))) W (.lst ((w0++w1++w2).map V.str++[.str (Str.ofString "bare")])) c=some o:=λc o hc ho=>by
    rw[qax (qam hW10 hc).symm,qax (qam hbk hc).symm];exact ho
   have h12n:=k11.trans k12;have n1:H10 u=none:=(k11.trans (k12.trans k13)).none hu;have n2:H10 mm=none:=k11.none hmm;refine⟨up u (s13.none hu),mm,sb,kp _ _ n1 upd_same,up mm (s11.none hmm),kp _ _ n2 ((k13.trans k14) _ _ upd_same),stb.keep (λc o n hc=>kp c o (h12n.none n) (k14 _ _ hc)) λc n _=>up c (s12.none n)⟩
  rintro _ H16 ⟨z2,rfl,s16,hW16,B16⟩;refine⟨_,rfl,_,rfl,(by show 2<=sizeLine;decide),λt ht=>?_⟩;have k17:=qac ht (.tup [.ref k,.ref W]);exact q t _ (s16.trans k17) ⟨k,W,upd_same,up k (s9.none hk10),BookAt.same B16 k17,up W hW,k17 _ _ hW16⟩
theorem scReadBook:FnScope ["rows", "nodes", "mends", "number", "row", "told", "whole"] ["rows"] (qaf sReadBook):=⟨rfl,rfl,rfl,by ac_rfl,rfl,by ac_rfl,by ac_rfl⟩
theorem ok_read_book{f:Addr}{fd:FuncData}(F:Fun K "read_book" "read_book" sReadBook f fd)(T:Bn mg)(gb:∃t,mg "BEHIND_ALL_ROWS" = some (.int (-1) t))(F_read_row:Fx P w K mg base CX0 8 "read_row" ["nodes", "row"] spReadRow)(F_finished_book:Fx P w K mg base CX0 5 "finished_book" ["nodes"] spFinished):FnOk P w K mg base CX0 9 f fd ["rows"] spReadBook:=by
 refine F.ok scReadBook (λvs H Q E h=>?_) (λcdv A outer s H vs Q E hr h=>?_)
 ·obtain⟨p,rows,rfl,_⟩:=h;rfl
 ·obtain⟨p,rows,rfl,hp,le,ro,q⟩:=h;obtain⟨_,g_BEHIND_ALL_ROWS⟩:=gb;have hr_read_row:=hr;have hr_finished_book:Room 5 _:=hr.mono (by decide);refine⟨_,(qab (qau (i:=1) scReadBook.nd (by rfl) (by trivial) (qaR pa_nil))
   (qab (qau (i:=2) scReadBook.nd (by rfl) (by trivial) (qaR pa_nil))
   (qab (qcl xE (by rfl) (qcQ (by rfl) T.enumerate (qaa (pv 0) pa_nil)) (qdj (by rfl) (qa1 (qaw (i:=3) scReadBook.nd (by rfl) (by trivial)) (qa1 (qaw (i:=4) scReadBook.nd (by rfl) (by trivial)) pgs_nil)))
   (qab (qau (i:=5) scReadBook.nd (by rfl) (by trivial) (qat F_read_row hr_read_row (by rfl) qay (qaa (pv 1) (qaa (pv 4) pa_nil))))
   (qab (qaS (qbp qS xH xI mt_extend (pv 1) (qaa (qan ix_tup (pv 5) qag (λ_ _=>rfl)) pa_nil)))
   (qad (qaS (qbp qS xH xI mt_extend (pv 2) (qaa (qba (own:=["word"]) (by rfl) (ix:=[3]) (frees:=["number"]) (CompScope.frees (by rfl) (by ac_rfl) (by ac_rfl) (by ac_rfl) (by rfl) (by ac_rfl) (by first | exact qfC (by rfl) | exact free2 (by rfl) (by rfl))) (qbb (qan ix_tup (pv 5) qag (λ_ _=>rfl))) (λcl C s2 H2 fp=>(qaw (i:=0) (by show(["word", "number"]:List Str).Nodup;ac_rfl) (by rfl) (by trivial) (by trivial))) (λcl C s2 H2 fp=>qbn) (λcl C s2 H2 fp=>(qbc (qaa (pv 1) (qaa (pv 0) pa_nil))))) pa_nil)))))))
   (qab (qau (i:=6) scReadBook.nd (by rfl) (by trivial) (qat F_finished_book hr_finished_book (by rfl) qay (qaa (pv 1) pa_nil)))
   (qab (qaS (qbp qS xH xI mt_extend (pv 2) (qaa (qba (own:=["word"]) (by rfl) (CompScope.plain (by rfl) (by ac_rfl) (by ac_rfl) (by ac_rfl)) (qbb (qan ix_tup (pv 6) qag (λ_ _=>rfl))) (λcl C s2 H2 fp=>(qaw (i:=0) (by show(["word"]:List Str).Nodup;ac_rfl) (by rfl) (by trivial) (by trivial))) (λcl C s2 H2 fp=>qbn) (λcl C s2 H2 fp=>(qbc (qaa (qae (v:=.int (-1)) (by rfl) g_BEHIND_ALL_ROWS ⟨_,rfl⟩) (qaa (pv 0) pa_nil))))) pa_nil)))
   (qad (qai (qbc (qaa (qan ix_tup (pv 6) qag (λ_ _=>rfl)) (qaa (pv 2) pa_nil)))))))))),?_⟩
  refine⟨by show 0<=sizeLine;decide,λL hL=>⟨by show 0<=sizeLine;decide,λM hM=>?_⟩⟩;have s1:=qac hL (.lst []);have hM0:H M=none:=s1.none hM;have s2:=s1.trans (qac hM (.lst []));have hL2:upd (upd H L (.lst [])) M (.lst []) L=some (.lst []):=by rw[qax (qam upd_same hM),upd_same]
  have hM2:upd (upd H L (.lst [])) M (.lst []) M=some (.lst []):=upd_same;have neLM:L≠M:=qam upd_same hM;generalize upd (upd H L (.lst [])) M (.lst [])=H2 at s2 hL2 hM2⊢;have upN:∀{H':Hp},Same H H'->(∃o,H' L=some o)->(∃o,H' M=some o)->Up0 (Nw (Nw (qbP H) L) M) H':=λ{H'} sa hl hs b hb=>by
   obtain⟨o1,e1⟩:=hl;obtain⟨o2,e2⟩:=hs;exact qcR (qcR (sa.none hb) e1 hb) e2 hb
  have rdok:=qfT ro;dsimp only[qcq];refine qa0 (λσ' H'=>∃z1 z2 z3 z4,σ'=[some (.ref p),some (.ref L),some (.ref M),z1,z2,z3,z4]/\Same H H'/\BookAt (Nw (Nw (qbP H) L) M) H' L (rdTo rows rows.length).1/\qde (Nw (Nw (qbP H) L) M) H' M (rdTo rows rows.length).2) (λD' kk=>?_) ?_
  ·refine⟨_,rfl,p,rfl,⟨_,SqL.of (s2 _ _ hp)⟩,qc2 (xs:=rows.map V.str) (λi σ' H'=>∃z1 z2 z3 z4,σ'=[some (.ref p),some (.ref L),some (.ref M),z1,z2,z3,z4]/\Same H H'/\BookAt (Nw (Nw (qbP H) L) M) H' L (rdTo rows i).1/\qde (Nw (Nw (qbP H) L) M) H' M (rdTo rows i).2) ⟨none,none,none,none,rfl,s2,⟨[],hL2,.nil⟩,[],hM2,.nil⟩ ?_ ?_ ?_⟩
   ·rintro i σ' H' hi ⟨z1,z2,z3,z4,rfl,s3,_⟩;exact SqL.of (s3 _ _ hp)
   ·rintro i x σ' H' t hx ht ⟨z1,z2,z3,z4,rfl,s3,B3,M3⟩;rw[qP]at hx;cases er:rows[i]? with
    | none=>rw[er]at hx;cases hx
    | some r =>
    rw[er]at hx;cases hx;have hi:i<rows.length:=(qD.mp er).1;have k4:=qac ht (.tup [.int (i:Nat),.str r]);have s4:=s3.trans k4;rw[qgv er];have oki:=rdok i;have rm:=qft rows i;have rw':=qdp (rdTo rows i).1 r;have okn:=(qhC oki (ro r (qK er))).le;rw[qH]at okn;generalize rdTo rows i=st at *;obtain⟨as3,hL3,nds3⟩:=B3;obtain⟨vs3,hM3,ms3⟩:=M3;refine⟨t,_,rfl,SqT.of upd_same,rfl,_,_,rfl,_,_,rfl,rfl,?_⟩;refine⟨_,rfl,_,rfl,L,r,st.1,_,rfl,BookAt.same ⟨as3,hL3,nds3⟩ k4,oki,ro r (qK er),upN s4 ⟨_,k4 _ _ hL3⟩ ⟨_,k4 _ _ hM3⟩,λtt H5 k5 T5=>?_⟩;generalize qaV st.1 r=rr at *;have s5:=s4.trans k5;have k45:=k4.trans k5;have hL5:=k45 _ _ hL3;have hM5:=k45 _ _ hM3;obtain⟨l,m,et,nl,⟨bs,hl,nds⟩,nm,em⟩:=T5;have lb:bs.length=rr.1.length:=nds.length;have l3:as3.length=st.1.length:=nds3.length;refine⟨_,rfl,.inl ⟨rfl,_,SqL.of hL5⟩,_,rfl,tt,_,_,_,rfl,rfl,SqT.of et,rfl,L,l,_,_,rfl,rfl,hL5,hl,?_,?_⟩
    ·rw[qA,qA];exact yF (qbz (by omega))
    have k6:KeepN (Nw (Nw (qbP H) L) M) H5 (upd H5 L (.lst (as3.map V.ref++bs.map V.ref))):=keep_nw.mono λb n=>n.1
    have s6:=qaD (o:=.lst (as3.map V.ref++bs.map V.ref)) s5 hL;have hL6:upd H5 L (.lst (as3.map V.ref++bs.map V.ref)) L=some (.lst (as3.map V.ref++bs.map V.ref)):=upd_same;have hM6:upd H5 L (.lst (as3.map V.ref++bs.map V.ref)) M=some (.lst vs3):=by rw[qax neLM.symm];exact hM5
    have em6:=k6 _ _ nm em;have et6:upd H5 L (.lst (as3.map V.ref++bs.map V.ref)) tt=some (.tup [.ref l,.ref m]):=by rw[qax (qhc et hL5 (by intro z;cases z))];exact et
    have nds6:=(nds3.keep k45.keep λ_ n _=>n).append nds |>.keep k6 λ_ n _=>n
    have ms6:=(ms3.mono λv p h=>MdAt.keep h k45.keep λ_ n _=>n).mono λv p h=>MdAt.keep h k6 λ_ n _=>n
    have lms:vs3.length=st.2.length:=ms3.length;generalize upd H5 L (.lst (as3.map V.ref++bs.map V.ref))=H6 at *;have zl:(rr.2.map V.str).length<sizeLine:=by rw[qA];exact qbz (by omega)
    refine⟨_,rfl,.inl ⟨rfl,_,SqL.of hM6⟩,_,rfl,tt,_,_,_,rfl,rfl,SqT.of et6,rfl,m,rfl,⟨_,SqL.of em6⟩,qaN (xs:=rr.2.map V.str) (λj ys σ' H'=>Same H6 H'/\Paired (MdAt (Nw (Nw (qbP H) L) M) H') ys ((rr.2.take j).map λy=>((i:Int),y))/\∃z,σ'=[z,some (.int (i:Nat))]) zl ⟨Same.refl H6,.nil,none,rfl⟩ ?_ ?_ ?_⟩
    ·rintro j ys σ' H' hj ⟨k7,pa,_⟩;refine⟨SqL.of (k7 _ _ em6),?_⟩;rw[pa.length,qA,rN];omega
    ·rintro j x ys σ' H' hx ⟨k7,pa,z,rfl⟩;rw[qP]at hx;cases ey:rr.2[j]? with
     | none=>rw[ey]at hx;cases hx
     | some y =>
     rw[ey]at hx;cases hx;refine⟨_,rfl,_,rfl,(by show 2<=sizeLine;decide),λu hu=>⟨k7.trans (qac hu _),?_,_,rfl⟩⟩;rw[rO,ey,rR,qM];exact qbl (pa.mono λv p h=>MdAt.keep h (qac hu _).keep λ_ n _=>n) (.cons ⟨u,rfl,upN (s6.trans k7) ⟨_,k7 _ _ hL6⟩ ⟨_,k7 _ _ hM6⟩ u hu,upd_same⟩ .nil)
    ·rintro ys σ' H7 ⟨k7,pa,_⟩ D hD;rw[qA,rJ]at pa;have k8:=qac hD (.lst ys);have k78:=k7.trans k8;have hM8:=k78 _ _ hM6;have ly:ys.length=rr.2.length:=by rw[pa.length,qA]
     refine⟨M,D,_,_,rfl,rfl,hM8,upd_same,yF (uQ (show _<=2000 by omega) (by decide)),?_⟩;refine⟨_,_,_,_,rfl,qaD (s6.trans k78) hM0,⟨as3++bs,?_,nds6.keep (k78.keep.trans keep_nw) λ_ n _=>n⟩,vs3++ys,upd_same,?_⟩
     ·rw[qax neLM,qM];exact k78 _ _ hL6
     ·exact qbl (ms6.mono λv p h=>MdAt.keep h (k78.keep.trans keep_nw) λ_ n _=>n) (pa.mono λv p h=>MdAt.keep h (k8.keep.trans keep_nw) λ_ n _=>n)
   ·rintro σ' H' ⟨z1,z2,z3,z4,rfl,s3,B3,M3⟩;rw[qA]at B3 M3;exact kk _ _ ⟨z1,z2,z3,z4,rfl,s3,B3,M3⟩
  rintro _ H3 ⟨z1,z2,z3,z4,rfl,s3,B3,M3⟩;have okA:=rdok rows.length;have rm:=qft rows rows.length;have er:qcM rows=(qcd (rdTo rows rows.length).1,(rdTo rows rows.length).2++(qbm (rdTo rows rows.length).1).map λy=>((-1:Int),y)):=rfl;rw[er]at q;generalize rdTo rows rows.length=st at *;obtain⟨as3,hL3,nds3⟩:=B3;obtain⟨vs3,hM3,ms3⟩:=M3;refine⟨_,rfl,L,st.1,_,rfl,⟨as3,hL3,nds3⟩,okA,upN s3 ⟨_,hL3⟩ ⟨_,hM3⟩,λtt H5 k5 T5=>?_⟩;have ew:=endWords_le okA;have s5:=s3.trans k5;have hM5:=k5 _ _ hM3;obtain⟨l,m,et,nl,B5,nm,em⟩:=T5;generalize qbm st.1=wds at *;have zl:(wds.map V.str).length<sizeLine:=by rw[qA];exact qbz (by omega)
  have lms:vs3.length=st.2.length:=ms3.length;refine⟨_,rfl,.inl ⟨rfl,_,SqL.of hM5⟩,_,rfl,tt,_,_,_,rfl,rfl,SqT.of et,rfl,m,rfl,⟨_,SqL.of em⟩,qaN (xs:=wds.map V.str) (λj ys σ' H'=>Same H5 H'/\Paired (MdAt (Nw (Nw (qbP H) L) M) H') ys ((wds.take j).map λy=>((-1:Int),y))/\∃z,σ'=[z]) zl ⟨Same.refl H5,.nil,none,rfl⟩ ?_ ?_ ?_⟩
  ·rintro j ys σ' H' hj ⟨k7,pa,_⟩;refine⟨SqL.of (k7 _ _ em),?_⟩;rw[pa.length,qA,rN];omega
  ·rintro j x ys σ' H' hx ⟨k7,pa,z,rfl⟩;rw[qP]at hx;cases ey:wds[j]? with
   | none=>rw[ey]at hx;cases hx
   | some y =>
   rw[ey]at hx;cases hx;refine⟨_,rfl,(by show 2<=sizeLine;decide),λu hu=>⟨k7.trans (qac hu _),?_,_,rfl⟩⟩;rw[rO,ey,rR,qM];exact qbl (pa.mono λv p h=>MdAt.keep h (qac hu _).keep λ_ n _=>n) (.cons ⟨u,rfl,upN (s5.trans k7) ⟨_,k7 _ _ (k5 _ _ hL3)⟩ ⟨_,k7 _ _ hM5⟩ u hu,upd_same⟩ .nil)
  ·rintro ys σ' H7 ⟨k7,pa,_⟩ D hD;rw[qA,rJ]at pa;have k8:=qac hD (.lst ys);have k78:=k7.trans k8;have hM8:=k78 _ _ hM5;have ly:ys.length=wds.length:=by rw[pa.length,qA]
   refine⟨M,D,_,_,rfl,rfl,hM8,upd_same,yF (uQ (show _<=2000 by omega) (by decide)),?_⟩;have et8:upd (upd H7 D (.lst ys)) M (.lst (vs3++ys)) tt=some (.tup [.ref l,.ref m]):=by rw[qax (qhc (k78 _ _ et) hM8 (by intro z;cases z))];exact k78 _ _ et
   have s9:=qaD (o:=.lst (vs3++ys)) (s5.trans k78) hM0;have hM9:upd (upd H7 D (.lst ys)) M (.lst (vs3++ys)) M=some (.lst (vs3++ys)):=upd_same;have k9:KeepN (Nw (Nw (qbP H) L) M) (upd H7 D (.lst ys)) (upd (upd H7 D (.lst ys)) M (.lst (vs3++ys))):=keep_nw;obtain⟨bs,hl,nds⟩:=B5;have hl9:=k9 _ _ nl (k78 _ _ hl);refine⟨_,rfl,tt,_,_,_,rfl,rfl,SqT.of et8,rfl,_,rfl,(by show 2<=sizeLine;decide),λt ht=>?_⟩;have k10:=qac ht (.tup [.ref l,.ref M]);refine q t l M _ (s9.trans k10) (s9.none ht) upd_same nl.1.1 ⟨bs,k10 _ _ hl9,nds.keep ((k78.keep.trans k9).trans k10.keep) λ_ n _=>n.1.1⟩ hM0 ⟨vs3++ys,k10 _ _ hM9,?_⟩ nl.2;exact qbl (ms3.mono λv p h=>MdAt.keep h ((k5.trans k78).keep.trans (k9.trans k10.keep)) λ_ n _=>n.1.1) (pa.mono λv p h=>MdAt.keep h (k8.keep.trans (k9.trans k10.keep)) λ_ n _=>n.1.1)
abbrev sLevel_of:Stmt:=top 45
abbrev sTreeFault:Stmt:=top 43
abbrev sHeldFault:Stmt:=top 47
theorem scLevel_of:FnScope ["book", "node"] ["book", "node"] (qaf sLevel_of):=⟨rfl,rfl,rfl,by ac_rfl,rfl,by ac_rfl,by ac_rfl⟩
theorem ok_level_of{f:Addr}{fd:FuncData}(F:Fun K "level_of" "level_of" sLevel_of f fd)(T:Bn mg)(F_elders_of:Fx P w K mg base CX0 1 "elders_of" ["book", "node"] spElders):FnOk P w K mg base CX0 2 f fd ["book", "node"] spLevelS:=by
 refine F.ok scLevel_of (λvs H Q E h=>?_) (λcdv A outer s H vs Q E hr h=>?_)
 ·obtain⟨p,i,l,ds,N,rfl,_⟩:=h;rfl
 ·obtain⟨p,i,l,ds,N,rfl,B,lv,ll,q⟩:=h;have hr_elders_of:=hr;refine⟨_,(qad (qai (qal call_len_seq (by rfl) T.len b_len (qaa (qat F_elders_of hr_elders_of (by rfl) qay (qaa (pv 0) (qaa (pv 1) pa_nil))) pa_nil)))),?_⟩;obtain⟨d,ed⟩:=lv.nd;refine⟨_,rfl,_,rfl,p,i,l,d,ds,N,rfl,B,ed,lv,ll,λL H' hL s1 h1=>?_⟩;refine⟨L,_,rfl,.inl (SqL.of h1),?_⟩;rw[qA,qdE];exact q H' s1
theorem lev_one{ds:List Nd}:∀{u v n:Nat},Lev ds n u->Lev ds n v->u=v:=by
 intro u
 induction u with
 | zero =>
   intro v n a b
   obtain⟨d,ed⟩:=a.nd
   rcases qcm a ed with⟨e,_⟩ | ⟨_,_,_,_,z⟩
   · rcases qcm b ed with⟨_,e'⟩ | ⟨j,_,e',_,_⟩
     · exact e'.symm
     · omega
   · cases z
 | succ u ih =>
   intro v n a b
   obtain⟨d,ed⟩:=a.nd
   rcases qcm a ed with⟨_,e⟩ | ⟨j,k,e,lj,e2⟩
   · cases e
   · rcases qcm b ed with⟨e',_⟩ | ⟨j',k',e',lj',e2'⟩
     · omega
     · have:j=j':=by omega
       subst this
       have:k=u:=by omega
       subst this
       have:=ih lj lj'
       omega
theorem scTreeFault:FnScope ["nodes", "number"] ["nodes", "number"] (qaf sTreeFault):=⟨rfl,rfl,rfl,by ac_rfl,rfl,by ac_rfl,by ac_rfl⟩
theorem ok_tree_fault{f:Addr}{fd:FuncData}(F:Fun K "tree_fault" "tree_fault" sTreeFault f fd)(N:Nums mg)(U:Glob mg)(F_hangs_right:Fx P w K mg base CX0 2 "hangs_right" ["nodes", "number"] spHangsX)(F_level_of:Fx P w K mg base CX0 2 "level_of" ["book", "node"] spLevelS):FnOk P w K mg base CX0 3 f fd ["nodes", "number"] spTreeX:=by
 refine F.ok scTreeFault (λvs H Q E h=>?_) (λcdv A outer s H vs Q E hr h=>?_)
 ·obtain⟨p,n,d,ds,N,rfl,_⟩:=h;rfl
 ·obtain⟨p,n,d,ds,N',rfl,⟨as,hp,nd⟩,ed,low,q⟩:=h;obtain⟨_,g_KIND⟩:=N.kind;obtain⟨_,g_GREATEST_LEVEL⟩:=U.level;have hr_hangs_right:=hr;have hr_level_of:=hr;refine⟨_,(qab (qaH (qak op_ne (qaW op_eq (qan ix_tup (qan ix_list (pv 0) (pv 1) (λ_ _=>rfl)) (qae (v:=.int 1) (by rfl) g_KIND ⟨_,rfl⟩) (λ_ _=>rfl)) qah (qap _)) (qaW op_eq (pv 1) qag (qap _)) (qap _)) (qad (qai qah)) pss_nil)
   (qab (qaH (qbj (qaZ (qat F_hangs_right hr_hangs_right (by rfl) qay (qaa (pv 0) (qaa (pv 1) pa_nil))))) (qad (qai qah)) pss_nil)
   (qab (qaH (qak op_gt (qat F_level_of hr_level_of (by rfl) qay (qaa (pv 0) (qaa (pv 1) pa_nil))) (qae (v:=.int 6) (by rfl) g_GREATEST_LEVEL ⟨_,rfl⟩) (qap _)) (qad (qai qah)) pss_nil)
   (qad (qai qah))))),?_⟩
  have no:∀(t:Str) (H':Hp),Same H H'->t.length<=200->t≠noName->¬TreeOk ds n d->Q (.str t) H':=λt H' s l e n=>q t H' s l ⟨λz=>absurd z e,λz=>absurd z n⟩
  obtain⟨a,ea,na⟩:=nd.get ed;obtain⟨m',s',ha,_⟩:=na.ex;have hn:n<ds.length:=(qD.mp ed).1;refine⟨_,rfl,_,rfl,p,_,_,_,rfl,rfl,SqL.of hp,qbO ea,a,_,_,_,rfl,rfl,SqT.of ha,rfl,rfl,_,rfl,rfl,rfl,_,rfl,?_⟩;rw[show decide (V.str d.k.s=V.str (Str.ofString "body"))=decide (d.k=.body)from kdt d.k .body]
  by_cases hb:(d.k=.body↔n=0)
  rotate_left
  ·have e:¬V.bl (decide (d.k=.body))=V.bl (decide (V.int (n:Int)=V.int 0)):=λz=>hb (by
    injection z with z
    have:=xD.mp z;rw[qY,qY]at this;exact this.trans ⟨λz=>by have:=V.int.inj z;omega,λz=>by rw[z];rfl⟩)
   rw[qC e];exact iteT (no _ H (Same.refl H) (by ac_rfl) (by ac_rfl) λz=>hb z.body)
  have e:decide (d.k=.body)=decide (V.int (n:Int)=V.int 0):=by
   by_cases hn:n=0
   ·rw[qB (hb.mpr hn),qB (by rw[hn];rfl)]
   ·rw[qC λz=>hn (hb.mp z),qC λz=>hn (by have:=V.int.inj z;omega)]
  rw[e,qB (rfl:V.bl (decide (V.int (n:Int)=V.int 0))=V.bl (decide (V.int (n:Int)=V.int 0)))];refine iteF ?_;have lw:qil ds n:=λpos=>by
   have e1:ds[n-1]?=some ds[n-1]:=qE (by omega);exact(low (n-1) _ (by omega) e1).lev
  refine⟨_,rfl,_,rfl,p,n,d,ds,N',rfl,⟨as,hp,nd⟩,ed,lw,λb H1 s1 ib=>⟨_,rfl,?_⟩⟩;cases b with
  | false=>exact iteT (no _ H1 s1 (by ac_rfl) (by ac_rfl) λz=>absurd (ib.mpr z.up) (by decide))
  | true =>
    have hg:=ib.mp rfl
    have lu:∃u,u<=7/\Lev ds n u:=by
      rcases hg with⟨_,e⟩ | ⟨pos,j,m,ej,lt,_⟩
      · exact⟨0,by decide,.top ed e⟩
      · have e1:ds[j]?=some ds[j]:=qE (by omega)
        obtain⟨u,u6,lu⟩:=(low j _ lt e1).lev
        exact⟨u+1,by omega,.up ed ej lt lu⟩
    obtain⟨u,u7,lu⟩:=lu
    refine iteF ?_
    refine⟨_,rfl,_,rfl,p,n,u,ds,N',rfl,⟨as,s1 _ _ hp,nd.keep s1.keep λ_ n _=>n⟩,lu,by omega,λH2 s2=>⟨_,_,rfl,rfl,_,rfl,?_⟩⟩
    by_cases u6:u<=6
    · rw[qC (by omega:¬(6:Int)<(u:Nat))]
      exact iteF (q _ H2 (s1.trans s2) (by ac_rfl) ⟨λ_=>⟨hb,hg,u,u6,lu⟩,λ_=>rfl⟩)
    · rw[qB (by omega:(6:Int)<(u:Nat))]
      refine iteT (no _ H2 (s1.trans s2) (by ac_rfl) (by ac_rfl) λz=>?_)
      obtain⟨v,v6,lv⟩:=z.lev
      exact u6 (by rw[lev_one lu lv];exact v6)
theorem b_range:bootBuiltins "range" = some (.type "range"):=by ac_rfl
theorem nexts_at:∀{ks:List Kd} {i:Nat},Nexts ks->ks[i]?=some .aside->ks[i+1]?=some .text
 | [],i,_,h=>by cases h
 | .aside :: .text::r,0,_,_=>rfl
 | .aside :: .text::r,1,_,h=>by cases h
 | .aside :: .text::r,i+2,n,h=>nexts_at (ks:=r) (i:=i) n h
 | k :: r, 0, n, h => by
   cases h
   cases r with
   | nil=>exact n.elim
   | cons c r=>cases c<;>first | rfl | exact n.elim
 | k :: r, i + 1, n, h => by
   have n':Nexts r:=by
     cases k<;>first
       | exact n
       | (cases r with
          | nil=>exact n.elim
          | cons c r=>cases c<;>first | exact n | exact n.elim)
   exact nexts_at (ks:=r) (i:=i) n' h
theorem cut_mid{xs:List V}{i:Nat}{x:V}(h:xs[i+1]?=some x):cutV xs (some ((i:Int)+1)) (some ((i:Int)+2))=[x]:=by
 have hl:i+1<xs.length:=(qD.mp h).1;unfold cutV;rw[show((i:Int)+1)=((i+1:Nat):Int) by omega,show((i:Int)+2)=((i+2:Nat):Int) by omega,HT.sIx_nat,HT.sIx_nat];rw[show min (i+1) xs.length=i+1 by omega,show min (i+2) xs.length=i+2 by omega];have e:xs.drop (i+1)=x::xs.drop (i+2):=by
  rw[y7 hl];have:xs[i+1]=x:=by rw[qE hl]at h;exact rD h
  rw[this]
 rw[e];simp
theorem kid_at{ds:List Nd}{n:Int}{i:Nat}{j:Int}(h:(qaI ds n ds.length)[i]?=some j):∃m d,j=((m:Nat):Int)/\ds[m]?=some d/\(kk ds n)[i]?=some d.k:=by
 have hk:=qgu ds n ds.length (qG _);rw[rJ]at hk;have hi:((qaI ds n ds.length).map (λ(j:Int)=>(ds[j.toNat]?).map (·.k)))[i]?=some ((ds[j.toNat]?).map (·.k)):=by rw[qP,h];rfl
 rw[hk,qP]at hi;have hj:0<=j:=by
  have:=qK h;unfold qaI at this;obtain⟨m,_,rfl⟩:=qV.mp this;omega
 cases e:(kk ds n)[i]? with
 | none=>rw[e]at hi;cases hi
 | some k =>
   rw[e]at hi
   have hi':some k=(ds[j.toNat]?).map (·.k):=rD hi
   cases e2:ds[j.toNat]? with
   | none=>rw[e2]at hi';cases hi'
   | some d =>
     rw[e2]at hi'
     cases hi'
     exact⟨j.toNat,d,by omega,e2,rfl⟩
theorem kids_len(ds:List Nd)(n:Int):(qaI ds n ds.length).length=(kk ds n).length:=by
 have hk:=xO List.length (qgu ds n ds.length (qG _));rw[rJ]at hk;simpa using hk
theorem nexts_of:∀{ks:List Kd},(∀i:Nat,ks[i]?=some Kd.aside->ks[i+1]?=some Kd.text)->Nexts ks
 | [],_=>trivial
 | [.aside],h=>by have:=h 0 rfl;cases this
 | .aside :: c :: r, h => by
   have e:=h 0 rfl
   have e:some c=some Kd.text:=e
   cases e
   exact nexts_of (ks:=r) λi hi=>h (i+2) hi
 | .body::r,h=>nexts_of (ks:=r) λi hi=>h (i+1) hi
 | .case::r,h=>nexts_of (ks:=r) λi hi=>h (i+1) hi
 | .shelf::r,h=>nexts_of (ks:=r) λi hi=>h (i+1) hi
 | .grid::r,h=>nexts_of (ks:=r) λi hi=>h (i+1) hi
 | .text::r,h=>nexts_of (ks:=r) λi hi=>h (i+1) hi
 | .head::r,h=>nexts_of (ks:=r) λi hi=>h (i+1) hi
 | .picture::r,h=>nexts_of (ks:=r) λi hi=>h (i+1) hi
 | .note::r,h=>nexts_of (ks:=r) λi hi=>h (i+1) hi
 | .leaf::r,h=>nexts_of (ks:=r) λi hi=>h (i+1) hi
 | .no::r,h=>nexts_of (ks:=r) λi hi=>h (i+1) hi
theorem cut_none{xs:List V}{i:Nat}(h:xs[i+1]?=none):cutV xs (some ((i:Int)+1)) (some ((i:Int)+2))=[]:=by
 have hl:xs.length<=i+1:=List.getElem?_eq_none_iff.mp h;unfold cutV;rw[show((i:Int)+1)=((i+1:Nat):Int) by omega,show((i:Int)+2)=((i+2:Nat):Int) by omega,HT.sIx_nat,HT.sIx_nat];rw[show min (i+1) xs.length=xs.length by omega,show min (i+2) xs.length=xs.length by omega];simp
theorem kd_len(k:Kd):k.s.length<=7:=by cases k<;>ac_rfl
theorem qfX{t:Str}(h:0<t.length):t≠noName:=λe=>by
 rw[e]at h;exact absurd h (by ac_rfl)
theorem scHeldFault:FnScope ["nodes", "number", "kind", "held", "place", "one"] ["nodes", "number"] (qaf sHeldFault):=⟨rfl,rfl,rfl,by ac_rfl,rfl,by ac_rfl,by ac_rfl⟩
theorem ok_held_fault{f C a_KINDS_NEVER_EMPTY a_KINDS_OF_PIECES:Addr}{fd:FuncData}(F:Fun K "held_fault" "held_fault" sHeldFault f fd)(T:Bn mg)(N:Nums mg)(g_KINDS_OF_PIECES:mg "KINDS_OF_PIECES" = some (.ref a_KINDS_OF_PIECES))(KP:KTup K a_KINDS_OF_PIECES [.text,.head,.note])(g_KINDS_NEVER_EMPTY:mg "KINDS_NEVER_EMPTY" = some (.ref a_KINDS_NEVER_EMPTY))(KE:KTup K a_KINDS_NEVER_EMPTY [.body,.shelf,.grid,.aside])(F_holds:Fx P w K mg base (CX1 P w) 1 "holds" ["book", "node"] (qdb C))(F_may_hold:Fx P w K mg base CX0 1 "may_hold" ["elder_kind", "kind"] spMayX)(F_note_numbers:Fx P w K mg base CX0 1 "note_numbers" ["stuff"] spNotesA):FnOk P w K mg base CX0 2 f fd ["nodes", "number"] spHeldX:=by
 refine F.ok scHeldFault (λvs H Q E h=>?_) (λcdv A outer s H vs Q E hr h=>?_)
 ·obtain⟨p,n,d,ds,N,rfl,_⟩:=h;rfl
 ·obtain⟨p,n,d,ds,N',rfl,⟨as,hp,nd⟩,le,ed,fms,q⟩:=h;obtain⟨_,g_KIND⟩:=N.kind;obtain⟨_,g_STUFF⟩:=N.stuff;have hr_holds:=hr;have hr_may_hold:=hr;have hr_note_numbers:=hr;have hu:=hr.units;refine⟨_,(qab (qau (i:=2) scHeldFault.nd (by rfl) (by trivial) (qan ix_tup (qan ix_list (pv 0) (pv 1) (λ_ _=>rfl)) (qae (v:=.int 1) (by rfl) g_KIND ⟨_,rfl⟩) (λ_ _=>rfl)))
   (qab (qer (i:=3) (by rfl) scHeldFault.nd (by rfl) (by trivial) (own:=["one"]) (ix:=[0]) (frees:=["nodes"]) (CompScope.frees (by rfl) (by ac_rfl) (by ac_rfl) (by ac_rfl) (by rfl) (by ac_rfl) (by first | exact qfC (by rfl) | exact free2 (by rfl) (by rfl))) (qbb (qat F_holds hr_holds (by rfl) qgj (qaa (pv 0) (qaa (pv 1) pa_nil)))) (λcl C s2 H2 fp=>(qaw (i:=0) (by show(["one", "nodes"]:List Str).Nodup;ac_rfl) (by rfl) (by trivial) (by trivial))) (λcl C s2 H2 fp=>qbn) (λcl C s2 H2 fp=>(qan (r:=rIxT K) ix_tup (qan (r:=rIxL K) ix_list (pv 1) (pv 0) (λ_ _=>rfl)) (qae (v:=.int 1) (by rfl) g_KIND ⟨_,rfl⟩) (λ_ _=>rfl))))
   (qab (qaH (qbj (qaZ (qal (qco (by rfl)) (by rfl) T.all b_all (qaa (qba (own:=["one"]) (by rfl) (ix:=[2]) (frees:=["kind"]) (CompScope.frees (by rfl) (by ac_rfl) (by ac_rfl) (by ac_rfl) (by rfl) (by ac_rfl) (by first | exact qfC (by rfl) | exact free2 (by rfl) (by rfl))) (qbb (pv 3)) (λcl C s2 H2 fp=>(qaw (i:=0) (by show(["one", "kind"]:List Str).Nodup;ac_rfl) (by rfl) (by trivial) (by trivial))) (λcl C s2 H2 fp=>qbn) (λcl C s2 H2 fp=>(qat F_may_hold hr_may_hold (by rfl) qay (qaa (pv 1) (qaa (pv 0) pa_nil))))) pa_nil)))) (qad (qai (qdr (qbX qah (qbX (qgr (pv 2)) (qbX qah pj_nil)))))) pss_nil)
   (qab (qaH (PW.pt (qcH (qak op_in_seq (pv 2) (qae (v:=.ref a_KINDS_NEVER_EMPTY) (by rfl) g_KINDS_NEVER_EMPTY rfl) (by with_unfolding_all rfl)) (qbZ (qak op_eq (qal call_len_seq (by rfl) T.len b_len (qaa (pv 3) pa_nil)) qag (qap _))))) (qad (qai (qdr (qbX qah (qbX (qgr (pv 2)) (qbX qah pj_nil)))))) pss_nil)
   (qab (qcl xE (by rfl) (qcQ (by rfl) T.enumerate (qaa (pv 3) pa_nil)) (qdj (by rfl) (qa1 (qaw (i:=4) scHeldFault.nd (by rfl) (by trivial)) (qa1 (qaw (i:=5) scHeldFault.nd (by rfl) (by trivial)) pgs_nil)))
   (qad (qaH (PW.pt (qcH (qak op_eq (pv 5) qah (qap _)) (qbZ (qak (qfL hu) (qaX sl_list (pv 3) (qaY (qaM op_add (pv 4) qag)) (qaY (qaM op_add (pv 4) qag))) (qaR (qaa qah pa_nil)) (qap _))))) (qad (qai qah)) pss_nil)))
   (qab (qaH (PW.pt (qcH (qak op_in_seq (pv 2) (qae (v:=.ref a_KINDS_OF_PIECES) (by rfl) g_KINDS_OF_PIECES rfl) (by with_unfolding_all rfl)) (qbZ (qak (qfL hu) (qat F_note_numbers hr_note_numbers (by rfl) qay (qaa (qan ix_tup (qan ix_list (pv 0) (pv 1) (λ_ _=>rfl)) (qae (v:=.int 4) (by rfl) g_STUFF ⟨_,rfl⟩) (λ_ _=>rfl)) pa_nil)) (qbq (call_list_rng (by rfl)) (by rfl) T.list b_list (qaa (qbq call_rng1 (by rfl) T.range b_range (qaa (qal call_len_seq (by rfl) T.len b_len (qaa (pv 3) pa_nil)) pa_nil)) pa_nil)) (qap _))))) (qad (qai qah)) pss_nil)
   (qad (qai qah)))))))),?_⟩
  have fx:=fms d (qK ed);have hkk:=fx.2.2.1;have no:∀(t:Str) (H':Hp),Same H H'->t.length<=200->t≠noName->¬Holds d.k (kk ds n) d.st->Q (.str t) H':=λt H' s l e n=>q t H' s l ⟨λz=>absurd z e,λz=>absurd z n⟩
  have kl7:=kd_len d.k;have sz:sizeLine=16777216:=by decide
  obtain⟨a,ea,na⟩:=nd.get ed;obtain⟨m,sf,ha,_,_,st⟩:=na.ex;have hn:n<ds.length:=(qD.mp ed).1;refine⟨_,rfl,_,rfl,p,_,_,_,rfl,rfl,SqL.of hp,qbO ea,a,_,_,_,rfl,rfl,SqT.of ha,rfl,?_⟩;refine⟨_,rfl,_,rfl,p,n,ds,N',rfl,⟨as,hp,nd⟩,by omega,qX (show((n:Int)).natAbs<1000 by omega) (by ac_rfl),.inr ⟨⟨by omega,by omega⟩,λl H1 hl s1 el=>?_⟩⟩;have kl:=qcS ds n ds.length;have kn:=kids_len ds n;generalize hks:kk ds n=ks at kn q no;have zl:((qaI ds n ds.length).map V.int).length<sizeLine:=by rw[qA];exact qaG (by omega)
  refine⟨l,rfl,⟨_,SqL.of el⟩,qaN (λi ys σ' H'=>H'=H1/\ys=(ks.take i).map (λk=>V.str k.s)/\∃z,σ'=[z,some (.ref p)]) zl ⟨rfl,rfl,none,rfl⟩ ?_ ?_ ?_⟩
  ·rintro i ys σ' H' hi ⟨rfl,rfl,_⟩;exact⟨SqL.of el,by rw[qA,rN];exact yM _ _⟩
  ·rintro i x ys σ' H' hx ⟨rfl,rfl,z,rfl⟩;rw[qP]at hx;cases e:(qaI ds n ds.length)[i]? with
   | none=>rw[e]at hx;cases hx
   | some j =>
     rw[e]at hx
     cases hx
     obtain⟨mj,dj,rfl,edj,ekj⟩:=kid_at e
     rw[hks]at ekj
     obtain⟨aj,eaj,naj⟩:=nd.get edj
     obtain⟨m2,s2,haj,_⟩:=naj.ex
     refine⟨_,rfl,_,rfl,p,_,_,_,rfl,rfl,SqL.of (s1 _ _ hp),qbO eaj,aj,_,_,_,rfl,rfl,SqT.of (s1 _ _ haj),rfl,rfl,?_,_,rfl⟩
     rw[qcc (λk:Kd=>V.str k.s) ekj]
  rintro ys σ' H' ⟨rfl,rfl,_⟩ D hD;have eT:ks.take ((qaI ds n ds.length).map V.int).length=ks:=by rw[qA,kn,rJ]
  rw[eT];have s2:=s1.trans (qac hD (.lst (ks.map λk=>V.str k.s)));have eD:upd H' D (.lst (ks.map λk=>V.str k.s)) D=some (.lst (ks.map λk=>V.str k.s)):=upd_same;generalize upd H' D (.lst (ks.map λk=>V.str k.s))=H2 at s2 eD⊢;have zk:(ks.map λk=>V.str k.s).length<sizeLine:=by rw[qA];exact qaG (by omega)
  refine⟨_,rfl,D,rfl,⟨_,SqL.of eD⟩,qaN (λi ys σ' H'=>H'=H2/\ys=((ks.take i).map (mayHold d.k)).map V.bl/\∃z,σ'=[z,some (.str d.k.s)]) zk ⟨rfl,rfl,none,rfl⟩ ?_ ?_ ?_⟩
  ·rintro i ys σ' H' hi ⟨rfl,rfl,_⟩;exact⟨SqL.of eD,by simp;omega⟩
  ·rintro i x ys σ' H' hx ⟨rfl,rfl,z,rfl⟩;rw[qP]at hx;cases e:ks[i]? with
   | none=>rw[e]at hx;cases hx
   | some k =>
     rw[e]at hx
     cases hx
     refine⟨_,rfl,_,rfl,d.k,k,rfl,hkk,rfl,?_,_,rfl⟩
     rw[rO,e,rR,qM,qM]
     rfl
  rintro ys σ' H' ⟨rfl,rfl,_⟩ D2 hD2;rw[qA,rJ]at *;have s3:=s2.trans (qac hD2 (.lst ((ks.map (mayHold d.k)).map V.bl)));have eD3:=qac hD2 (.lst ((ks.map (mayHold d.k)).map V.bl)) _ _ eD;refine⟨D2,_,rfl,SqL.of upd_same,_,rfl,?_⟩;generalize upd H' D2 (.lst ((ks.map (mayHold d.k)).map V.bl))=H3 at s3 eD3⊢
  by_cases al:(ks.map (mayHold d.k)).all id=true
  rotate_left
  ·rw[uD.mpr al];have l0:(Str.empty++Str.ofString "a ").length=2:=by ac_rfl
   have l2:(Str.ofString " does not hold this").length=19:=by ac_rfl
   refine iteT ⟨_,rfl,by omega,_,rfl,d.k.s,rfl,by omega,_,rfl,by rw[qaz];omega,_,rfl,by rw[qaz,qaz];omega,by rw[qaz,qaz];omega,?_⟩;refine no (((Str.empty++Str.ofString "a ")++d.k.s)++Str.ofString " does not hold this") _ s3 (by rw[qaz,qaz];omega) (qfX (by rw[qaz,qaz];omega)) λz=>al ?_
   rw[xB];intro b hb;obtain⟨x,hx,rfl⟩:=qV.mp hb;exact z.1 x hx
  have h1:∀c∈ks,mayHold d.k c=true:=λx hx=>xB.mp al _ (qV.mpr ⟨x,hx,rfl⟩)
  rw[al];refine iteF ?_;dsimp only[tNext];refine qbs (λσ' H'=>σ'=[some (.ref p),some (.int n),some (.str d.k.s),some (.ref D),none,none]/\H'=H3/\(neverEmpty d.k=true->ks≠[])) (λN0 k=>?_) ?_
  ·refine⟨_,rfl,a_KINDS_NEVER_EMPTY,_,rfl,.inr (KE H3),rfl,qby _,_,rfl,?_⟩;rw[if_neg qL,qbT]
   by_cases hne:d.k∈[Kd.body,.shelf,.grid,.aside]
   ·rw[qB hne];have nv:neverEmpty d.k=true:=by
     simp only[List.mem_cons,List.not_mem_nil,or_false]at hne;rcases hne with e | e | e | e<;>rw[e]<;>rfl
    refine iteT ⟨_,rfl,D,_,rfl,.inl (SqL.of eD3),rfl,_,rfl,?_⟩
    by_cases ne:ks=[]
    ·rw[qB (by rw[ne];rfl:V.int ((ks.map λk=>V.str k.s).length:Nat)=V.int 0)];have l0:(Str.empty++Str.ofString "a ").length=2:=by ac_rfl
     have l2:(Str.ofString " holds one at least").length=19:=by ac_rfl
     refine iteT ⟨_,rfl,by omega,_,rfl,d.k.s,rfl,by omega,_,rfl,by rw[qaz];omega,_,rfl,by rw[qaz,qaz];omega,by rw[qaz,qaz];omega,?_⟩;exact no (((Str.empty++Str.ofString "a ")++d.k.s)++Str.ofString " holds one at least") _ s3 (by rw[qaz,qaz];omega) (qfX (by rw[qaz,qaz];omega)) λz=>z.2.1 nv ne
    rw[qC (λz=>ne (by have:=V.int.inj z;rw[qA]at this;exact uM.mp (by omega)):¬V.int ((ks.map λk=>V.str k.s).length:Nat)=V.int 0)];exact iteF (k _ _ ⟨rfl,rfl,λ_=>ne⟩)
   ·rw[qC hne];exact iteF (iteF (k _ _ ⟨rfl,rfl,λz=>by cases hq:d.k<;>rw[hq]at z hne<;>first | exact absurd (by decide) hne | cases z⟩))
  rintro σ1 H4 ⟨rfl,rfl,h2⟩;refine qbs (λσ' H'=>(∃x y,σ'=[some (.ref p),some (.int n),some (.str d.k.s),some (.ref D),x,y])/\Same H4 H'/\Nexts ks) (λN0 k=>?_) ?_
  ·refine⟨_,rfl,D,rfl,⟨_,SqL.of eD3⟩,qc2 (xs:=ks.map λk=>V.str k.s) (λi σ' H'=>(∃x y,σ'=[some (.ref p),some (.int n),some (.str d.k.s),some (.ref D),x,y])/\Same H4 H'/\∀j,j<i->ks[j]?=some .aside->ks[j+1]?=some .text) ⟨⟨none,none,rfl⟩,Same.refl H4,λj hj=>absurd hj (xM _)⟩ ?_ ?_ ?_⟩
   ·rintro i σ' H' hi ⟨_,s,_⟩;exact SqL.of (s _ _ eD3)
   ·rintro i x σ' H' t hx ht ⟨⟨v1,v2,rfl⟩,s4,pr⟩;rw[qP]at hx;cases e:ks[i]? with
    | none=>rw[e]at hx;cases hx
    | some k1 =>
      rw[e]at hx
      cases hx
      have s5:=s4.trans (qac ht (.tup [.int (i:Nat),.str k1.s]))
      refine⟨t,_,rfl,SqT.of upd_same,rfl,_,_,rfl,_,_,rfl,rfl,?_⟩
      refine⟨_,rfl,rfl,_,rfl,?_⟩
      rw[show decide (V.str k1.s=V.str (Str.ofString "aside"))=decide (k1=.aside)from kdt k1 .aside]
      by_cases hk1:k1=.aside
      · rw[decide_eq_true hk1]
        subst hk1
        refine iteT ⟨_,rfl,_,rfl,_,_,rfl,rfl,_,rfl,_,rfl,_,_,rfl,rfl,_,rfl,D,_,rfl,SqL.of (s5 _ _ eD3),λl1 hl1=>?_⟩
        have s6:=s5.trans (qac hl1 (.lst (cutV (ks.map λk=>V.str k.s) (some ((i:Int)+1)) (some ((i:Int)+2)))))
        refine⟨by show 1<=sizeLine;decide,λl2 hl2=>?_⟩
        have s7:=qac hl2 (.lst [V.str (Str.ofString "text")])
        have bad:ks[i+1]?≠some .text->¬Holds d.k ks d.st:=λz h=>z (nexts_at h.2.2.1 e)
        cases en:ks[i+1]? with
        | none =>
          refine⟨.list [],.list [.str (Str.ofString "text")],.lst (s7 _ _ (by rw[upd_same,cut_none (by rw[qP,en];rfl)])) .nil,.lst upd_same (.cons (.str _) .nil),by ac_rfl,by ac_rfl,λz=>(by cases z),λ_=>⟨_,rfl,iteT ?_⟩⟩
          exact no _ _ (s3.trans (s6.trans s7)) (by ac_rfl) (by ac_rfl) (bad (by rw[en];exact λz=>by cases z))
        | some k2 =>
          refine⟨.list [.str k2.s],.list [.str (Str.ofString "text")],.lst (s7 _ _ (by rw[upd_same,cut_mid (x:=V.str k2.s) (by rw[qP,en];rfl)])) (.cons (.str _) .nil),.lst upd_same (.cons (.str _) .nil),by cases k2<;>ac_rfl,by ac_rfl,λz=>⟨_,rfl,iteF ⟨⟨_,_,rfl⟩,s6.trans s7,λj hj hja=>?_⟩⟩,λz=>⟨_,rfl,iteT ?_⟩⟩
          · rcases uH.mp hj with hj | rfl
            · exact pr j hj hja
            · injection z with z
              injection z with z
              injection z with z
              have z2:k2=.text:=(Kd.inj k2 .text).mp z
              rw[en,z2]
          · exact no _ _ (s3.trans (s6.trans s7)) (by ac_rfl) (by ac_rfl) (bad (by rw[en];exact λz2=>z (by injection z2 with z2;rw[z2];rfl)))
      · rw[qC hk1]
        refine iteF (iteF ⟨⟨_,_,rfl⟩,s5,λj hj hja=>?_⟩)
        rcases uH.mp hj with hj | rfl
        · exact pr j hj hja
        · rw[e]at hja
          injection hja with hja
          exact absurd hja hk1
   ·rintro σ' H' ⟨hσ,s,pr⟩;rw[qA]at pr;exact k _ _ ⟨hσ,s,nexts_of λi hi=>pr i (qD.mp hi).1 hi⟩
  rintro σ2 H5 ⟨⟨v1,v2,rfl⟩,s5,h3⟩;have s35:=s3.trans s5;have eD5:=s5 _ _ eD3;refine⟨_,rfl,a_KINDS_OF_PIECES,_,rfl,.inr (KP H5),rfl,qby _,_,rfl,?_⟩;rw[if_neg qL,qbT]
  by_cases hpc:d.k∈[Kd.text,.head,.note]
  ·rw[qB hpc];have op:ofPieces d.k=true:=by
    simp only[List.mem_cons,List.not_mem_nil,or_false]at hpc;rcases hpc with e | e | e<;>rw[e]<;>rfl
   have ok':(∀x∈d.st,PcOk x)/\d.st.length<=60:=by
    have ok:=fx.2.2.2.st;simp only[List.mem_cons,List.not_mem_nil,or_false]at hpc;rcases hpc with e | e | e<;>rw[e]at ok<;>exact⟨ok.1,ok.2.2⟩
   refine iteT ⟨_,rfl,_,rfl,p,_,_,_,rfl,rfl,SqL.of (s35 _ _ hp),qbO ea,a,_,_,_,rfl,rfl,SqT.of (s35 _ _ ha),rfl,sf,d.st,N',rfl,st.keep s35.keep λ_ n _=>n,ok'.1,ok'.2,λl1 H6 hl1 s6 el1=>?_⟩;refine⟨_,rfl,D,_,rfl,.inl (SqL.of (s6 _ _ eD5)),ks.length,by show[V.int (((ks.map λk=>V.str k.s).length:Nat):Int)]=_;rw[qA],by omega,λr hr'=>?_⟩;have s7:=s6.trans (qac hr' (.rng 0 (ks.length:Nat)));refine⟨r,ks.length,rfl,by omega,upd_same,λl2 hl2=>?_⟩;have s8:=qac hl2 (.lst ((nums ks.length).map V.int));have s67:=qac hr' (.rng 0 (ks.length:Nat));refine⟨.list ((qaj d.st).map .int),.list ((nums ks.length).map .int),.lst (s8 _ _ (s67 _ _ el1)) (qiO _),.lst upd_same (qiO _),qh1 _,qh1 _,λz=>⟨_,rfl,iteF ?_⟩,λz=>⟨_,rfl,iteT ?_⟩⟩
   ·injection z with z
    exact q _ _ (s35.trans (s7.trans s8)) (by ac_rfl) ⟨λ_=>⟨h1,h2,h3,λ_=>qdN (λa b h=>by injection h) z⟩,λ_=>rfl⟩
   ·exact no _ _ (s35.trans (s7.trans s8)) (by ac_rfl) (by ac_rfl) λh=>z (by rw[h.2.2.2 op])
  ·rw[qC hpc];exact iteF (iteF (q _ _ s35 (by ac_rfl) ⟨λ_=>⟨h1,h2,h3,λz=>by cases hq:d.k<;>rw[hq]at z hpc<;>first | exact absurd (by decide) hpc | cases z⟩,λ_=>rfl⟩))
abbrev sMadeBook:Stmt:=top 34
theorem NdNew.keep{M M' N:Addr->Prop}{H H':Hp}{a:Addr}{d:Nd}(h:NdNew M N H a d)(s:Same H H')(sub:∀b,M b->M' b):NdNew M' N H' a d:=by
 obtain⟨na,m,sf,ha,nm,hm,ns,vs,hs,its⟩:=h;exact⟨sub _ na,m,sf,s _ _ ha,sub _ nm,s _ _ hm,sub _ ns,vs,s _ _ hs,its.mono λv x y=>y.keep s.keep λ_ n _=>n⟩
def BookNew(M N:Addr->Prop)(H:Hp)(p:Addr)(ds:List Nd):Prop:=∃as,H p=some (.lst (as.map V.ref))/\Paired (NdNew (λb=>M b/\b≠p) N H) as ds
theorem NdNew.ne{M N:Addr->Prop}{H:Hp}{a D:Addr}{d:Nd}(h:NdNew M N H a d)(hD:H D=none):NdNew (λb=>M b/\b≠D) N H a d:=by
 obtain⟨na,m,sf,ha,nm,hm,ns,vs,hs,its⟩:=h;exact⟨⟨na,qam ha hD⟩,m,sf,ha,⟨nm,qam hm hD⟩,hm,⟨ns,qam hs hD⟩,vs,hs,its⟩
def qhU(C:Addr):Sp:=λvs H Q E=>∃(p:Addr) (ds:List Nd) (N:Addr->Prop),vs=[.ref p]/\BookAt N H p ds/\(∀d∈ds,Raw d)/\ds.length<=500 /\
 ((GoodX ds/\∀p' H',H p'=none->Same H H'->BookNew (qbP H) N H' p' ds->Q (.ref p') H')\/(¬GoodX ds/\∀H',Same H H'->E (.ref C) none H'))
theorem scMadeBook:FnScope ["nodes", "number", "node"] ["nodes"] (qaf sMadeBook):=⟨rfl,rfl,rfl,by ac_rfl,rfl,by ac_rfl,by ac_rfl⟩
theorem ok_made_book{f C:Addr}{fd:FuncData}{bm:List Value}{B newId initId:String}(F:FunD K "made_book" "made_book" sMadeBook f fd)(T:Bn mg)(U:Glob mg)(NU:Nums mg)(O_NoBook:PyProof.Rows.OwnCls "NoBook" C bm newId mg base)(FB:ExcBaseFacts B newId initId bm)(F_refuse_fault:Fx P w K mg base (CX1 P w) 1 "refuse_fault" ["number", "fault"] (qfP C))(F_form_fault:Fx P w K mg base CX0 6 "form_fault" ["node"] spFormX)(F_tree_fault:Fx P w K mg base CX0 3 "tree_fault" ["nodes", "number"] spTreeX)(F_held_fault:Fx P w K mg base CX0 2 "held_fault" ["nodes", "number"] spHeldX)(F_are_unlike:Fx P w K mg base CX0 1 "are_unlike" ["texts"] spUnlikeX)(F_copied_node:Fx P w K mg base CX0 1 "copied_node" ["node"] spCopied):FnOk P w K mg base (CX1 P w) 7 f fd ["nodes"] (qhU C):=by
 refine F.ok scMadeBook (λvs H Q E h=>?_) (λcdv A outer s H vs Q E hr h=>?_)
 ·obtain⟨p,ds,N,rfl,_⟩:=h;rfl
 ·obtain⟨p,ds,N,rfl,⟨as,hp,nd⟩,raw,l5,alt⟩:=h;obtain⟨_,g_MOST_NODES⟩:=U.nodes;obtain⟨_,g_NAME⟩:=NU.name;have hr_refuse_fault:Room 1 _:=hr.mono (by decide);have hr_tree_fault:Room 3 _:=hr.mono (by decide);have hr_held_fault:Room 2 _:=hr.mono (by decide);have hr_are_unlike:Room 1 _:=hr.mono (by decide);have hr_copied_node:Room 1 _:=hr.mono (by decide);have hr_form_fault:=hr;have lenas:as.length=ds.length:=nd.length;have el:(((as.map V.ref).length:Nat):Int)=ds.length:=by rw[qA,lenas]
  have zl:(as.map V.ref).length<sizeLine:=by rw[qA];exact qaG (by omega)
  refine⟨_,(qab (qaH (PW.pt (qdv (qbj (qaZ (qdn T.isinstance (by rfl) T.list (by rfl) b_list (pv 0)))) (qcr (qbj (qcF op_le op_le qag (qal call_len_seq (by rfl) T.len b_len (qaa (pv 0) pa_nil)) (qae (v:=.int 60) (by rfl) g_MOST_NODES ⟨_,rfl⟩)))))) (qad (qd5 O_NoBook FB (show A.handled=none from hr.hd) (by rfl) (qaa qah pa_nil))) pss_nil)
   (qab (qcl wC (by rfl) (qcQ (by rfl) T.enumerate (qaa (pv 0) pa_nil)) (qdj (by rfl) (qa1 (qaw (i:=1) scMadeBook.nd (by rfl) (by trivial)) (qa1 (qaw (i:=2) scMadeBook.nd (by rfl) (by trivial)) pgs_nil)))
   (qad (qaS (qat F_refuse_fault hr_refuse_fault (by rfl) pass1 (qaa (pv 1) (qaa (qat F_form_fault hr_form_fault (by rfl) qay (qaa (pv 2) pa_nil)) pa_nil))))))
   (qab (qcl wC (by rfl) (qb6 (by rfl) T.range (qaa (qal call_len_seq (by rfl) T.len b_len (qaa (pv 0) pa_nil)) pa_nil)) (qaw (i:=1) scMadeBook.nd (by rfl) (by trivial))
   (qad (qaS (qat F_refuse_fault hr_refuse_fault (by rfl) pass1 (qaa (pv 1) (qaa (qat F_tree_fault hr_tree_fault (by rfl) qay (qaa (pv 0) (qaa (pv 1) pa_nil))) pa_nil))))))
   (qab (qcl wC (by rfl) (qb6 (by rfl) T.range (qaa (qal call_len_seq (by rfl) T.len b_len (qaa (pv 0) pa_nil)) pa_nil)) (qaw (i:=1) scMadeBook.nd (by rfl) (by trivial))
   (qad (qaS (qat F_refuse_fault hr_refuse_fault (by rfl) pass1 (qaa (pv 1) (qaa (qat F_held_fault hr_held_fault (by rfl) qay (qaa (pv 0) (qaa (pv 1) pa_nil))) pa_nil))))))
   (qab (qaH (qbj (qaZ (qat F_are_unlike hr_are_unlike (by rfl) qay (qaa (qba (own:=["node"]) (by rfl) (CompScope.plain (by rfl) (by ac_rfl) (by ac_rfl) (by ac_rfl)) (qbb (pv 0)) (λcl C s2 H2 fp=>(qaw (i:=0) (by show(["node"]:List Str).Nodup;ac_rfl) (by rfl) (by trivial) (by trivial))) (λcl C s2 H2 fp=>(qcN (qak op_ne (qan (r:=rIxT K) ix_tup (pv 0) (qae (v:=.int 2) (by rfl) g_NAME ⟨_,rfl⟩) (λ_ _=>rfl)) qah (qap _)))) (λcl C s2 H2 fp=>(qan (r:=rIxT K) ix_tup (pv 0) (qae (v:=.int 2) (by rfl) g_NAME ⟨_,rfl⟩) (λ_ _=>rfl)))) pa_nil)))) (qad (qd5 O_NoBook FB (show A.handled=none from hr.hd) (by rfl) (qaa qah pa_nil))) pss_nil)
   (qad (qai (qba (own:=["node"]) (by rfl) (CompScope.plain (by rfl) (by ac_rfl) (by ac_rfl) (by ac_rfl)) (qbb (pv 0)) (λcl C s2 H2 fp=>(qaw (i:=0) (by show(["node"]:List Str).Nodup;ac_rfl) (by rfl) (by trivial) (by trivial))) (λcl C s2 H2 fp=>qbn) (λcl C s2 H2 fp=>(qat F_copied_node hr_copied_node (by rfl) qay (qaa (pv 0) pa_nil))))))))))),?_⟩
  have bad:¬GoodX ds->∀H',Same H H'->E (.ref C) none H':=λn=>alt.elim (λa=>absurd a.1 n) λa=>a.2
  refine⟨_,rfl,_,_,_,_,rfl,.lst hp,⟨_,λu r=>r,k_ll⟩,_,rfl,iteF ?_⟩;refine⟨_,rfl,p,_,rfl,.inl (SqL.of hp),_,_,rfl,rfl,_,rfl,?_⟩
  by_cases ge:1<=ds.length
  rotate_left
  ·rw[qC (by omega:¬(1:Int)<=(((as.map V.ref).length:Nat):Int))];exact iteF ⟨_,rfl,iteT ⟨by show 1<=sizeLine;decide,bad (λg=>ge g.ge) H (Same.refl H)⟩⟩
  rw[qB (by omega:(1:Int)<=(((as.map V.ref).length:Nat):Int))];refine iteT ⟨_,_,rfl,rfl,_,rfl,?_⟩
  by_cases le:ds.length<=60
  rotate_left
  ·rw[qC (by omega:¬(((as.map V.ref).length:Nat):Int)<=60)];exact iteT ⟨by show 1<=sizeLine;decide,bad (λg=>le g.le) H (Same.refl H)⟩
  rw[qB (by omega:(((as.map V.ref).length:Nat):Int)<=60)];refine iteF ?_;dsimp only[tNext];refine qbs (λσ' H'=>(∃x y,σ'=[some (.ref p),x,y])/\Same H H'/\∀d∈ds,qhb d) (λN0 k=>?_) ?_
  ·refine⟨_,rfl,p,rfl,⟨_,SqL.of hp⟩,qc2 (xs:=as.map V.ref) (λi σ' H'=>(∃x y,σ'=[some (.ref p),x,y])/\Same H H'/\∀d∈ds.take i,qhb d) ⟨⟨none,none,rfl⟩,Same.refl H,(λd hd=>nomatch hd)⟩ ?_ ?_ ?_⟩
   ·rintro i σ' H' hi ⟨_,s1,_⟩;exact SqL.of (s1 _ _ hp)
   ·rintro i x σ' H' t hx ht ⟨⟨v1,v2,rfl⟩,s1,fs⟩;obtain⟨a,ea,rfl⟩:=qdu hx;obtain⟨d,ed,nad⟩:=nd.at ea;have s2:=s1.trans (qac ht (.tup [.int (i:Nat),.ref a]));have hi':i<ds.length:=(qD.mp ed).1;have hd:=qK ed;refine⟨t,_,rfl,SqT.of upd_same,rfl,_,_,rfl,_,_,rfl,rfl,?_⟩;refine⟨_,rfl,_,rfl,a,d,N,rfl,nad.keep s2.keep λ_ n _=>n,raw d hd,λft H3 s3 tl ift=>⟨(i:Int),ft,rfl,by omega,tl,?_⟩⟩
    by_cases hf:ft=noName
    ·refine .inl ⟨hf,⟨_,_,rfl⟩,s2.trans s3,λy hy=>?_⟩;rw[rO,ed]at hy;rcases qW.mp hy with hy | hy
     ·exact fs y hy
     ·have:y=d:=by simpa using hy
      rw[this];exact ift.mp hf
    ·exact .inr ⟨hf,bad (λg=>hf (ift.mpr (g.form d hd))) _ (s2.trans s3)⟩
   ·rintro σ' H' ⟨hσ,s1,fs⟩;rw[qA,lenas,rJ]at fs;exact k _ _ ⟨hσ,s1,fs⟩
  rintro σ1 H1 ⟨⟨v1,v2,rfl⟩,s1,fms⟩;refine qbs (λσ' H'=>(∃x y,σ'=[some (.ref p),x,y])/\Same H H'/\∀i c,i<ds.length->ds[i]?=some c->TreeOk ds i c) (λN0 k=>?_) ?_
  ·refine⟨_,rfl,p,_,rfl,.inl (SqL.of (s1 _ _ hp)),_,rfl,by omega,by omega,qcU (λi σ' H'=>(∃x y,σ'=[some (.ref p),x,y])/\Same H H'/\∀j c,j<i->ds[j]?=some c->TreeOk ds j c) ⟨⟨_,_,rfl⟩,s1,λj c hj=>absurd hj (xM _)⟩ ?_ ?_⟩
   ·rintro i σ' H' hi ⟨⟨v1,v2,rfl⟩,s2,pr⟩;have hi':i<ds.length:=by rw[el]at hi;simpa using hi
    have ed:ds[i]?=some ds[i]:=qE hi';refine⟨_,rfl,_,rfl,_,rfl,p,i,ds[i],ds,N,by show[V.ref p,V.int (0+(i:Int))]=_;rw[wJ],⟨as,s2 _ _ hp,nd.keep s2.keep λ_ n _=>n⟩,ed,pr,λft H3 s3 tl ift=>⟨(0+(i:Int)),ft,rfl,by omega,tl,?_⟩⟩
    by_cases hf:ft=noName
    ·refine .inl ⟨hf,⟨_,_,rfl⟩,s2.trans s3,λj c hj hc=>?_⟩;rcases uH.mp hj with hj | rfl
     ·exact pr j c hj hc
     ·rw[ed]at hc;cases hc;exact ift.mp hf
    ·exact .inr ⟨hf,bad (λg=>hf (ift.mpr (g.tree i _ ed))) _ (s2.trans s3)⟩
   ·rintro σ' H' ⟨hσ,s2,pr⟩;refine k _ _ ⟨hσ,s2,λi c hi hc=>pr i c ?_ hc⟩;rw[el];simpa using hi
  rintro σ2 H2 ⟨⟨v1,v2,rfl⟩,s2,trs⟩;refine qbs (λσ' H'=>(∃x y,σ'=[some (.ref p),x,y])/\Same H H'/\∀(i:Nat) c,i<ds.length->ds[i]?=some c->Holds c.k (kk ds i) c.st) (λN0 k=>?_) ?_
  ·refine⟨_,rfl,p,_,rfl,.inl (SqL.of (s2 _ _ hp)),_,rfl,by omega,by omega,qcU (λi σ' H'=>(∃x y,σ'=[some (.ref p),x,y])/\Same H H'/\∀(j:Nat) c,j<i->ds[j]?=some c->Holds c.k (kk ds j) c.st) ⟨⟨_,_,rfl⟩,s2,λj c hj=>absurd hj (xM _)⟩ ?_ ?_⟩
   ·rintro i σ' H' hi ⟨⟨v1,v2,rfl⟩,s3,pr⟩;have hi':i<ds.length:=by rw[el]at hi;simpa using hi
    have ed:ds[i]?=some ds[i]:=qE hi';refine⟨_,rfl,_,rfl,_,rfl,p,i,ds[i],ds,N,by show[V.ref p,V.int (0+(i:Int))]=_;rw[wJ],⟨as,s3 _ _ hp,nd.keep s3.keep λ_ n _=>n⟩,by omega,ed,fms,λft H4 s4 tl ift=>⟨(0+(i:Int)),ft,rfl,by omega,tl,?_⟩⟩
    by_cases hf:ft=noName
    ·refine .inl ⟨hf,⟨_,_,rfl⟩,s3.trans s4,λj c hj hc=>?_⟩;rcases uH.mp hj with hj | rfl
     ·exact pr j c hj hc
     ·rw[ed]at hc;cases hc;exact ift.mp hf
    ·exact .inr ⟨hf,bad (λg=>hf (ift.mpr (g.held i _ ed))) _ (s3.trans s4)⟩
   ·rintro σ' H' ⟨hσ,s3,pr⟩;refine k _ _ ⟨hσ,s3,λi c hi hc=>pr i c ?_ hc⟩;rw[el];simpa using hi
  rintro σ3 H3 ⟨⟨v1,v2,rfl⟩,s3,hls⟩;refine⟨_,rfl,p,rfl,⟨_,SqL.of (s3 _ _ hp)⟩,qaN (λi ys σ' H'=>H'=H3/\ys=(((ds.take i).filter λd=>d.nm≠noName).map (·.nm)).map V.str/\∃z,σ'=[z]) zl ⟨rfl,rfl,none,rfl⟩ ?_ ?_ ?_⟩
  ·rintro i ys σ' H' hi ⟨rfl,rfl,_⟩;refine⟨SqL.of (s3 _ _ hp),?_⟩;rw[qA,qA];exact qR (yC ..) (by rw[rN];exact yM _ _)
  ·rintro i x ys σ' H' hx ⟨rfl,rfl,z,rfl⟩;obtain⟨a,ea,rfl⟩:=qdu hx;obtain⟨d,ed,nad⟩:=nd.at ea;obtain⟨m,sf,ha,_⟩:=nad.ex;refine⟨_,rfl,a,_,_,_,rfl,rfl,SqT.of (s3 _ _ ha),rfl,rfl,_,rfl,?_⟩;rw[show decide (V.str d.nm=V.str (Str.ofString ""))=decide (d.nm=noName)from nmt d.nm];rw[rO,ed,rR,rT,qM,qM]
   by_cases hn:d.nm=noName
   ·rw[qB hn];exact iteF ⟨rfl,by simp[hn],_,rfl⟩
   ·rw[qC hn];exact iteT ⟨_,rfl,a,_,_,_,rfl,rfl,SqT.of (s3 _ _ ha),rfl,rfl,by simp[hn],_,rfl⟩
  rintro ys σ' H' ⟨rfl,rfl,_⟩ D hD;have eT:ds.take (as.map V.ref).length=ds:=by rw[qA,lenas,rJ]
  rw[eT];have s4:=s3.trans (qac hD (.lst ((((ds.filter λd=>d.nm≠noName).map (·.nm))).map V.str)));refine⟨D,_,rfl,upd_same,?_,λb H5 s5 ib=>⟨_,rfl,?_⟩⟩
  ·rw[qA];exact qR (yC ..) (by omega)
  have s45:=s4.trans s5;cases b with
  | false=>exact iteT ⟨by show 1<=sizeLine;decide,bad (λg=>absurd (ib.mpr g.names) (by decide)) _ s45⟩
  | true =>
  refine iteF ?_;have good:GoodX ds:=⟨ge,le,fms,λn d h=>trs n d (qD.mp h).1 h,λn d h=>hls n d (qD.mp h).1 h,ib.mp rfl⟩;have q:=alt.elim (λa=>a.2) λa=>absurd good a.1
  refine⟨_,rfl,p,rfl,⟨_,SqL.of (s45 _ _ hp)⟩,qaN (λi ys σ' H'=>Same H H'/\(∃z,σ'=[z])/\∃bs,ys=bs.map V.ref/\bs.length<=i/\Paired (NdNew (qbP H) N H') bs (ds.take i)) zl ⟨s45,⟨none,rfl⟩,[],rfl,r8 _,.nil⟩ ?_ ?_ ?_⟩
  ·rintro i ys σ' H' hi ⟨s6,_,bs,rfl,lb,_⟩;exact⟨SqL.of (s6 _ _ hp),by rw[qA];exact lb⟩
  ·rintro i x ys σ' H' hx ⟨s6,⟨z,rfl⟩,bs,rfl,lb,nb⟩;obtain⟨a,ea,rfl⟩:=qdu hx;obtain⟨d,ed,nad⟩:=nd.at ea;refine⟨_,rfl,a,d,N,rfl,nad.keep s6.keep λ_ n _=>n,λa' H7 nn s7=>⟨s6.trans s7,⟨_,rfl⟩,bs++[a'],by rw[qM];rfl,by rw[qH];exact u9 lb,?_⟩⟩;rw[rO,ed,rR];exact qbl (nb.mono λa d h=>NdNew.keep h s7 λ_ n=>n) (.cons (NdNew.keep nn (Same.refl _) λb n=>s6.free n) .nil)
  ·rintro ys σ' H' ⟨s6,_,bs,rfl,lb,nb⟩ p' hp';rw[eT]at nb;exact q p' _ (s6.free hp') (s6.trans (qac hp' _)) ⟨bs,upd_same,nb.mono λa d h=>NdNew.keep (NdNew.ne h hp') (qac hp' _) λ_ n=>n⟩
abbrev sPiece_word:Stmt:=top 92
abbrev sStuff_words:Stmt:=top 91
abbrev sNode_row:Stmt:=top 90
abbrev sBook_rows:Stmt:=top 89
theorem scPiece_word:FnScope ["piece", "stars"] ["piece"] (qaf sPiece_word):=⟨rfl,rfl,rfl,by ac_rfl,rfl,by ac_rfl,by ac_rfl⟩
theorem ok_piece_word{f:Addr}{fd:FuncData}(F:Fun K "piece_word" "piece_word" sPiece_word f fd)(U:Nums mg):FnOk P w K mg base CX0 1 f fd ["piece"] spPiece:=by
 refine F.ok scPiece_word (λvs H Q E h=>?_) (λcdv A outer s H vs Q E hr h=>?_)
 ·obtain⟨a,so,x,t,rfl,_⟩:=h;rfl
 ·obtain⟨a,so,x,t,rfl,ha,ok,q⟩:=h;obtain⟨_,g_SORT⟩:=U.sort;obtain⟨_,g_THING⟩:=U.thing;obtain⟨_,g_TONE⟩:=U.tone;refine⟨_,(qab (qaH (qak op_eq (qan ix_tup (pv 0) (qae (v:=.int 0) (by rfl) g_SORT ⟨_,rfl⟩) (λ_ _=>rfl)) qah (qap _)) (qad (qai qah)) pss_nil)
   (qab (qau (i:=1) scPiece_word.nd (by rfl) (by trivial) (qaM op_mulS qah (qan ix_tup (pv 0) (qae (v:=.int 2) (by rfl) g_TONE ⟨_,rfl⟩) (λ_ _=>rfl))))
   (qab (qaH (qak op_eq (qan ix_tup (pv 0) (qae (v:=.int 0) (by rfl) g_SORT ⟨_,rfl⟩) (λ_ _=>rfl)) qah (qap _)) (qad (qai (qaM op_add_str (qaM op_add_str (qaM op_add_str (pv 1) qah) (qan ix_tup (pv 0) (qae (v:=.int 1) (by rfl) g_THING ⟨_,rfl⟩) (λ_ _=>rfl))) qah))) pss_nil)
   (qad (qai (qaM op_add_str (pv 1) (qan ix_tup (pv 0) (qae (v:=.int 1) (by rfl) g_THING ⟨_,rfl⟩) (λ_ _=>rfl)))))))),?_⟩
  have sz:sizeLine=16777216:=by decide
  refine⟨_,rfl,a,_,_,_,rfl,rfl,SqT.of ha,rfl,rfl,_,rfl,?_⟩;rw[show decide (V.str so.s=V.str (Str.ofString "note"))=decide (so=.note)from sot so .note];cases so<;>cases x<;>first | (exfalso;exact ok) | skip
  ·-- a word
   have h1:=ok.1.2.1;have h3:=ok.2.2;have h2:=qc6 ok.2.2;refine iteF ?_;refine⟨_,rfl,a,_,_,_,rfl,rfl,SqT.of ha,rfl,_,t.toNat,rfl,by show V.int t=_;rw[Int.toNat_of_nonneg ok.2.1],by ac_rfl,by omega,?_⟩;refine⟨_,rfl,a,_,_,_,rfl,rfl,SqT.of ha,rfl,rfl,_,rfl,?_⟩;rw[show decide (V.str So.word.s=V.str (Str.ofString "page"))=decide (So.word=.page)from sot .word .page];refine iteF ?_;refine⟨_,rfl,_,rfl,a,_,_,_,rfl,rfl,SqT.of ha,rfl,_,_,rfl,rfl,?_,q⟩;show(qce t).length+_<=_;omega
  ·-- a page
   have h1:=ok.1.2.1;have h3:=ok.2.2;have h2:=qc6 ok.2.2;refine iteF ?_;refine⟨_,rfl,a,_,_,_,rfl,rfl,SqT.of ha,rfl,_,t.toNat,rfl,by show V.int t=_;rw[Int.toNat_of_nonneg ok.2.1],by ac_rfl,by omega,?_⟩;refine⟨_,rfl,a,_,_,_,rfl,rfl,SqT.of ha,rfl,rfl,_,rfl,?_⟩;rw[show decide (V.str So.page.s=V.str (Str.ofString "page"))=decide (So.page=.page)from sot .page .page];refine iteT ?_;have e1:(T "{").length=1:=by ac_rfl
   have e2:(T "}").length=1:=by ac_rfl
   refine⟨_,rfl,_,_,rfl,rfl,?_,?_⟩
   ·show(qce t).length+(T "{").length<=_;omega
   refine⟨_,rfl,a,_,_,_,rfl,rfl,SqT.of ha,rfl,_,_,rfl,rfl,?_,_,_,rfl,rfl,?_,q⟩
   ·show(qce t++T "{").length+_<=_;rw[qaz];omega
   ·show(qce t++T "{" ++ _).length+(T "}").length<=_;rw[qaz,qaz];omega
  ·exact iteT q
theorem scStuff_words:FnScope ["kind", "stuff"] ["kind", "stuff"] (qaf sStuff_words):=⟨rfl,rfl,rfl,by ac_rfl,rfl,by ac_rfl,by ac_rfl⟩
theorem ok_stuff_words{f:Addr}{fd:FuncData}(F:Fun K "stuff_words" "stuff_words" sStuff_words f fd)(T:Bn mg)(F_piece_word:Fx P w K mg base CX0 1 "piece_word" ["piece"] spPiece):FnOk P w K mg base CX0 2 f fd ["kind", "stuff"] spStuff:=by
 refine F.ok scStuff_words (λvs H Q E h=>?_) (λcdv A outer s H vs Q E hr h=>?_)
 ·obtain⟨k,s,st,N,rfl,_⟩:=h;rfl
 ·obtain⟨k,s,st,N,rfl,⟨ns,vs,hs,its⟩,ok,pos,q⟩:=h;have hr_piece_word:=hr;have hlen:vs.length=st.length:=its.length;have zl:vs.length<sizeLine:=by have:=(qgw ok).1;exact qaG (by omega)
  refine⟨_,(qab (qaH (qak op_eq (pv 0) qah (qap _)) (qad (qai (qba (own:=["side"]) (by rfl) (CompScope.plain (by rfl) (by ac_rfl) (by ac_rfl) (by ac_rfl)) (qbb (pv 1)) (λcl C s2 H2 fp=>(qaw (i:=0) (by show(["side"]:List Str).Nodup;ac_rfl) (by rfl) (by trivial) (by trivial))) (λcl C s2 H2 fp=>qbn) (λcl C s2 H2 fp=>(qbq call_str_int (by rfl) T.str b_str (qaa (pv 0) pa_nil)))))) pss_nil)
   (qad (qai (qba (own:=["piece"]) (by rfl) (CompScope.plain (by rfl) (by ac_rfl) (by ac_rfl) (by ac_rfl)) (qbb (pv 1)) (λcl C s2 H2 fp=>(qaw (i:=0) (by show(["piece"]:List Str).Nodup;ac_rfl) (by rfl) (by trivial) (by trivial))) (λcl C s2 H2 fp=>qbn) (λcl C s2 H2 fp=>(qat F_piece_word hr_piece_word (by rfl) qay (qaa (pv 0) pa_nil))))))),?_⟩
  refine⟨_,rfl,rfl,_,rfl,?_⟩;rw[show decide (V.str k.s=V.str (Str.ofString "picture"))=decide (k=.picture)from kdt k .picture];have fin:∀(D:Addr) (ys:List V) (H':Hp),H'=H->ys=((st.take vs.length).map thS).map V.str->H' D=none->Q (.ref D) (upd H' D (.lst ys)):=by
   rintro D ys H' rfl rfl hD;refine q D _ hD (qac hD _) ?_;rw[upd_same,hlen,rJ]
  by_cases hk:k=.picture
  ·rw[qB hk];refine iteT ⟨_,rfl,s,rfl,⟨_,SqL.of hs⟩,qaN (λi ys σ' H'=>H'=H/\ys=((st.take i).map thS).map V.str/\∃z,σ'=[z]) zl ⟨rfl,rfl,none,rfl⟩ ?_ ?_ ?_⟩
   ·rintro i ys σ' H' hi ⟨rfl,rfl,_⟩;exact⟨SqL.of hs,by rw[qA,qA,rN];exact yM _ _⟩
   ·rintro i x ys σ' H' hx ⟨rfl,rfl,z,rfl⟩;obtain⟨th,et,it⟩:=qbH its hx;obtain⟨n,rfl,n1,n2⟩:∃n,th=.int n/\1<=n/\n<=2000:=by
     subst hk;obtain⟨a,b,rfl,a1,a2,b1,b2⟩:=ok;have:=qK et;rcases qO.mp this with rfl | h
     ·exact⟨a,rfl,a1,a2⟩
     ·have:th=.int b:=by simpa using h
      exact⟨b,this,b1,b2⟩
    cases it;refine⟨_,rfl,n,rfl,qcs (qeh n1 n2),rfl,?_,_,rfl⟩;rw[xF,xF,qcc (V.str∘thS) et];rfl
   ·rintro ys σ' H' ⟨e1,e2,_⟩ D hD;exact fin D _ _ e1 e2 hD
  ·rw[qC hk];refine iteF ⟨_,rfl,s,rfl,⟨_,SqL.of hs⟩,qaN (λi ys σ' H'=>H'=H/\ys=((st.take i).map thS).map V.str/\∃z,σ'=[z]) zl ⟨rfl,rfl,none,rfl⟩ ?_ ?_ ?_⟩
   ·rintro i ys σ' H' hi ⟨rfl,rfl,_⟩;exact⟨SqL.of hs,by rw[qA,qA,rN];exact yM _ _⟩
   ·rintro i x ys σ' H' hx ⟨rfl,rfl,z,rfl⟩;obtain⟨th,et,it⟩:=qbH its hx;have pk:PcOk th:=by
     have m:=qK et;cases k<;>first
      | exact ok.1 th m
      | exact absurd rfl hk
      | (exfalso;have e0:st=[]:=ok;rw[e0]at pos;exact absurd pos (by decide))
    cases th with
    | int n=>cases pk
    | tri so x t =>
      obtain⟨a,rfl,_,ha⟩:=it
      refine⟨_,rfl,a,so,x,t,rfl,ha,pk,rfl,?_,_,rfl⟩
      rw[xF,xF,qcc (V.str∘thS) et]
      rfl
   ·rintro ys σ' H' ⟨e1,e2,_⟩ D hD;exact fin D _ _ e1 e2 hD
theorem scNode_row:FnScope ["node", "words"] ["node"] (qaf sNode_row):=⟨rfl,rfl,rfl,by ac_rfl,rfl,by ac_rfl,by ac_rfl⟩
theorem ok_node_row{f:Addr}{fd:FuncData}(F:Fun K "node_row" "node_row" sNode_row f fd)(T:Bn mg)(U:Nums mg)(F_stuff_words:Fx P w K mg base CX0 2 "stuff_words" ["kind", "stuff"] spStuff):FnOk P w K mg base CX0 3 f fd ["node"] spNode:=by
 refine F.ok scNode_row (λvs H Q E h=>?_) (λcdv A outer s H vs Q E hr h=>?_)
 ·obtain⟨a,d,N,rfl,_⟩:=h;rfl
 ·obtain⟨a,d,N,rfl,⟨na,m,sf,ha,nm,hm,st⟩,fm,q⟩:=h;have hr_stuff_words:=hr;obtain⟨_,g_KIND⟩:=U.kind;obtain⟨_,g_NAME⟩:=U.name;obtain⟨_,g_MARKS⟩:=U.marks;obtain⟨_,g_STUFF⟩:=U.stuff;have sz:sizeLine=16777216:=by decide
  refine⟨_,(qab (qau (i:=1) scNode_row.nd (by rfl) (by trivial) (qaR (qaa (qan ix_tup (pv 0) (qae (v:=.int 1) (by rfl) g_KIND ⟨_,rfl⟩) (λ_ _=>rfl)) pa_nil)))
   (qab (qaH (qak op_ne (qan ix_tup (pv 0) (qae (v:=.int 2) (by rfl) g_NAME ⟨_,rfl⟩) (λ_ _=>rfl)) qah (qap _)) (qad (qaS (qbp qS rE rF mt_append (pv 1) (qaa (qaM op_add_str qah (qan ix_tup (pv 0) (qae (v:=.int 2) (by rfl) g_NAME ⟨_,rfl⟩) (λ_ _=>rfl))) pa_nil)))) pss_nil)
   (qab (qaS (qbp qS xH xI mt_extend (pv 1) (qaa (qba (own:=["mark"]) (by rfl) (CompScope.plain (by rfl) (by ac_rfl) (by ac_rfl) (by ac_rfl)) (qbb (qan ix_tup (pv 0) (qae (v:=.int 3) (by rfl) g_MARKS ⟨_,rfl⟩) (λ_ _=>rfl))) (λcl C s2 H2 fp=>(qaw (i:=0) (by show(["mark"]:List Str).Nodup;ac_rfl) (by rfl) (by trivial) (by trivial))) (λcl C s2 H2 fp=>qbn) (λcl C s2 H2 fp=>(qaM op_add_str qah (pv 0)))) pa_nil)))
   (qab (qaH (qak op_gt (qal call_len_seq (by rfl) T.len b_len (qaa (qan ix_tup (pv 0) (qae (v:=.int 4) (by rfl) g_STUFF ⟨_,rfl⟩) (λ_ _=>rfl)) pa_nil)) qag (qap _)) (qab (qaS (qbp qS rE rF mt_append (pv 1) (qaa qah pa_nil)))
   (qad (qaS (qbp qS xH xI mt_extend (pv 1) (qaa (qat F_stuff_words hr_stuff_words (by rfl) qay (qaa (qan ix_tup (pv 0) (qae (v:=.int 1) (by rfl) g_KIND ⟨_,rfl⟩) (λ_ _=>rfl)) (qaa (qan ix_tup (pv 0) (qae (v:=.int 4) (by rfl) g_STUFF ⟨_,rfl⟩) (λ_ _=>rfl)) pa_nil))) pa_nil))))) pss_nil)
   (qad (qai (qbp xG PySem.F.slot_str_join PySem.F.type_str_join mt_join qah (qaa (pv 1) pa_nil)))))))),?_⟩
  refine⟨_,rfl,a,_,_,_,rfl,rfl,SqT.of ha,rfl,by show 1<=sizeLine;decide,λwd hw=>?_⟩;have nl:=qim fm.nm;obtain⟨sl1,sl2⟩:=qgw fm.st;dsimp only[qcq];refine qa0 (λσ' H'=>σ'=[some (.ref a),some (.ref wd)]/\Same H H'/\H' wd=some (.lst ((d.k.s::w1 d).map V.str))) (λD' k=>?_) ?_
  ·have s1:=qac hw (.lst [V.str d.k.s]);refine⟨_,rfl,a,_,_,_,rfl,rfl,SqT.of (s1 _ _ ha),rfl,rfl,_,rfl,?_⟩;rw[show decide (V.str d.nm=V.str (Str.ofString ""))=decide (d.nm=noName)from nmt d.nm]
   by_cases hn:d.nm=noName
   ·rw[qB hn];refine iteF (k _ _ ⟨rfl,s1,?_⟩);rw[upd_same,w1,if_pos hn];rfl
   ·rw[qC hn];refine iteT ⟨_,rfl,.inl ⟨rfl,_,SqL.of upd_same⟩,_,rfl,a,_,_,_,rfl,rfl,SqT.of (s1 _ _ ha),rfl,_,_,rfl,rfl,?_,wd,_,_,rfl,rfl,upd_same,by show 1<sizeLine;decide,k _ _ ⟨rfl,qd6 hw s1 _,?_⟩⟩
    ·show(Str.ofString "#").length+d.nm.length<=_;rw[show(Str.ofString "#").length=1 by ac_rfl];omega
    ·rw[upd_same,w1,if_neg hn];rfl
  rintro σ1 H1 ⟨rfl,s1,e1⟩;have c1:(d.k.s::w1 d).length<=2:=by rw[qT];unfold w1;split<;>simp
  have c2:(w2 d).length<=4:=by unfold w2;rw[qA];exact fm.mks.1
  have zl:(d.mks.map V.str).length<sizeLine:=by rw[qA];exact qaG (by have:=fm.mks.1;omega)
  refine qa0 (λσ' H'=>σ'=[some (.ref a),some (.ref wd)]/\Same H H'/\H' wd=some (.lst (((d.k.s::w1 d)++w2 d).map V.str))) (λD' k=>?_) ?_
  ·refine⟨_,rfl,.inl ⟨rfl,_,SqL.of e1⟩,_,rfl,a,_,_,_,rfl,rfl,SqT.of (s1 _ _ ha),rfl,m,rfl,⟨_,SqL.of (s1 _ _ hm)⟩,qaN (λi ys σ' H'=>H'=H1/\ys=((d.mks.take i).map (Str.ofString "." ++ ·)).map V.str/\∃z,σ'=[z]) zl ⟨rfl,rfl,none,rfl⟩ ?_ ?_ ?_⟩
   ·rintro i ys σ' H' hi ⟨rfl,rfl,_⟩;exact⟨SqL.of (s1 _ _ hm),by rw[qA,qA,rN];exact yM _ _⟩
   ·rintro i x ys σ' H' hx ⟨rfl,rfl,z,rfl⟩;rw[qP]at hx;cases e:d.mks[i]? with
    | none=>rw[e]at hx;cases hx
    | some mk =>
      rw[e]at hx
      cases hx
      refine⟨_,rfl,_,_,rfl,rfl,?_,rfl,?_,_,rfl⟩
      · have:=(fm.mks.2.1 mk (qK e)).2.1
        show(Str.ofString ".").length+mk.length<=_
        rw[show(Str.ofString ".").length=1 by ac_rfl]
        omega
      · rw[xF,xF,qcc (V.str∘(Str.ofString "." ++ ·)) e]
        rfl
   ·rintro ys σ' H' ⟨rfl,rfl,_⟩ D hD;have ne:wd≠D:=qam e1 hD;have eT:d.mks.take (d.mks.map V.str).length=d.mks:=by rw[qA,rJ]
    rw[eT];refine⟨wd,D,_,_,rfl,rfl,by rw[qax ne];exact e1,upd_same,?_,k _ _ ⟨rfl,qd6 hw (s1.trans (qac hD _)) _,?_⟩⟩
    ·rw[qA,qA];have:((d.mks.map (Str.ofString "." ++ ·)).length)<=4:=by rw[qA];exact fm.mks.1
     omega
    ·rw[upd_same,qM];rfl
  rintro σ2 H2 ⟨rfl,s2,e2⟩;have c3:((d.k.s::w1 d)++w2 d).length<=6:=by rw[qH];omega
  refine qa0 (λσ' H'=>σ'=[some (.ref a),some (.ref wd)]/\Same H H'/\H' wd=some (.lst ((((d.k.s::w1 d)++w2 d)++w3 d).map V.str))) (λD' k=>?_) ?_
  ·obtain⟨nsf,vs,hsf,its⟩:=st;have lv:vs.length=d.st.length:=its.length;refine⟨_,rfl,a,_,_,_,rfl,rfl,SqT.of (s2 _ _ ha),rfl,sf,_,rfl,.inl (SqL.of (s2 _ _ hsf)),_,_,rfl,rfl,_,rfl,?_⟩
   by_cases hp:d.st.length>0
   ·rw[qB (by rw[lv];omega:(0:Int)<(vs.length:Nat))];refine iteT ⟨_,rfl,.inl ⟨rfl,_,SqL.of e2⟩,wd,_,_,rfl,rfl,e2,qaG (by rw[qA];omega),?_⟩;have s3:=qd6 hw s2 (.lst ((((d.k.s::w1 d)++w2 d).map V.str)++[V.str (Str.ofString "|")]));refine⟨_,rfl,.inl ⟨rfl,_,SqL.of upd_same⟩,_,rfl,a,_,_,_,rfl,rfl,SqT.of (s3 _ _ ha),rfl,_,rfl,a,_,_,_,rfl,rfl,SqT.of (s3 _ _ ha),rfl,?_⟩;refine⟨d.k,sf,d.st,N,rfl,StAt.keep (N':=N) ⟨nsf,vs,hsf,its⟩ s3.keep (λ_ n _=>n),fm.st,hp,λl H4 hl s4 el=>?_⟩;have ew:=s4 _ _ (upd_same (a:=wd));refine⟨wd,l,_,_,rfl,rfl,ew,el,?_,k _ _ ⟨rfl,qd6 hw (s3.trans s4) _,?_⟩⟩
    ·rw[qH,qA,qA,qA];show _+1+_<=_;omega
    ·rw[upd_same,w3,if_pos hp];simp only[List.map_append,List.map_cons,List.append_assoc,List.cons_append,List.nil_append,Bk.T]
   ·rw[qC (by rw[lv];omega:¬(0:Int)<(vs.length:Nat))];refine iteF (k _ _ ⟨rfl,s2,?_⟩);rw[w3,if_neg hp,rC];exact e2
  rintro σ3 H3 ⟨rfl,s3,e3⟩;obtain⟨aw1,aw2⟩:=qfM d fm;refine⟨rfl,_,rfl,_,wd,_,rfl,rfl,SqL.of e3,λz hz=>qR (aw2 z hz) (by decide),by omega,by ac_rfl,q _ s3⟩
theorem scBook_rows:FnScope ["book"] ["book"] (qaf sBook_rows):=⟨rfl,rfl,rfl,by ac_rfl,rfl,by ac_rfl,by ac_rfl⟩
theorem ok_book_rows{f:Addr}{fd:FuncData}(F:Fun K "book_rows" "book_rows" sBook_rows f fd)(T:Bn mg)(F_level_of:Fx P w K mg base CX0 2 "level_of" ["book", "node"] spLevelS)(F_node_row:Fx P w K mg base CX0 3 "node_row" ["node"] spNode):FnOk P w K mg base CX0 4 f fd ["book"] spRows:=by
 refine F.ok scBook_rows (λvs H Q E h=>?_) (λcdv A outer s H vs Q E hr h=>?_)
 ·obtain⟨p,ds,L,N,rfl,_⟩:=h;rfl
 ·obtain⟨p,ds,L,N,rfl,⟨as,hp,nd⟩,le,fm,lv,q⟩:=h;have hr_level_of:Room 2 _:=hr.mono (by decide);have hr_node_row:=hr;have sz:sizeLine=16777216:=by decide
  have lenas:as.length=ds.length:=nd.length;have zl:(as.map V.ref).length<sizeLine:=by rw[qA];exact qaG (by omega)
  refine⟨_,(qad (qai (qba (own:=["number", "node"]) (by rfl) (ix:=[0]) (frees:=["book"]) (CompScope.frees (by rfl) (by ac_rfl) (by ac_rfl) (by ac_rfl) (by rfl) (by ac_rfl) (by first | exact qfC (by rfl) | exact free2 (by rfl) (by rfl))) (qcQ (by rfl) T.enumerate (qaa (pv 0) pa_nil)) (λcl C s2 H2 fp=>(qh8 K (n:=2) (by rfl) (by rfl) (qa1 (qaw (i:=0) (by show(["number", "node", "book"]:List Str).Nodup;ac_rfl) (by rfl) (by trivial) (by trivial)) (qa1 (qaw (i:=1) (by show(["number", "node", "book"]:List Str).Nodup;ac_rfl) (by rfl) (by trivial) (by trivial)) pgs_nil)))) (λcl C s2 H2 fp=>qbn) (λcl C s2 H2 fp=>(qaM op_add_str (qaM op_mulS qah (qat F_level_of hr_level_of (by rfl) qay (qaa (pv 2) (qaa (pv 0) pa_nil)))) (qat F_node_row hr_node_row (by rfl) qay (qaa (pv 1) pa_nil))))))),?_⟩;refine⟨_,rfl,p,rfl,⟨_,SqL.of hp⟩,qf7 (λi ys σ' H'=>Same H H'/\ys=(qbJ L ds i).map V.str/\∃a b,σ'=[a,b,some (.ref p)]) zl ⟨Same.refl H,rfl,none,none,rfl⟩ ?_ ?_ ?_⟩
  ·rintro i ys σ' H' hi ⟨s1,rfl,_⟩;exact⟨SqL.of (s1 _ _ hp),by rw[qA,qdG];exact qG _⟩
  ·rintro i x ys σ' H' t hx ht ⟨s1,rfl,a,b,rfl⟩;obtain⟨a',ea,rfl⟩:=qdu hx;obtain⟨d,ed,nad⟩:=nd.at ea;have s2:=s1.trans (qac ht (.tup [.int (i:Nat),.ref a']));have hi:i<ds.length:=(qD.mp ed).1;obtain⟨lvi,lei⟩:=lv i hi;refine⟨t,_,rfl,SqT.of upd_same,rfl,_,_,rfl,_,_,rfl,rfl,?_⟩;refine⟨_,rfl,_,rfl,p,i,L i,ds,N,rfl,⟨as,s2 _ _ hp,nd.keep s2.keep λ_ n _=>n⟩,lvi,by omega,λH25 s25=>?_⟩;replace s2:=s2.trans s25;refine⟨_,L i,rfl,rfl,by ac_rfl,by omega,?_⟩;refine⟨_,rfl,a',d,N,rfl,nad.keep s2.keep λ_ n _=>n,fm d (qK ed),λH3 s3=>?_⟩;refine⟨_,_,rfl,rfl,?_,s2.trans s3,?_,_,_,rfl⟩
   ·have h1:=qik (L i);have h2:=node_len (fm d (qK ed));show(gtS (L i)).length+(qcv d).length<=_;omega
   ·rw[rows_step ed,qM];rfl
  ·rintro ys σ' H' ⟨s1,rfl,_⟩ D hD;refine q D _ (s1.free hD) (s1.trans (qac hD _)) ?_;rw[upd_same,qA,lenas]
end
end K10
namespace Gen
open PySem L2 Bk Builtin Builtin.Str
theorem qfk(a b n:Nat):strSliceIndices (some (a:Int)) (some (b:Int)) 1 n=strSliceIndices (some ((min a n:Nat):Int)) (some ((min b n:Nat):Int)) 1 n:=by
 unfold strSliceIndices;have h1:∀m:Nat,¬((m:Int)<0):=λm=>by omega
 have h2:∀m:Nat,max (0:Int) (min (m:Int) (n:Int))=max (0:Int) (min ((min m n:Nat):Int) (n:Int)):=λm=>by omega
 simp only[h1,if_false,show((1:Int)>0)from by decide,if_true];rw[h2 a,h2 b]
theorem qeg(x:Str)(a b:Nat)(h:a<=b):Txt.slice x (some (a:Int)) (some (b:Int))=mkS ((x.cps.toList.drop a).take (b-a)):=by
 have e:Txt.slice x (some (a:Int)) (some (b:Int))=StrLaws.sliceText x (some ((min a x.length:Nat):Int)) (some ((min b x.length:Nat):Int)):=by
  unfold Txt.slice StrLaws.sliceText;rw[qfk]
 rw[e,StrLaws.sliceText_nat x (by omega) (by omega)];have lx:=qbo x
 congr 2
 by_cases ha:a<=x.length
 ·rw[y8 ha]
  by_cases hb:b<=x.length
  ·rw[y8 hb]
  ·rw[Nat.min_eq_right (by omega),rQ (by rw[rW];omega),rQ (by rw[rW];omega)]
 ·rw[xA (by omega),xA (by omega),List.take_nil,List.take_nil]
theorem qdg(x:Str)(a:Nat):Txt.slice x (some (a:Int)) none=mkS (x.cps.toList.drop a):=by
 have e:Txt.slice x (some (a:Int)) none=Txt.slice x (some (a:Int)) (some (x.length:Int)):=by
  unfold Txt.slice;rw[StrLaws.sliceIdx_none_hi]
 rw[e];have lx:=qbo x
 by_cases ha:a<=x.length
 ·rw[qeg x a x.length ha,rQ (by rw[rW];omega)]
 ·have e2:Txt.slice x (some (a:Int)) (some (x.length:Int))=Txt.slice x (some (a:Int)) (some (a:Int)):=by
   unfold Txt.slice;rw[qfk,qfk a a,Nat.min_self,Nat.min_eq_right (by omega)]
  rw[e2,qeg x a a (qG _),Nat.sub_self,List.take_zero,xA (by omega)]
theorem qex(x:Str)(a:Nat):Txt.slice x none (some (a:Int))=mkS (x.cps.toList.take a):=by
 have e:Txt.slice x none (some (a:Int))=Txt.slice x (some ((0:Nat):Int)) (some (a:Int)):=by
  unfold Txt.slice;rw[StrLaws.sliceIdx_none_lo];rfl
 rw[e,qeg x 0 a (r8 _),vF,Nat.sub_zero]
end Gen
namespace L2
open PySem PySem.Spec PyProof.Rows
end L2
namespace Gen
open PySem L2 Bk
def RowS(n c:Nat)(x:Str):Prop:=Low x/\x.length<=n/\x.cps.toList.count 32<=c
instance (n c:Nat) (x:Str):Decidable (RowS n c x):=inferInstanceAs (Decidable (_=true/\_/\_))
theorem RowS.app{n c m d:Nat}{x y:Str}(h:RowS n c x)(k:RowS m d y):RowS (n+m) (c+d) (x++y):=by
 refine⟨?_,?_,?_⟩
 ·refine qcI λa ha=>?_
  rw[qaC]at ha;have lx:=h.1;have ly:=k.1;unfold Low at lx ly;rw[yG]at lx ly;rcases qW.mp ha with z | z
  ·exact rL (lx a (by simpa using z))
  ·exact rL (ly a (by simpa using z))
 ·rw[qaz];have:=h.2.1;have:=k.2.1;omega
 ·rw[qaC,List.count_append];have:=h.2.2;have:=k.2.2;omega
theorem RowS.mono{n c m d:Nat}{x:Str}(h:RowS n c x)(h1:n<=m)(h2:c<=d):RowS m d x:=⟨h.1,qR h.2.1 h1,qR h.2.2 h2⟩
theorem RowS.one{a:Nat}(h:a<128)(h2:a≠32):RowS 1 0 ⟨#[a]⟩:=by
 refine⟨qcI λb hb=>?_,qG _,?_⟩
 ·have:b=a:=by simpa using hb
  omega
 ·show[a].count 32<=0;rw[List.count_cons_of_ne (by simpa using h2)];exact qG _
theorem RowS.any{a:Nat}(h:a<128):RowS 1 1 ⟨#[a]⟩:=by
 refine⟨qcI λb hb=>?_,qG _,List.count_le_length⟩;have:b=a:=by simpa using hb
 omega
theorem RowS.sub{n c:Nat}{x:Str}{l:List Nat}(h:RowS n c x)(s:l.Sublist x.cps.toList):RowS n c (mkS l):=by
 refine⟨qf9 h.1 λa ha=>s.subset ha,?_,?_⟩
 ·rw[qdi];have:=s.length_le;rw[qbo]at this;exact qR this h.2.1
 ·exact qR (s.count_le _) h.2.2
theorem rep_list(z:Str):∀n,(repS z n).cps.toList=(List.replicate n z.cps.toList).flatten:=by
 intro n;have all:∀(n:Nat) (acc:Array Nat),((List.replicate n z.cps).foldl (·++ ·) acc).toList=acc.toList++(List.replicate n z.cps.toList).flatten:=by
  intro n
  induction n with
  | zero=>intro acc;simp
  | succ n ih =>
    intro acc
    rw[rZ,xY,ih,rZ,List.flatten_cons,vB,yA]
 have:=all n #[];simpa[repS]using this
theorem rep_one(c n:Nat):repS ⟨#[c]⟩ n=mkS (List.replicate n c):=by
 apply qdx;rw[rep_list];show(List.replicate n [c]).flatten=List.replicate n c
 induction n with
 | zero=>rfl
 | succ n ih=>rw[rZ,List.flatten_cons,ih,rZ];rfl
theorem RowS.rep{c n m:Nat}(h:c<128)(h2:c≠32)(hn:n<=m):RowS m 0 (repS ⟨#[c]⟩ n):=by
 rw[rep_one];refine⟨qcI λb hb=>?_,?_,?_⟩
 ·have:b∈List.replicate n c:=by simpa using hb
  rw[yQ this];exact h
 ·rw[qdi,yP];exact hn
 ·show(List.replicate n c).count 32<=0;rw[List.count_replicate];simp[h2]
def figB(x:Str):Bool:=decide (RowS 4 0 x)
theorem fig_all:∀n∈List.range 2101,figB (Str.ofString (toString (n:Int)))=true:=by ac_rfl
theorem RowS.num{i:Int}(h0:0<=i)(h1:i<=2100):RowS 4 0 (Str.ofString (toString i)):=by
 have:=fig_all i.toNat (u3.mpr (by omega));rw[show((i.toNat:Nat):Int)=i by omega]at this;exact rL this
theorem qfU{n c:Nat}:∀{l:List Str},(∀x∈l,RowS n c x)->RowS (l.length*(n+1)) (l.length*(c+1)) (Str.join (T " ") l)
 | [], _ => by
   exact(show RowS 0 0 (Str.join (T " ") []) by ac_rfl).mono (r8 _) (r8 _)
 | [x], h => by
   rw[qdt]
   exact(h x qJ).mono (by simp) (by simp)
 | x :: y :: r, h => by
   rw[qcy]
   have h1:=(h x qJ).app (show RowS 1 1 (T " ") by ac_rfl)
   have h2:=h1.app (qfU (l:=y::r) λz hz=>h z (qN _ hz))
   refine h2.mono ?_ ?_
   · show n+1+(y::r).length*(n+1)<=((y::r).length+1)*(n+1)
     rw[Nat.succ_mul]
     omega
   · show c+1+(y::r).length*(c+1)<=((y::r).length+1)*(c+1)
     rw[Nat.succ_mul]
     omega
theorem RowS.ok{x:Str}(h:RowS 1000 59 x):RowOk x:=rowOk_of h.1 h.2.1 h.2.2
def strsT:List Str->TA
 | []=>tNil
 | y::r=>qg7 (tC (.str y)) (strsT r)
def isStr:Expr->Str->Bool
 | .Constant (.str a) _ _,y=>a == y
 | _,_=>false
theorem isStr_eq{e:Expr}{y:Str}(h:isStr e y=true):∃j pos,e=.Constant (.str y) j pos:=by
 unfold isStr at h
 split at h
 ·rw[beq_iff_eq.mp h];exact⟨_,_,rfl⟩
 ·cases h
def isStrs:List Expr->List Str->Bool
 | [],[]=>true
 | e::es,y::ys=>isStr e y && isStrs es ys
 | _,_=>false
theorem qh2{X:Cx}:∀{es:List Expr} {ys:List Str},isStrs es ys=true->PA X es (strsT ys)
 | [],[],_=>pa_nil
 | e :: es, y :: ys, h => by
   rw[isStrs,rG]at h
   obtain⟨a,b,rfl⟩:=isStr_eq h.1
   exact qaa qah (qh2 h.2) (by rfl)
theorem qgq{X:Cx}{es:List Expr}{pos:Pos}(ys:List Str)(h:isStrs es ys=true):PE X (.List es pos) (tLst (strsT ys)):=qaR (qh2 h)
theorem strsT_ok:∀{ys:List Str} {σ:St} {H:Hp} {Q:List V->Hp->Prop},Q (ys.map V.str) H->strsT ys σ H Q
 | [],σ,H,Q,h=>h
 | y::r,σ,H,Q,h=>strsT_ok (ys:=r) (Q:=λxs H2=>Q (.str y::xs) H2) h
theorem qgS{ys:List Str}{σ:St}{H:Hp}{Q:VK}(le:ys.length<=100)(h:∀l,H l=none->Q (.ref l) (upd H l (.lst (ys.map V.str)))):tLst (strsT ys) σ H Q :=
 strsT_ok (Q:=λxs H2=>xs.length<=sizeLine/\∀l,H2 l=none->Q (.ref l) (upd H2 l (.lst xs))) ⟨by rw[qA];exact qR le (by decide),h⟩
def qg1(n c:Nat):Sp:=λvs H Q _=>∃st:Addr,vs=[.ref st]/\StOk H st/\∀x H',RowS n c x->StOk H' st->qfg st H H'->Q (.str x) H'
def spSpoiled:Sp:=λvs H Q _=>∃(x:Str) (st:Addr) (n c:Nat),vs=[.str x,.ref st]/\StOk H st/\RowS n c x/\n<=900/\∀y H',RowS (n+1) (c+1) y->StOk H' st->qfg st H H'->Q (.str y) H'
theorem qhA(c:Nat)(r:List Nat):∀{w:List Nat},c∉w->qbf c (w++c::r)=w::qbf c r
 | [], _ => by
   show qbf c (c::r)=_
   rw[qbf,if_pos rfl]
 | a :: w, h => by
   have h1:a≠c:=λz=>h (by rw[z];exact qJ)
   rw[xN,qbf,if_neg h1,qhA c r λm=>h (qN _ m)]
   rfl
theorem cut_join:∀{l:List Str},l≠[]->(∀x∈l,32∉x.cps.toList)->(qbf 32 (Str.join (T " ") l).cps.toList).map mkS=l
 | [],h,_=>absurd rfl h
 | [x], _, h => by
   rw[qdt,cut_none 32 (h x qJ)]
   rfl
 | x :: y :: r, _, h => by
   rw[qcy,qaC,qaC,show(T " ").cps.toList=[32]from by ac_rfl,yA,List.singleton_append,qhA 32 _ (h x qJ),rH,cut_join (by simp) λz hz=>h z (qN _ hz)]
def allW(d:Nd):List Str:=((d.k.s::w1 d)++w2 d)++w3 d
theorem qfm{x:Str}(h:Name x):∀c∈x.cps.toList,c≠32:=λc hc z=>by
 have:=h.2.2 c hc;unfold qh3 at this;omega
theorem qgt{x:Str}(h:Word x):∀c∈x.cps.toList,c≠32/\c≠42/\c≠123:=λc hc=>(by decide:∀c∈wordSigns,c≠32/\c≠42/\c≠123) c (h.2.2 c hc)
theorem qcz(t:Int):(qce t).cps.toList=List.replicate t.toNat 42:=by
 unfold qce;have all:∀n,(repS (T "*") n).cps.toList=List.replicate n 42:=by
  intro n;have go:∀(n:Nat) (acc:Array Nat),((List.replicate n (T "*").cps).foldl (·++ ·) acc).toList=acc.toList++List.replicate n 42:=by
   intro n
   induction n with
   | zero=>intro acc;simp
   | succ n ih =>
     intro acc
     rw[rZ,xY,ih,vB,show(T "*").cps.toList=[42]from by ac_rfl,rZ,yA]
     rfl
  have:=go n #[];simpa[repS]using this
 exact all _
theorem qgh(n:Nat):(gtS n).cps.toList=List.replicate n 62:=by
 unfold gtS;have go:∀(n:Nat) (acc:Array Nat),((List.replicate n (T ">").cps).foldl (·++ ·) acc).toList=acc.toList++List.replicate n 62:=by
  intro n
  induction n with
  | zero=>intro acc;simp
  | succ n ih =>
    intro acc
    rw[rZ,xY,ih,vB,show(T ">").cps.toList=[62]from by ac_rfl,rZ,yA]
    rfl
 have:=go n #[];simpa[repS]using this
def qiX(n:Nat):Bool:=let x:=Str.ofString (toString (n:Int));qcb x && decide (numI x.cps.toList=n) && !decide (32∈x.cps.toList) && decide (x≠T "|")
theorem num_all:∀n∈(List.range 2001).drop 1,qiX n=true:=by ac_rfl
theorem qei{n:Int}(h1:1<=n)(h2:n<=2000):qaK (T (toString n))=n/\32∉(T (toString n)).cps.toList/\T (toString n)≠T "|":=by
 have hm:n.toNat∈(List.range 2001).drop 1:=by
  rw[List.mem_iff_getElem?];refine⟨n.toNat-1,?_⟩;rw[List.getElem?_drop,uJ (by omega)]
  congr 1
  omega
 have:=num_all n.toNat hm;unfold qiX at this;rw[show((n.toNat:Nat):Int)=n by omega]at this;simp only[Bool.and_eq_true,decide_eq_true_iff,Bool.not_eq_true',decide_eq_false_iff_not]at this;obtain⟨⟨⟨a,b⟩,c⟩,d⟩:=this;refine⟨?_,c,d⟩;unfold qaK;rw[a,if_pos rfl,b];omega
def zeroN:Th->Th
 | .tri .note (.inr _) t=>.tri .note (.inr 0) t
 | x=>x
theorem qeN(n:Nat)(l:List Nat)(h:l.head?≠some 42):(List.replicate n 42++l).dropWhile (·== 42)=l:=by
 induction n with
 | zero =>
   cases l with
   | nil=>rfl
   | cons a r =>
     have:a≠42:=λz=>h (by rw[z];rfl)
     rw[vQ,yL,yJ (by simpa using this)]
 | succ n ih=>rw[rZ,xN,List.dropWhile_cons_of_pos (by simp),ih]
theorem brace_n:(T "{").cps.toList=[123]:=by ac_rfl
theorem brace_m:(T "}").cps.toList=[125]:=by ac_rfl
theorem qeQ{x:Str}(h:x.cps.toList≠[123,125]):x≠T "{}":=by
 rintro rfl;exact h (by ac_rfl)
theorem read_piece{x:Th}(h:PcOk x):qaA (thS x)=some (zeroN x):=by
 cases x with
 | int n=>cases h
 | tri s y t =>
   cases s<;>cases y<;>first | (exfalso;exact h) | skip
   · rename_i w
     obtain⟨hw,t0,t3⟩:=h
     have hl:(thS (.tri .word (.inl w) t)).cps.toList=List.replicate t.toNat 42++w.cps.toList:=by
       show(qce t++w).cps.toList=_
       rw[qaC,qcz]
     have hd:w.cps.toList.head?≠some 42:=λz=>by
       cases e:w.cps.toList with
       | nil=>rw[e]at z;cases z
       | cons a r =>
         rw[e]at z
         exact(qgt hw a (by rw[e];exact qJ)).2.1 (rD z)
     have hd2:w.cps.toList.head?≠some 123:=λz=>by
       cases e:w.cps.toList with
       | nil=>rw[e]at z;cases z
       | cons a r =>
         rw[e]at z
         exact(qgt hw a (by rw[e];exact qJ)).2.2 (rD z)
     have th:thing (thS (.tri .word (.inl w) t))=w.cps.toList:=by unfold thing;rw[hl,qeN _ _ hd]
     have ln:((thS (.tri .word (.inl w) t)).length:Int)-(thing (thS (.tri .word (.inl w) t))).length=t:=by
       rw[th,<-qbo,hl,qH,yP]
       omega
     have ne:thS (.tri .word (.inl w) t)≠T "{}":=qeQ λz=>by
       rw[hl]at z
       cases e:t.toNat with
       | zero =>
         rw[e,vQ,yL]at z
         exact hd2 (by rw[z];rfl)
       | succ n =>
         rw[e,rZ,xN]at z
         have:=(wF z).1
         cases this
     have pe:qbL (thS (.tri .word (.inl w) t))=.tri .word (.inl w) t:=by
       unfold qbL
       rw[if_neg (λz=>hd2 (by rw[th]at z;exact z.1)),ln,th]
     unfold qaA
     rw[if_neg ne,pe,if_pos (qdw (x:=.tri .word (.inl w) t) ⟨hw,t0,t3⟩)]
     rfl
   · rename_i n
     obtain⟨hn,t0,t3⟩:=h
     have hl:(thS (.tri .page (.inl n) t)).cps.toList=List.replicate t.toNat 42++(123::(n.cps.toList++[125])):=by
       show(qce t++T "{" ++ n++T "}").cps.toList=_
       rw[qaC,qaC,qaC,qcz,brace_n,brace_m]
       simp
     have th:thing (thS (.tri .page (.inl n) t))=123::(n.cps.toList++[125]):=by unfold thing;rw[hl,qeN _ _ (by simp)]
     have ln:((thS (.tri .page (.inl n) t)).length:Int)-(thing (thS (.tri .page (.inl n) t))).length=t:=by
       rw[th,<-qbo,hl,qH,yP]
       omega
     have n1:n.cps.toList≠[]:=λz=>by
       have:=hn.1
       rw[<-qbo,z]at this
       simp at this
     have ne:thS (.tri .page (.inl n) t)≠T "{}":=qeQ λz=>by
       rw[hl]at z
       have:=xO List.length z
       simp only[List.length_append,List.length_cons,List.length_nil,List.length_replicate]at this
       have:n.cps.toList.length=0:=by omega
       exact n1 (rA this)
     have pe:qbL (thS (.tri .page (.inl n) t))=.tri .page (.inl n) t:=by
       unfold qbL
       rw[if_pos (by rw[th];exact⟨rfl,by simp[List.getLast?_cons]⟩),ln,th]
       have e:mkS (qeH (123::(n.cps.toList++[125])))=n:=by
         unfold qeH
         rw[wS,vF,List.dropLast_concat]
       rw[e]
     unfold qaA
     rw[if_neg ne,pe,if_pos (qdw (x:=.tri .page (.inl n) t) ⟨hn,t0,t3⟩)]
     rfl
   · rename_i k
     obtain⟨_,_,t0⟩:=h
     subst t0
     show qaA (T "{}")=some (qcJ 0)
     unfold qaA
     rw[if_pos rfl]
theorem pc_sp{x:Th}(h:PcOk x):32∉(thS x).cps.toList:=by
 cases x with
 | int n=>cases h
 | tri s y t =>
   cases s<;>cases y<;>first | (exfalso;exact h) | skip
   · rename_i w
     show 32∉(qce t++w).cps.toList
     rw[qaC,qcz]
     intro z
     rcases qW.mp z with z | z
     · cases yQ z
     · exact(qgt h.1 32 z).1 rfl
   · rename_i n
     show 32∉(qce t++T "{" ++ n++T "}").cps.toList
     rw[qaC,qaC,qaC,qcz,brace_n,brace_m]
     intro z
     rcases qW.mp z with z | z
     · rcases qW.mp z with z | z
       · rcases qW.mp z with z | z
         · cases yQ z
         · have:(32:Nat)=123:=by simpa using z
           cases this
       · exact qfm h.1 32 z rfl
     · have:(32:Nat)=125:=by simpa using z
       cases this
   · show 32∉(T "{}").cps.toList
     ac_rfl
theorem st_sp{k:Kd}{st:List Th}(h:Stuff k st):∀x∈st,32∉(thS x).cps.toList:=by
 intro x hx;cases k<;>first
  | (obtain⟨h1,_⟩:=h;exact pc_sp (h1 x hx))
  | (obtain ⟨a,b,rfl,a1,a2,b1,b2⟩:=h
     rcases qO.mp hx with rfl | hx
     · exact(qei a1 a2).2.1
     · have:x=.int b:=(by simpa using hx)
       subst this
       exact(qei b1 b2).2.1)
  | (have:st=[]:=h;subst this;cases hx)
theorem hash_l:(T "#").cps.toList=[35]:=by ac_rfl
theorem dot_l:(T ".").cps.toList=[46]:=by ac_rfl
theorem bar_l:(T "|").cps.toList=[124]:=by ac_rfl
theorem qh6(c:Nat)(x:Str)(y:Str)(h:y.cps.toList=[c]):tl1 (y++x)=x:=by
 unfold tl1;rw[qaC,h];rfl
theorem qhx(c:Nat)(x:Str)(y:Str)(h:y.cps.toList=[c]):(y++x).cps.toList.head?=some c:=by
 rw[qaC,h];rfl
theorem qhQ(c:Nat){x y:Str}(h:y.cps.toList=[c])(n:Name x):labB c (y++x)=true:=by
 unfold labB;rw[qhx c x y h,qh6 c x y h,qdk n];simp
theorem qit{c e:Nat}{x y:Str}(h:y.cps.toList=[e])(ne:e≠c):labB c (y++x)=false:=by
 unfold labB;rw[qhx e x y h,qC (λz=>ne (rD z))];rfl
theorem qhT{e:Nat}{x y:Str}(h:y.cps.toList=[e])(ne:e≠124):y++x≠T "|":=λz=>by
 have:=xO (λs:Str=>s.cps.toList.head?) z;rw[show(y++x).cps.toList.head?=some e from qhx e x y h,show(T "|").cps.toList.head?=some 124 from by rw[bar_l];rfl]at this;exact ne (rD this)
theorem qiN(k:Kd):32∉k.s.cps.toList/\k.s≠T "|":=by cases k<;>ac_rfl
theorem qhI{d:Nd}(h:Form d):∀x∈w1 d,d.nm≠noName/\x=T "#" ++ d.nm/\Name d.nm:=λx hx=>by
 unfold w1 at hx
 split at hx
 ·cases hx
 ·rename_i n;exact⟨n,by simpa using hx,h.nm.resolve_left n⟩
theorem allW_sp{d:Nd}(h:Form d):∀x∈allW d,32∉x.cps.toList:=by
 intro x hx;unfold allW at hx;rcases qW.mp hx with hx | hx
 ·rcases qW.mp hx with hx | hx
  ·rcases qO.mp hx with rfl | hx
   ·exact(qiN d.k).1
   ·obtain⟨_,rfl,n⟩:=qhI h x hx;rw[qaC,hash_l];intro z;rcases qW.mp z with z | z
    ·have:(32:Nat)=35:=by simpa using z
     cases this
    ·exact qfm n 32 z rfl
  ·obtain⟨m,hm,rfl⟩:=qV.mp hx;have n:=h.mks.2.1 m hm;rw[qaC,dot_l];intro z;rcases qW.mp z with z | z
   ·have:(32:Nat)=46:=by simpa using z
    cases this
   ·exact qfm n 32 z rfl
 ·unfold w3 at hx
  split at hx
  ·rcases qO.mp hx with rfl | hx
   ·rw[bar_l];decide
   ·obtain⟨t,ht,rfl⟩:=qV.mp hx;exact st_sp h.st t ht
  ·cases hx
theorem kd_head(k:Kd)(hk:k∈kindsAll):∃a r,k.s.cps.toList=a::r/\a≠62:=by
 have all:∀k∈kindsAll,(k.s.cps.toList.head?.map λa=>decide (a≠62))=some true:=by ac_rfl
 have:=all k hk;cases e:k.s.cps.toList with
 | nil=>rw[e]at this;cases this
 | cons a r =>
   rw[e]at this
   exact⟨a,r,rfl,rL (rD this)⟩
theorem drop_gts(n:Nat)(l:List Nat){a:Nat}{r:List Nat}(e:l=a::r)(h:a≠62):(List.replicate n 62++l).dropWhile (·== 62)=l/\((List.replicate n 62++l).takeWhile (·== 62)).length=n:=by
 subst e
 induction n with
 | zero =>
   rw[vQ,yL,yJ (by simpa using h),List.takeWhile_cons_of_neg (by simpa using h)]
   exact⟨rfl,rfl⟩
 | succ n ih =>
   rw[rZ,xN,List.dropWhile_cons_of_pos (by simp),List.takeWhile_cons_of_pos (by simp),qT,ih.1,ih.2]
   exact⟨rfl,rfl⟩
theorem node_head{d:Nd}(hk:d.k∈kindsAll):∃a r,(qcv d).cps.toList=a::r/\a≠62:=by
 obtain⟨a,r,e,n⟩:=kd_head d.k hk;have:∃t,(qcv d).cps.toList=d.k.s.cps.toList++t:=by
  unfold qcv;cases hw:(w1 d++w2 d)++w3 d with
  | nil =>
    refine⟨[],?_⟩
    have:((d.k.s::w1 d)++w2 d)++w3 d=d.k.s::((w1 d++w2 d)++w3 d):=by simp
    rw[this,hw,qdt,rC]
  | cons y t =>
    have:((d.k.s::w1 d)++w2 d)++w3 d=d.k.s::((w1 d++w2 d)++w3 d):=by simp
    rw[this,hw,qcy,qaC,qaC]
    exact⟨_,yA ..⟩
 obtain⟨t,et⟩:=this;exact⟨a,r++t,by rw[et,e];rfl,n⟩
theorem qf2{d:Nd}(l:Nat)(h:Form d)(hk:d.k∈kindsAll):qaJ (gtS l++qcv d)=allW d/\qbW (gtS l++qcv d)=l:=by
 obtain⟨a,r,e,n⟩:=node_head hk;have:=drop_gts l (qcv d).cps.toList e n;unfold qaJ qbW;rw[qaC,qgh,this.1,this.2];exact⟨cut_join (by simp) (allW_sp h),rfl⟩
theorem allW_bar{d:Nd}(h:Form d):(∀x∈d.k.s::(w1 d++w2 d),x≠T "|"):=by
 intro x hx;rcases qO.mp hx with rfl | hx
 ·exact(qiN d.k).2
 rcases qW.mp hx with hx | hx
 ·obtain⟨_,rfl,_⟩:=qhI h x hx;exact qhT hash_l (by decide)
 ·obtain⟨m,_,rfl⟩:=qV.mp hx;exact qhT dot_l (by decide)
theorem idx_app{a b:List Str}(h:∀x∈a,x≠T "|"):(a++b).findIdx (·== T "|")=a.length+b.findIdx (·== T "|"):=by
 induction a with
 | nil=>simp
 | cons x r ih =>
   rw[xN,List.findIdx_cons,show(x == T "|")=false from by simpa using h x qJ,cond_false,ih λy hy=>h y (qN _ hy),qT]
   omega
theorem qhY{d:Nd}(h:Form d):qbi (allW d)=1+(w1 d++w2 d).length:=by
 have e:allW d=(d.k.s::(w1 d++w2 d))++w3 d:=by unfold allW;simp
 unfold qbi;rw[e,idx_app (allW_bar h),qT];unfold w3
 split
 ·rw[List.findIdx_cons,show(T "|" == T "|")=true from by simp,cond_true];omega
 ·rw[List.findIdx_nil];omega
theorem qhh{d:Nd}(h:Form d):qbe (allW d)=w1 d++w2 d:=by
 unfold qbe;rw[qhY h];have e:allW d=d.k.s::((w1 d++w2 d)++w3 d):=by unfold allW;simp
 rw[e,wS,vF,Nat.add_sub_cancel_left,List.take_left]
theorem rest_of{d:Nd}(h:Form d):qbK (allW d)=d.st.map thS:=by
 unfold qbK;rw[qhY h];have e:allW d=(d.k.s::(w1 d++w2 d))++w3 d:=by unfold allW;simp
 rw[e,show 1+(w1 d++w2 d).length+1=(d.k.s::(w1 d++w2 d)).length+1 by rw[qT];omega,List.drop_append];rw[xA (by omega),yL,Nat.add_sub_cancel_left];unfold w3
 split
 ·rfl
 ·rename_i z;rw[rA (Nat.eq_zero_of_not_pos z)];rfl
theorem marks_all{d:Nd}(h:Form d):((w2 d).map (labB 46)).all id=true/\(w2 d).filter (labB 46)=w2 d:=by
 have all:∀x∈w2 d,labB 46 x=true:=λx hx=>by
  obtain⟨m,hm,rfl⟩:=qV.mp hx;exact qhQ 46 dot_l (h.mks.2.1 m hm)
 refine⟨?_,uI.mpr all⟩;rw[xB];intro b hb;obtain⟨x,hx,rfl⟩:=qV.mp hb;exact all x hx
theorem labs_read{d:Nd}(h:Form d):qbA (w1 d++w2 d)=true/\qbF (w1 d++w2 d)=d.nm/\qbd (w1 d++w2 d)=d.mks:=by
 obtain⟨ma,mf⟩:=marks_all h;have mk:(w2 d).map tl1=d.mks:=by
  unfold w2;rw[xF];have:(tl1∘λx=>T "." ++ x)=id:=by
   funext m;exact qh6 46 m (T ".") dot_l
  rw[this,List.map_id]
 by_cases hn:d.nm=noName
 ·have e1:w1 d=[]:=by unfold w1;rw[if_pos hn]
  rw[e1,yL];have f1:qbw (w2 d)=false:=by
   cases e:w2 d with
   | nil=>rfl
   | cons x r =>
     have hx:x∈w2 d:=by rw[e];exact qJ
     obtain⟨m,hm,rfl⟩:=qV.mp hx
     exact qit dot_l (by decide)
  refine⟨?_,?_,?_⟩
  ·unfold qbA;rw[f1];exact ma
  ·unfold qbF;rw[f1,hn];rfl
  ·unfold qbd;rw[mf,mk]
 ·have nm:=h.nm.resolve_left hn;have e1:w1 d=[T "#" ++ d.nm]:=by unfold w1;rw[if_neg hn]
  have f1:qbw (w1 d++w2 d)=true:=by rw[e1];exact qhQ 35 hash_l nm
  refine⟨?_,?_,?_⟩
  ·unfold qbA;rw[f1,if_pos rfl,e1];exact ma
  ·unfold qbF;rw[f1,if_pos rfl,e1];exact qh6 35 d.nm (T "#") hash_l
  ·unfold qbd;rw[rT,mf,e1,show[T "#" ++ d.nm].filter (labB 46)=[]from List.filter_cons_of_neg (by rw[qit hash_l (by decide)];decide),yL,mk]
theorem stuff_read{k:Kd}{st:List Th}(h:Stuff k st):qaT k (st.map thS)=some (st.map zeroN)/\(qaE k=false->st=[]):=by
 by_cases hp:k=.picture
 ·subst hp;obtain⟨a,b,rfl,a1,a2,b1,b2⟩:=h;refine⟨?_,λz=>by cases z⟩;unfold qaT;have e:(([Th.int a,Th.int b].map thS).map λx=>Th.int (qaK x))=[.int a,.int b]:=by
   show[Th.int (qaK (T (toString a))),Th.int (qaK (T (toString b)))]=_;rw[(qei a1 a2).1,(qei b1 b2).1]
  rw[if_pos rfl,e,if_pos ⟨a,b,rfl,a1,a2,b1,b2⟩];rfl
 ·by_cases ho:ofPieces k=true
  ·have hk:k∈[Kd.text,.head,.note]:=by cases k<;>first | (cases ho;done) | decide
   obtain⟨pc,⟨x,r,e,_⟩,_⟩:=(qcg hk).mpr h;have hs:qaE k=true:=by unfold qaE;rw[qB hk,Bool.or_true]
   refine⟨?_,λz=>by rw[hs]at z;cases z⟩;have e1:(st.map thS).map qaA=(st.map zeroN).map some:=by
    rw[xF,xF];exact List.map_congr_left λx hx=>read_piece (pc x hx)
   have e2:(st.map thS).filterMap qaA=st.map zeroN:=by
    have:(st.map thS).filterMap qaA=((st.map thS).map qaA).filterMap id:=by rw[vW (f:=qaA) (g:=id) (l:=st.map thS)];rfl
    rw[this,e1,vW];exact List.filterMap_some
   unfold qaT;rw[if_neg hp,hs,e1,e2];have e3:((st.map zeroN).map some).any Option.isNone=false:=by
    rw[v0];intro o ho;obtain⟨y,_,rfl⟩:=qV.mp ho;simp
   rw[e3,qA,e,qB (by simp:0<(x::r).length)];rfl
  ·have ho:ofPieces k=false:=by simpa using ho
   have st0:st=[]:=by cases k<;>first | exact absurd rfl hp | exact h | exact absurd ho (by decide)
   have hs:qaE k=false:=by
    unfold qaE;cases k<;>first | exact absurd rfl hp | rfl | exact absurd ho (by decide)
   subst st0;refine⟨?_,λ_=>rfl⟩;unfold qaT;rw[if_neg hp,hs];rfl
theorem kind_self(k:Kd)(hk:k∈kindsAll):kindOf k.s=some k:=by
 have all:∀k∈kindsAll,kindOf k.s=some k:=by ac_rfl
 exact all k hk
theorem parts_written{d:Nd}(l:Nat)(h:Form d)(hk:d.k∈kindsAll):qa8 (gtS l++qcv d)=some ⟨(l:Int),d.k,d.nm,d.mks,d.st.map zeroN⟩:=by
 obtain⟨rw1,rl⟩:=qf2 l h hk;obtain⟨a1,a2,a3⟩:=labs_read h;obtain⟨s1,s2⟩:=stuff_read h.st;unfold qa8;rw[rw1,rl,qhh h,rest_of h,a1,a2,a3,show(allW d).headD noName=d.k.s from rfl,kind_self d.k hk];dsimp only;rw[s1];have e:(!qaE d.k && decide (qbi (allW d)<(allW d).length))=false:=by
  cases hs:qaE d.k with
  | true=>rfl
  | false =>
    rw[qhY h]
    have:(allW d).length=1+(w1 d++w2 d).length:=by
      unfold allW w3
      rw[s2 hs]
      simp
      omega
    rw[this]
    simp
 rw[e];rfl
def Zd(d:Nd):Nd:={d with st:=d.st.map zeroN}
theorem qf6(x:Th):isNote (zeroN x)=isNote x:=by
 cases x with
 | int n=>rfl
 | tri s y t=>cases s<;>cases y<;>rfl
theorem zero_pc{x:Th}(h:PcOk x):PcOk (zeroN x):=by
 cases x with
 | int n=>cases h
 | tri s y t=>cases s<;>cases y<;>first | exact h | (exfalso;exact h) | exact⟨by decide,by decide,h.2.2⟩
theorem zero_stuff{k:Kd}{st:List Th}(h:Stuff k st):Stuff k (st.map zeroN):=by
 cases k<;>first
  | (obtain ⟨h1,⟨x,r,rfl,nx⟩,h3⟩:=h
     exact⟨λy hy=>(by obtain⟨z,hz,rfl⟩:=qV.mp hy;exact zero_pc (h1 z hz)),⟨zeroN x,r.map zeroN,rfl,by rw[qf6];exact nx⟩,by rw[qA];exact h3⟩)
  | (obtain⟨a,b,rfl,q⟩:=h;exact⟨a,b,rfl,q⟩)
  | (have:st=[]:=h;subst this;exact rfl)
theorem zero_form{d:Nd}(h:Form d):Form (Zd d):=⟨h.nm,h.mks,zero_stuff h.st⟩
theorem mendName_self{ds:List Nd}{nm:Str}(h:nm=noName\/nm∉ds.map Nd.nm):qaP ds nm=nm:=by
 unfold qaP
 split
 ·rename_i z;rcases h with h | h
  ·exact h.symm
  ·exact absurd z h
 ·rfl
theorem mendMarks_self{mks:List Str}(h:qif mks):qaL mks=mks:=by
 have nd:mks.Nodup:=h.2.2.imp λh e=>by subst e;exact absurd h (List.lt_irrefl _)
 refine qcP ⟨mks,?_,h.2.2,?_⟩
 ·rw[once_self nd]
 ·rw[rQ h.1]
theorem newSt_self{k:Kd}{st:List Th}(h:Stuff k st)(nn:k=.note->∀x∈st,isNote x=false):qdh k st=st/\(ofPieces k=true->qaq k st=st/\st≠[]):=by
 cases ho:ofPieces k with
 | false =>
   refine⟨?_,λz=>by cases z⟩
   unfold qdh
   rw[ho]
   rfl
 | true =>
   have hk:k∈[Kd.text,.head,.note]:=by cases k<;>first | (cases ho;done) | decide
   obtain⟨pc,⟨x,r,e,nx⟩,le⟩:=(qcg hk).mpr h
   have em:qaq k st=st:=by
     unfold qaq
     split
     · rename_i z
       rw[uI.mpr λy hy=>by rw[nn z y hy];rfl,rQ le]
     · rw[e,yJ (by rw[nx];decide),<-e,rQ le]
   have ne:st≠[]:=by rw[e];simp
   refine⟨?_,λ_=>⟨em,ne⟩⟩
   unfold qdh
   rw[ho,if_pos rfl,em,if_neg ne]
theorem made_self{ds:List Nd}{e:Int}{d:Nd}{l:Int}(h:Form d)(hn:d.nm=noName\/d.nm∉ds.map Nd.nm)(nn:d.k=.note->∀x∈d.st,isNote x=false):qa9 ds e ⟨l,d.k,d.nm,d.mks,d.st⟩=⟨e,d.k,d.nm,d.mks,d.st⟩/\qaO ds ⟨l,d.k,d.nm,d.mks,d.st⟩=[]:=by
 have h1:=mendName_self hn;have h2:=mendMarks_self h.mks;obtain⟨h3,h4⟩:=newSt_self h.st nn;refine⟨?_,?_⟩
 ·unfold qa9;rw[h1,h2,h3]
 ·unfold qaO;rw[qcK (λz=>z h1),qcK (λz=>z h2),qcK (λz=>z.2 (h4 z.1).1),qcK (λz=>(h4 z.1).2 ((h4 z.1).1.symm.trans z.2))];rfl
def qid(ds:List Nd):Prop:=∀(n:Nat) (d:Nd),ds[n]?=some d->∀j:Nat,d.e=(j:Int)->j<n
theorem up_down{ds:List Nd}(lo:qid ds){a b m:Nat}(u:Up ds a b m):∀{l:Nat},Lev ds b l->∃r,Down ds (a::r)/\r.length=l+m/\(a::r)[m]?=some b:=by
 induction u with
 | @here a =>
   intro l lv
   have all:∀{a l:Nat},Lev ds a l->∃r,Down ds (a::r)/\r.length=l:=by
     intro a l lv
     induction lv with
     | @top i d e h=>exact⟨[],⟨d,e,h⟩,rfl⟩
     | @up i j l d e h1 h2 h3 ih =>
       obtain⟨r,dn,el⟩:=ih
       exact⟨j::r,⟨⟨d,e,h1,h2⟩,dn⟩,by rw[qT,el]⟩
   obtain⟨r,dn,el⟩:=all lv
   exact⟨r,dn,el,rfl⟩
 | @step a b j m d e1 e2 u' ih =>
   intro l lv
   obtain⟨r,dn,el,eb⟩:=ih lv
   exact⟨j::r,⟨⟨d,e1,e2,lo a d e1 j e2⟩,dn⟩,by rw[qT,el];omega,by rw[List.getElem?_cons_succ];exact eb⟩
def qia(ds es:List Nd):Prop:=ds.length<=es.length/\∀n,n<ds.length->(ds[n]?).map Nd.e=(es[n]?).map Nd.e
theorem qed{ds es:List Nd}(h:qia ds es){n:Nat}{d:Nd}(e:es[n]?=some d)(l:n<ds.length):∃c,ds[n]?=some c/\c.e=d.e:=by
 have:=h.2 n l;rw[e,qE l]at this;exact⟨_,qE l,rD this⟩
theorem up_alike{ds es:List Nd}(h:qia ds es)(lo:qid es){a b m:Nat}(u:Up es a b m):a<ds.length->Up ds a b m:=by
 induction u with
 | here=>intro _;exact .here
 | @step a b j m d e1 e2 u' ih =>
   intro l
   obtain⟨c,ec,ee⟩:=qed h e1 l
   exact .step ec (by rw[ee];exact e2) (ih (uF (lo a d e1 j e2) l))
theorem lev_alike{ds es:List Nd}(h:qia ds es){a l:Nat}(lv:Lev es a l):a<ds.length->Lev ds a l:=by
 induction lv with
 | @top i d e hd =>
   intro li
   obtain⟨c,ec,ee⟩:=qed h e li
   exact .top ec (by rw[ee];exact hd)
 | @up i j l d e h1 h2 h3 ih =>
   intro li
   obtain⟨c,ec,ee⟩:=qed h e li
   exact .up ec (by rw[ee];exact h1) h2 (ih (by omega))
theorem qe8{ds:List Nd}{a l:Nat}(h:Lev ds a l):∀{k:Nat},Lev ds a k->l=k:=by
 induction h with
 | @top i d e hd =>
   intro k h'
   cases h' with
   | top=>rfl
   | up e' h1 _ _=>rw[e]at e';cases e';rw[hd]at h1;omega
 | @up i j l d e h1 h2 h3 ih =>
   intro k h'
   cases h' with
   | top e' hd=>rw[e]at e';cases e';rw[hd]at h1;omega
   | @up _ j' _ _ e' h1' _ h3' =>
     rw[e]at e'
     cases e'
     have:j=j':=by omega
     subst this
     rw[ih h3']
theorem qhi{ds:List Nd}{i n:Nat}(hn:n<i)(hi:i<=ds.length):((ds.take i).map Zd)[n]?=ds[n]?.map Zd:=by
 rw[qP,List.getElem?_take,if_pos hn]
theorem qhf{ds:List Nd}{i:Nat}(hi:i<=ds.length):((ds.take i).map Zd).length=i:=by rw[qA,rN];omega
theorem zs_alike{ds:List Nd}{i:Nat}(hi:i<=ds.length):qia ((ds.take i).map Zd) ds:=by
 refine⟨by rw[qhf hi];exact hi,λn hn=>?_⟩;rw[qhf hi]at hn;rw[qhi hn hi];cases ds[n]?<;>rfl
theorem qeP{ds:List Nd}(g:GoodX ds):qid ds:=λn d e j ej=>by
 rcases(g.tree n d e).up with⟨_,z⟩ | ⟨_,j',_,e',lt,_⟩
 ·rw[z]at ej;omega
 ·have:j=j':=by omega
  omega
theorem names_ahead{ds:List Nd}(h:qd1 ds){n:Nat}{d:Nd}(e:ds[n]?=some d):d.nm=noName\/d.nm∉((ds.take n).map Zd).map Nd.nm:=by
 by_cases hn:d.nm=noName
 ·exact .inl hn
 ·refine .inr λhm=>?_
  obtain⟨z,hz,ez⟩:=qV.mp hm;obtain⟨c,hc,rfl⟩:=qV.mp hz;have hl:n<ds.length:=(qD.mp e).1;have sp:ds=ds.take n++d::ds.drop (n+1):=by
   rw[<-qca e,yD]
  unfold qd1 at h;rw[sp,rT,List.filter_cons_of_pos (by simpa using hn),qM,rH,uV]at h;have ez:c.nm=d.nm:=ez;exact h.2.2 c.nm (yV (xL.mpr ⟨hc,by rw[ez];simpa using hn⟩)) d.nm qJ ez
theorem qf4{ds:List Nd}(g:GoodX ds){n:Nat}{d:Nd}(e:ds[n]?=some d)(hk:d.k=.note):∀x∈d.st,isNote x=false:=by
 obtain⟨may,_,_,nums⟩:=g.held n d e;have k0:kk ds n=[]:=by
  cases h:kk ds n with
  | nil=>rfl
  | cons c r =>
    have:=may c (by rw[h];exact qJ)
    rw[hk]at this
    cases c<;>cases this
 have nn:=nums (by rw[hk];rfl);rw[k0]at nn;have pc:=qfo (g.form d (qK e)).2.2.2 (by rw[hk];rfl);intro x hx;cases hx2:isNote x with
 | false=>rfl
 | true =>
   have px:=pc.1 x hx
   cases x with
   | int m=>cases px
   | tri s y t =>
     cases y with
     | inl w=>cases s<;>first | (exfalso;exact px) | cases hx2
     | inr m =>
       cases s<;>first | cases hx2 | skip
       have:m∈qaj d.st:=uP.mpr ⟨_,hx,rfl⟩
       rw[nn]at this
       cases this
theorem zero_notes{st:List Th}(h:∀x∈st,isNote x=false):st.map zeroN=st:=by
 have:st.map zeroN=st.map id:=List.map_congr_left λx hx=>by
  have hx:=h x hx;cases x with
  | int n=>rfl
  | tri s y t=>cases s<;>cases y<;>first | rfl | cases hx
 rw[this,List.map_id]
theorem zero_isnote{st:List Th}(h:∀x∈st,isNote x=false):∀x∈st.map zeroN,isNote x=false:=λx hx=>by
 obtain⟨y,hy,rfl⟩:=qV.mp hx;rw[qf6];exact h y hy
theorem read_one{ds:List Nd}(g:GoodX ds){i l:Nat}{d:Nd}(e:ds[i]?=some d)(lv:Lev ds i l)(ok:NodesOk ((ds.take i).map Zd)):qaV ((ds.take i).map Zd) (gtS l++qcv d)=([Zd d],[]):=by
 obtain⟨_,_,hk,fm⟩:=g.form d (qK e);have hi:i<ds.length:=(qD.mp e).1;have le:=g.le;have zl:=qhf (ds:=ds) (i:=i) (by omega);obtain⟨tb,tu,_⟩:=g.tree i d e;have nn:(Zd d).k=.note->∀x∈(Zd d).st,isNote x=false:=λz=>zero_isnote (qf4 g e z)
 have na:=names_ahead g.names e;have ms:=λ(e:Int)=>made_self (ds:=(ds.take i).map Zd) (d:=Zd d) (e:=e) (l:=(l:Int)) (zero_form fm) na nn
 unfold qaV;rw[parts_written l fm hk];dsimp only;rw[if_neg (by omega)]
 by_cases i0:i=0
 ·subst i0;have dk:d.k=.body:=tb.mpr rfl;have de:d.e=-1:=by
   rcases tu with⟨_,z⟩ | ⟨z,_⟩
   ·exact z
   ·exact absurd z (by decide)
  have l0:l=0:=qe8 lv (.top e de);subst l0;rw[if_pos (by rfl)];unfold qa3;rw[if_pos dk];have m1:=(ms (-1)).1;have m2:=(ms (-1)).2;rw[show((ds.take 0).map Zd)=[]from rfl]at m1 m2;have lw:qa2 ⟨((0:Nat):Int),d.k,d.nm,d.mks,d.st.map zeroN⟩ 0=[]:=qcK (λz=>z rfl);rw[lw,show qaO [] ⟨((0:Nat):Int),d.k,d.nm,d.mks,d.st.map zeroN⟩=[]from m2,show qa9 [] (-1) ⟨((0:Nat):Int),d.k,d.nm,d.mks,d.st.map zeroN⟩=⟨-1,d.k,d.nm,d.mks,d.st.map zeroN⟩from m1,<-de];rfl
 have ip:0<i:=by omega
 have nb:d.k≠.body:=λz=>i0 (tb.mp z)
 have nz:(ds.take i).map Zd≠[]:=λz=>by rw[z]at zl;simp at zl;omega
 rw[if_neg nz,if_neg nb];rcases tu with⟨z,_⟩ | ⟨_,j,m,ej,jl,uj⟩
 ·exact absurd z i0
 have al:=zs_alike (ds:=ds) (i:=i) (by omega);obtain⟨lj,lvj,ll⟩:∃lj,Lev ds j lj/\l=lj+1:=by
  cases lv with
  | top e' hd=>rw[e]at e';cases e';rw[hd]at ej;omega
  | @up _ j' lj _ e' h1 _ h3 =>
    rw[e]at e'
    cases e'
    have:j=j':=by omega
    subst this
    exact⟨lj,h3,rfl⟩
 have l6:l<=6:=by
  obtain⟨u,u6,lu⟩:=(g.tree i d e).lev;rw[qe8 lv lu];exact u6
 have lov:qid ((ds.take i).map Zd):=λn c hc k ek=>by
  have hn:n<i:=by have:=(qD.mp hc).1;rw[zl]at this;exact this
  rw[qhi hn (by omega)]at hc;cases e2:ds[n]? with
  | none=>rw[e2]at hc;cases hc
  | some c'=>rw[e2]at hc;cases hc;exact qeP g n c' e2 k ek
 obtain⟨r,dn,rl,rj⟩:=up_down lov (up_alike al (qeP g) uj (by rw[zl];omega)) (lev_alike al lvj (by rw[zl];omega));have ul:upL ((ds.take i).map Zd)=(i-1)::r:=by
  unfold upL;rw[zl];have:=dn.len;exact Down.is dn (by omega)
 have ul2:(upL ((ds.take i).map Zd)).length=lj+m+1:=by rw[ul,qT,rl]
 have pl:(qbv ((ds.take i).map Zd)).length=lj+m+1:=by unfold qbv;rw[vP,ul2]
 have pe:(qbv ((ds.take i).map Zd)).getD (l-1) 0=j:=by
  unfold qbv;rw[xW,uU (by omega),ul2,show lj+m+1-1-(l-1)=m by omega,ul,rj];rfl
 obtain⟨dj,edj⟩:∃dj,ds[j]?=some dj:=⟨_,qE (by omega)⟩;have may:mayHold dj.k d.k=true:=(g.held j dj edj).1 d.k (by
  unfold kk;refine qV.mpr ⟨d,xL.mpr ⟨qK e,?_⟩,rfl⟩;unfold qha;rw[ej];simp)
 have ok1:okLv ((ds.take i).map Zd) d.k l=true:=by
  unfold okLv;rw[pe,qB (by omega),xP];unfold qb0;rw[qhi (by omega) (by omega),edj];exact may
 have ml:qa5 ((ds.take i).map Zd) d.k l=l:=by
  unfold qa5;rw[show min (max l 1) 6=l by omega];obtain⟨t,rfl⟩:∃t,l=t+1:=⟨l-1,by omega⟩;exact qdH ok1
 unfold qas;dsimp only;rw[rM,ml,if_neg (by omega)];have ea:qbU ((ds.take i).map Zd) l=j:=pe;rw[ea,show qa2 ⟨(l:Int),d.k,d.nm,d.mks,d.st.map zeroN⟩ l=[]from qcK (λz=>z rfl),show qaO ((ds.take i).map Zd) ⟨(l:Int),d.k,d.nm,d.mks,d.st.map zeroN⟩=[]from(ms (j:Int)).2,show qa9 ((ds.take i).map Zd) (j:Int) ⟨(l:Int),d.k,d.nm,d.mks,d.st.map zeroN⟩=⟨(j:Int),d.k,d.nm,d.mks,d.st.map zeroN⟩from(ms (j:Int)).1,<-ej];rfl
theorem qhd{n:Int}(h1:1<=n)(h2:n<=2000):(T (toString n)).length<=4:=by
 have h:=(qei h1 h2).1;unfold qaK at h
 split at h
 ·rename_i z;unfold qcb at z;rw[rG,rG,qY]at z;exact z.1.1.2
 ·omega
theorem qhW{n:Int}(h1:1<=n)(h2:n<=2000):Low (T (toString n)):=by
 have h:=(qei h1 h2).1;unfold qaK at h
 split at h
 ·rename_i z;unfold qcb at z;rw[rG,all_map]at z;refine qcI λc hc=>?_
  have:=qip (rL (z.2 c hc));unfold Fig at this;omega
 ·omega
theorem qcG{x y:Str}(h:Low x)(k:Low y):Low (x++y):=qcI λa ha=>by
 rw[qaC]at ha;unfold Low at h k;rw[yG]at h k;rcases qW.mp ha with z | z
 ·exact rL (h a (by simpa using z))
 ·exact rL (k a (by simpa using z))
theorem qgH(t:Int):Low (qce t):=qcI λc hc=>by
 rw[qcz]at hc;rw[yQ hc];decide
theorem T_low1:Low (T "{")/\Low (T "}")/\Low (T "{}")/\Low (T "#")/\Low (T ".")/\Low (T "|")/\Low (T " "):=by
 unfold Low;ac_rfl
theorem pc_raw{x:Th}(h:PcOk x):Low (thS x)/\(thS x).length<=30:=by
 cases x with
 | int n=>cases h
 | tri s y t =>
   cases s<;>cases y<;>first | (exfalso;exact h) | skip
   · rename_i w
     refine⟨qcG (qgH t) h.1.low,?_⟩
     show(qce t++w).length<=30
     rw[qaz]
     have:=qc6 h.2.2
     have:=h.1.2.1
     omega
   · rename_i n
     refine⟨qcG (qcG (qcG (qgH t) T_low1.1) h.1.low) T_low1.2.1,?_⟩
     show(qce t++T "{" ++ n++T "}").length<=30
     rw[qaz,qaz,qaz]
     have:=qc6 h.2.2
     have:=h.1.2.1
     have:(T "{").length=1:=by ac_rfl
     have:(T "}").length=1:=by ac_rfl
     omega
   · exact⟨T_low1.2.2.1,by show(T "{}").length<=30;ac_rfl⟩
theorem st_raw{k:Kd}{st:List Th}(h:Stuff k st):st.length<=60/\∀x∈st,Low (thS x)/\(thS x).length<=30:=by
 refine⟨(qgw h).1,λx hx=>?_⟩;cases k<;>first
  | (obtain⟨h1,_⟩:=h;exact pc_raw (h1 x hx))
  | (obtain ⟨a,b,rfl,a1,a2,b1,b2⟩:=h
     rcases qO.mp hx with rfl | hx
     · exact⟨qhW a1 a2,qR (qhd a1 a2) (by decide)⟩
     · have:x=.int b:=(by simpa using hx)
       subst this
       exact⟨qhW b1 b2,qR (qhd b1 b2) (by decide)⟩)
  | (have:st=[]:=h;subst this;cases hx)
theorem kd_low(k:Kd):Low k.s/\k.s.length<=30:=by
 refine⟨?_,qR (kd_len k) (by decide)⟩;cases k<;>(unfold Low;ac_rfl)
theorem allW_raw{d:Nd}(h:Form d):(∀x∈allW d,Low x/\x.length<=30)/\(allW d).length<=67/\(w1 d++w2 d).length<=5:=by
 have l1:(w1 d).length<=1:=by unfold w1;split<;>simp
 have l2:(w2 d).length<=4:=by unfold w2;rw[qA];exact h.mks.1
 obtain⟨s1,s2⟩:=st_raw h.st;refine⟨λx hx=>?_,?_,by rw[qH];omega⟩
 ·unfold allW at hx;rcases qW.mp hx with hx | hx
  ·rcases qW.mp hx with hx | hx
   ·rcases qO.mp hx with rfl | hx
    ·exact kd_low d.k
    ·obtain⟨_,rfl,n⟩:=qhI h x hx;refine⟨qcG T_low1.2.2.2.1 n.low,?_⟩;rw[qaz];have:=n.2.1;have:(T "#").length=1:=by ac_rfl
     omega
   ·obtain⟨m,hm,rfl⟩:=qV.mp hx;have n:=h.mks.2.1 m hm;refine⟨qcG T_low1.2.2.2.2.1 n.low,?_⟩;rw[qaz];have:=n.2.1;have:(T ".").length=1:=by ac_rfl
    omega
  ·unfold w3 at hx
   split at hx
   ·rcases qO.mp hx with rfl | hx
    ·exact⟨T_low1.2.2.2.2.2.1,by ac_rfl⟩
    ·obtain⟨t,ht,rfl⟩:=qV.mp hx;exact s2 t ht
   ·cases hx
 ·unfold allW w3;rw[qH,qH,qT]
  split
  ·rw[qT,qA];omega
  ·simp;omega
theorem join_low:∀{l:List Str},(∀x∈l,Low x)->Low (Str.join (T " ") l)
 | [],_=>by unfold Low;ac_rfl
 | [x],h=>by rw[qdt];exact h x qJ
 | x :: y :: r, h => by
   rw[qcy]
   exact qcG (qcG (h x qJ) T_low1.2.2.2.2.2.2) (join_low λz hz=>h z (qN _ hz))
theorem row_ok{d:Nd}{l:Nat}(h:Form d)(hk:d.k∈kindsAll)(l1:l<=1000):RowOk (gtS l++qcv d):=by
 obtain⟨a1,a2,a3⟩:=allW_raw h;obtain⟨rw1,_⟩:=qf2 l h hk;refine⟨?_,?_,?_,?_⟩
 ·refine qcG (qcI λc hc=>?_) (join_low λx hx=>(a1 x hx).1);rw[qgh]at hc;rw[yQ hc];decide
 ·rw[qaz,qik];have:=qgU (B:=30) (allW d) λx hx=>(a1 x hx).2
  have e:qcv d=Str.join (T " ") (allW d):=rfl;rw[e];have:=yS 30 a2;omega
 ·rw[rw1];exact⟨λx hx=>⟨(a1 x hx).1,qR (a1 x hx).2 (by decide)⟩,by omega⟩
 ·rw[rw1,qhh h];omega
theorem qgd{ds:List Nd}(g:GoodX ds){L:Nat->Nat}(hl:Levs ds L):∀x∈qbJ L ds ds.length,RowOk x:=by
 intro x hx;unfold qbJ at hx;obtain⟨j,hj,rfl⟩:=qV.mp hx;have hj:=u3.mp hj;have e:ds[j]?=some ds[j]:=qE hj;rw[e];obtain⟨_,_,hk,fm⟩:=g.form ds[j] (yZ hj);exact row_ok fm hk (by have:=(hl j hj).2;have:=g.le;omega)
theorem qeU{ds:List Nd}(g:GoodX ds){L:Nat->Nat}(hl:Levs ds L):∀i,i<=ds.length->rdTo (qbJ L ds ds.length) i=((ds.take i).map Zd,[])
 | 0,_=>rfl
 | i + 1, hi => by
   have hi':i<ds.length:=hi
   have ih:=qeU g hl i (by omega)
   have e:ds[i]?=some ds[i]:=qE hi'
   have er:=qhy (L:=L) hi' e
   have ok:=qfT (qgd g hl) i
   rw[ih]at ok
   rw[qgv er,ih]
   have ro:=read_one g e (hl i hi').1 ok
   rw[ro,rO,e,rR,qM]
   rfl
theorem qdQ(m:Nat):∀(st:List Th) (c:Nat),(∀x∈st,PcOk x)->qaj st=((List.range (c+(qaj st).length)).drop c).map (λ(n:Nat)=>(n:Int))->c+(qaj st).length<=m->qbh m c (st.map zeroN)=st/\cntN m c (st.map zeroN)=c+(qaj st).length
 | [],c,_,_,_=>⟨rfl,rfl⟩
 | x :: st, c, pc, en, le => by
   have px:=pc x qJ
   have pr:∀y∈st,PcOk y:=λy hy=>pc y (qN _ hy)
   rw[rH]
   cases hx:isNote x with
   | false =>
     have n0:qaj (x::st)=qaj st:=by
       unfold qaj
       rw[xK]
       cases x with
       | int n=>rfl
       | tri s y t=>cases s<;>cases y<;>first | rfl | cases hx
     have z0:zeroN x=x:=by
       cases x with
       | int n=>rfl
       | tri s y t=>cases s<;>cases y<;>first | rfl | cases hx
     rw[n0]at en le⊢
     obtain⟨a,b⟩:=qdQ m st c pr en le
     rw[qbh,cntN,z0,hx]
     simp only[Bool.false_eq_true,if_false,false_and]
     exact⟨by rw[a],b⟩
   | true =>
     obtain⟨k,rfl⟩:∃k,x=qcJ k:=by
       cases x with
       | int n=>cases px
       | tri s y t =>
         cases y with
         | inl w=>cases s<;>first | (exfalso;exact px) | cases hx
         | inr k=>cases s<;>first | exact⟨k,by rw[show t=0 from px.2.2];rfl⟩ | cases hx
     have n1:qaj (qcJ k::st)=k::qaj st:=rfl
     rw[n1,qT]at en le⊢
     have sp:((List.range (c+((qaj st).length+1))).drop c)=c::(List.range (c+1+(qaj st).length)).drop (c+1):=by
       rw[show c+((qaj st).length+1)=c+1+(qaj st).length by omega,qca (a:=c) (uJ (by omega))]
     rw[sp,rH]at en
     obtain⟨e1,e2⟩:=wF en
     obtain⟨a,b⟩:=qdQ m st (c+1) pr e2 (by omega)
     rw[show zeroN (qcJ k)=qcJ 0 from rfl,qbh,cntN]
     have hc:c<m:=by omega
     simp only[show isNote (qcJ 0)=true from rfl,hc,if_true,and_self]
     refine⟨by rw[a,e1],?_⟩
     rw[b]
     omega
theorem nums_range(n:Nat):nums n=((List.range (0+n)).drop 0).map (λ(i:Nat)=>(i:Int)):=by
 rw[Nat.zero_add,vF];rfl
theorem qfl(n:Nat):(nums n).length=n:=by simp[nums]
theorem numP_zero{st:List Th}{m:Nat}(pc:∀x∈st,PcOk x)(h:qaj st=nums m):qaF m (st.map zeroN)=st/\(qaj (st.map zeroN)).length=m:=by
 have ln:(qaj st).length=m:=by rw[h,qfl]
 obtain⟨a,b⟩:=qdQ m st 0 pc (by rw[ln,<-nums_range];exact h) (by omega);refine⟨?_,?_⟩
 ·unfold qaF;rw[a,b,Nat.zero_add,ln,Nat.sub_self,Nat.zero_min];exact rC _
 ·rw[<-ln];unfold qaj;clear a b ln h
  induction st with
  | nil=>rfl
  | cons x r ih =>
    have ih:=ih λy hy=>pc y (qN _ hy)
    rw[rH,xK,xK]
    cases x with
    | int n=>exact ih
    | tri s y t=>cases s<;>cases y<;>first | exact ih | exact xO (·+ 1) ih
theorem qhF(ds:List Nd)(n:Int):kids (ds.map Zd) n=kids ds n:=by
 unfold kids qaI;rw[qA]
 congr 1
 refine List.filter_congr λj hj=>?_
 rw[qP];cases ds[j]?<;>rfl
theorem qgn(ds:List Nd)(n:Int):(kids ds n).map (λj=>qb0 ds j.toNat)=kk ds n:=by
 have all:∀i,i<=ds.length->(qaI ds n i).map (λj=>qb0 ds j.toNat)=kk (ds.take i) n:=by
  intro i
  induction i with
  | zero=>intro _;rfl
  | succ i ih =>
    intro hi
    have e:ds[i]?=some ds[i]:=qE hi
    have et:ds.take (i+1)=ds.take i++[ds[i]]:=by rw[rO,e];rfl
    rw[et,qiu,<-ih (by omega)]
    by_cases h:ds[i].e=n
    · rw[qbx e h,qM]
      congr 1
      show[qb0 ds ((i:Int)).toNat]=_
      rw[qdL,if_pos h,rM]
      unfold qb0
      rw[e]
      rfl
    · rw[qb8 e h,qdL,if_neg h]
      show _=_++(([]:List Kd)++kk [] n)
      rw[show kk [] n=[]from rfl,rC,rC]
 have:=all ds.length (qG _);rw[rJ]at this;exact this
theorem qcE(ds:List Nd)(n:Int):(kids ds n).length=(kk ds n).length:=by rw[<-qgn,qA]
theorem qc7{α β:Type}{ds:List α}{f:Nat->α->List β}(h:∀i d,ds[i]?=some d->f i d=[]):∀i,atTo ds f i=[]
 | 0=>rfl
 | i + 1 => by
   cases e:ds[i]? with
   | none=>rw[atTo,e];exact qc7 h i
   | some d=>rw[qa7 e,qc7 h i,h i d e];rfl
theorem qe1{α:Type}{ds es:List α}{f:Nat->α->List α}(hl:es.length=ds.length)(h:∀i d c,ds[i]?=some d->es[i]?=some c->f i c=[d]):atTo es f es.length=ds:=by
 have all:∀i,i<=ds.length->atTo es f i=ds.take i:=by
  intro i
  induction i with
  | zero=>intro _;rfl
  | succ i ih =>
    intro hi
    have e:ds[i]?=some ds[i]:=qE hi
    have e2:es[i]?=some es[i]:=qE (by omega)
    rw[qa7 e2,ih (by omega),h i _ _ e e2,rO,e]
    rfl
 rw[hl,all ds.length (qG _),rJ]
theorem cnt_nil:∀i,qaQ [] i=i
 | 0=>rfl
 | i+1=>by rw[qaQ,if_neg (by simp),cnt_nil i]
theorem nexts_text:∀(a b:List Kd),Nexts (a++.aside::b)->∃r,b=.text::r
 | [], b, h => by
   cases b with
   | nil=>exact absurd h (by intro z;exact z)
   | cons c r =>
     cases c<;>first | exact⟨r,rfl⟩ | exact absurd h (by intro z;exact z)
 | x :: a, b, h => by
   cases x<;>first
     | exact nexts_text a b h
     | (cases a with
        | nil=>exact absurd h (by intro z;exact z)
        | cons y a =>
          cases y<;>first
            | exact nexts_text a b h
            | exact absurd h (by intro z;exact z))
theorem next_text{ds:List Nd}(g:GoodX ds){n:Nat}{d:Nd}(e:ds[n]?=some d)(hk:d.k=.aside):qbE ds n d=.text:=by
 rcases(g.tree n d e).up with⟨z,_⟩ | ⟨_,j,_,ej,jl,_⟩
 ·have:=(g.tree n d e).body.mpr z;rw[hk]at this;cases this
 have hn:n<ds.length:=(qD.mp e).1;obtain⟨dj,edj⟩:∃dj,ds[j]?=some dj:=⟨_,qE (by omega)⟩;have nx:=(g.held j dj edj).2.2.1;have sp:∀i,i<=ds.length->n<i->∃b,qaI ds d.e i=qaI ds d.e n++(n:Int)::b/\∀x∈b,(n:Int)<x:=by
  intro i
  induction i with
  | zero=>intro _ h;exact absurd h (xM _)
  | succ i ih =>
    intro hi hni
    have ei:ds[i]?=some ds[i]:=qE hi
    by_cases hin:i=n
    · subst hin
      rw[e]at ei
      exact⟨[],by rw[qbx e rfl],λx hx=>nomatch hx⟩
    · obtain⟨b,eb,lb⟩:=ih (by omega) (by omega)
      by_cases h:ds[i].e=d.e
      · refine⟨b++[(i:Int)],by rw[qbx ei h,eb];simp,λx hx=>?_⟩
        rcases qW.mp hx with hx | hx
        · exact lb x hx
        · have:x=(i:Int):=by simpa using hx
          omega
      · exact⟨b,by rw[qb8 ei h,eb],lb⟩
 obtain⟨b,eb,lb⟩:=sp ds.length (qG _) hn;have below:∀x∈qaI ds d.e n,¬(n:Int)<x:=λx hx=>by
  unfold qaI at hx;obtain⟨y,hy,rfl⟩:=qV.mp hx;have:=u3.mp (xL.mp hy).1;omega
 have fl:(kids ds d.e).filter (λj=>decide ((n:Int)<j))=b:=by
  unfold kids;rw[eb,rT,List.filter_eq_nil_iff.mpr λx hx=>by simpa using below x hx,yL,List.filter_cons_of_neg (by simp),uI.mpr λx hx=>by simpa using lb x hx]
 have kkb:kk ds d.e=(qaI ds d.e n).map (λj=>qb0 ds j.toNat)++.aside::b.map (λj=>qb0 ds j.toNat):=by
  rw[<-qgn];unfold kids;rw[eb,qM,rH];have:qb0 ds ((n:Int)).toNat=.aside:=by
   unfold qb0;rw[rM,e,<-hk]
  rw[this]
 rw[<-ej,kkb]at nx;obtain⟨r,er⟩:=nexts_text _ _ nx;unfold qbE;rw[fl];cases b with
 | nil=>cases er
 | cons x r' =>
   rw[rH]at er
   exact(wF er).1
theorem written_end{ds:List Nd}(g:GoodX ds):qcd (ds.map Zd)=ds/\qbm (ds.map Zd)=[]:=by
 have g1:=g.ge;have ne:ds.map Zd≠[]:=by
  intro z;have:=xO List.length z;rw[qA]at this;simp at this;rw[this]at g1;simp at g1
 have bg:begun (ds.map Zd)=ds.map Zd:=by unfold begun;rw[if_neg ne]
 have held:∀(n:Nat) (d:Nd),ds[n]?=some d->mayHold d.k .note=true->qaF (kids (ds.map Zd) n).length (d.st.map zeroN)=d.st/\(qaj (d.st.map zeroN)).length=(kids (ds.map Zd) n).length:=λn d e hm=>by
  have ho:ofPieces d.k=true:=by rcases qcw hm with z | z<;>rw[z]<;>rfl
  have pc:=(qfo (g.form d (qK e)).2.2.2 ho).1;have nn:=(g.held n d e).2.2.2 ho;have:=numP_zero pc nn;rw[qhF,qcE];exact this
 have other:∀(n:Nat) (d:Nd),ds[n]?=some d->mayHold d.k .note=false->d.st.map zeroN=d.st:=λn d e hm=>by
  obtain⟨_,_,hk,fm⟩:=g.form d (qK e);have st:=fm.st;cases ho:ofPieces d.k with
  | true =>
    have:d.k=.note:=by
      cases hd:d.k<;>rw[hd]at hm ho<;>first | rfl | exact absurd ho (by decide) | exact absurd hm (by decide)
    exact zero_notes (qf4 g e this)
  | false =>
    cases hd:d.k<;>rw[hd]at st ho<;>first
      | (rw[show d.st=[]from st];rfl)
      | (obtain⟨a,b,e2,_⟩:=st;rw[e2];rfl)
      | exact absurd ho (by decide)
 have zget:∀{n:Nat} {c d:Nd},ds[n]?=some d->(ds.map Zd)[n]?=some c->c=Zd d:=λ{n c d} e1 e2=>by
  rw[qP,e1]at e2;exact(rD e2).symm
 have nl:qb9 (ds.map Zd)=ds:=by
  unfold qb9;refine qe1 (by rw[qA]) λi d c ed ec=>?_
  have:=zget ed ec;subst this;unfold noted;cases hm:mayHold (Zd d).k .note with
  | true =>
    rw[if_pos rfl]
    show[({Zd d with st:=qaF (kids (ds.map Zd) i).length (d.st.map zeroN)}:Nd)]=[d]
    rw[(held i d ed hm).1]
    rfl
  | false =>
    rw[if_neg (by decide)]
    show[({d with st:=d.st.map zeroN}:Nd)]=[d]
    rw[other i d ed hm]
 have sl:qav (ds.map Zd)=[]:=by
  unfold qav;refine qc7 (λi c ec=>?_) _;obtain⟨d,ed⟩:∃d,ds[i]?=some d:=⟨_,qE (by have:=(qD.mp ec).1;rw[qA]at this;exact this)⟩;have:=zget ed ec;subst this;unfold qbu;cases hm:mayHold (Zd d).k .note with
  | false=>rfl
  | true =>
    rw[if_pos rfl]
    show(kids (ds.map Zd) i).drop (qaj (qaF (kids (ds.map Zd) i).length (d.st.map zeroN))).length=[]
    have ho:ofPieces d.k=true:=by rcases qcw hm with z | z<;>rw[show d.k=_ from z]<;>rfl
    rw[(held i d ed hm).1,(g.held i d ed).2.2.2 ho,qfl,qhF,<-qcE]
    exact xA (qG _)
 have mn:qao (ds.map Zd)=ds:=by
  unfold qao;rw[nl,sl];unfold qcL;refine qe1 rfl λi d c ed ec=>?_
  rw[ed]at ec;cases ec;rw[if_neg (by simp)];have:qbr [] d.e=d.e:=by
   unfold qbr
   split
   ·rename_i z;exact z.symm
   ·rename_i z;rw[cnt_nil];have:=(g.form d (qK ed)).1;omega
  rw[this]
 have wc:∀(i:Nat) (d:Nd),ds[i]?=some d->qar ds i d=false:=λi d ed=>by
  unfold qar;have hne:=(g.held i d ed).2.1;have kn:neverEmpty d.k=true->kids ds i≠[]:=λz w=>by
   have:=qcE ds i;rw[w]at this;exact hne z (rA this.symm)
  cases hd:d.k<;>first
   | rfl
   | (rw[qC (kn (by rw[hd];rfl)),vE,Bool.or_false];rfl)
   | (rw[next_text g ed hd,qC (kn (by rw[hd];rfl)),vE];rfl)
 have mk:qaB ds=ds:=by
  unfold qaB;refine qe1 rfl λi d c ed ec=>?_
  rw[ed]at ec;cases ec;rw[wc i d ed];rfl
 obtain⟨d0,ed0⟩:∃d0,ds[0]?=some d0:=⟨_,qE g1⟩;have k0:kids ds 0≠[]:=λw=>by
  have h0:=(g.tree 0 d0 ed0).body.mpr rfl;have hh:=(g.held 0 d0 ed0).2.1 (by rw[h0];rfl);have:=qcE ds 0;rw[w]at this;exact hh (rA this.symm)
 refine⟨?_,?_⟩
 ·unfold qcd;rw[bg,mn,mk,if_neg k0]
 ·unfold qbm;rw[bg,mn,mk,qcK ne,qcK k0,qc7 (λi c ec=>?_),qc7 (λi d ed=>by rw[wc i d ed];rfl)]
  ·rfl
  ·obtain⟨d,ed⟩:∃d,ds[i]?=some d:=⟨_,qE (by have:=(qD.mp ec).1;rw[qA]at this;exact this)⟩;have:=zget ed ec;subst this;have:qbI (ds.map Zd) i (Zd d)=false:=by
    unfold qbI;cases hm:mayHold (Zd d).k .note with
    | false=>rfl
    | true =>
      rw[xP,decide_eq_false_iff_not]
      intro z
      exact z (held i d ed hm).2
   rw[this];rfl
theorem qdT{ds:List Nd}(g:GoodX ds){L:Nat->Nat}(hl:Levs ds L):qcM (qbJ L ds ds.length)=(ds,[]):=by
 unfold qcM;rw[qdG,qeU g hl ds.length (qG _),rJ];obtain⟨a,b⟩:=written_end g;show(qcd (ds.map Zd),[]++(qbm (ds.map Zd)).map λy=>((-1:Int),y))=(ds,[]);rw[a,b];rfl
theorem qfe{ds more:List Nd}{n:Nat}{d:Nd}(h:ds[n]?=some d):(ds++more)[n]?=some d:=by
 rw[rV (qD.mp h).1];exact h
theorem qiA{ds:List Nd}(more:List Nd){a b m:Nat}(h:Up ds a b m):Up (ds++more) a b m:=by
 induction h with
 | here=>exact .here
 | step e he u ih=>exact .step (qfe e) he ih
theorem qe5{ds:List Nd}(more:List Nd){i l:Nat}(h:Lev ds i l):Lev (ds++more) i l:=by
 induction h with
 | top e he=>exact .top (qfe e) he
 | up e he lt u ih=>exact .up (qfe e) he lt ih
theorem tree_app{ds:List Nd}(more:List Nd){n:Nat}{d:Nd}(h:TreeOk ds n d):TreeOk (ds++more) n d:=by
 refine⟨h.body,?_,?_⟩
 ·rcases h.up with z | ⟨pos,j,m,e,lt,u⟩
  ·exact .inl z
  ·exact .inr ⟨pos,j,m,e,lt,qiA more u⟩
 ·obtain⟨u,l6,l⟩:=h.lev;exact⟨u,l6,qe5 more l⟩
theorem qhR{ds:List Nd}:∀{r:List Nat} {b i j:Nat},Down ds (b::r)->(b::r)[i]?=some j->Up ds b j i
 | r, b, 0, j, _, e => by
   cases e
   exact .here
 | [],b,i+1,j,_,e=>by cases e
 | a :: r, b, i + 1, j, h, e => by
   obtain⟨⟨d,ed,he,_⟩,h⟩:=h
   exact .step ed he (qhR h e)
structure RdT(ds:List Nd):Prop where
 tree:∀n d,ds[n]?=some d->TreeOk ds n d
 names:qd1 ds
theorem rdt_nil:RdT []:=⟨(λn d h=>by cases h),List.nodup_nil⟩
theorem qe9{c:Nd}(e:c.e=-1)(k:c.k=.body):RdT [c]:=by
 refine⟨λn d h=>?_,?_⟩
 ·cases n with
  | zero =>
    cases h
    exact⟨⟨λ_=>rfl,λ_=>k⟩,.inl ⟨rfl,e⟩,0,by decide,.top rfl e⟩
  | succ n=>cases h
 ·unfold qd1
  by_cases z:c.nm=noName
  ·simp[z]
  ·simp[z]
theorem last_get{ds:List Nd}{c:Nd}{n:Nat}{d:Nd}(h:(ds++[c])[n]?=some d):ds[n]?=some d\/(n=ds.length/\d=c):=by
 by_cases hn:n<ds.length
 ·rw[rV hn]at h;exact .inl h
 ·rw[rY (by omega)]at h;have hz:n-ds.length=0:=by
   have:=(qD.mp h).1;simp at this;omega
  rw[hz]at h;cases h;exact .inr ⟨by omega,rfl⟩
theorem qg0{ds:List Nd}(ok:NodesOk ds)(r:RdT ds)(ne:ds≠[]){c:Nd}{t:Nat}(h1:1<=t)(h6:t<=6)(ht:t<=(upL ds).length){j:Nat}(hj:(upL ds)[(upL ds).length-t]?=some j)(kb:c.k≠.body)(ce:c.e=(j:Int))(nm:NmOk ds c.nm):RdT (ds++[c]):=by
 obtain⟨dn,hd⟩:=ok.down ne;have lt:(upL ds).length-t<(upL ds).length:=by omega
 have dj:=dn.drop lt;rw[qca hj]at dj;have pos:0<ds.length:=by cases ds with | nil=>exact absurd rfl ne | cons=>simp
 obtain⟨dd,ed⟩:=dn.mem j (qK hj);have jl:j<ds.length:=(qD.mp ed).1;have lj:=(Down.lev dj).1;rw[rW]at lj;have ll:(upL ds).length-((upL ds).length-t+1)=t-1:=by omega
 rw[ll]at lj;cases eu:upL ds with
 | nil=>rw[eu]at ht;have:t<=0:=ht;omega
 | cons b rr =>
   rw[eu]at dn hd hj
   have hb:b=ds.length-1:=by simpa using hd
   subst hb
   have up:=qhR dn hj
   refine⟨λn d h=>?_,names_push r.names nm⟩
   rcases last_get h with h | ⟨rfl,rfl⟩
   · exact tree_app [c] (r.tree n d h)
   · refine⟨⟨λz=>absurd z kb,λz=>by omega⟩,.inr ⟨pos,j,_,ce,jl,qiA _ up⟩,t-1+1,by omega,?_⟩
     exact .up h ce jl (qe5 _ lj)
theorem mendName_ok{ds:List Nd}{nm:Str}(h:nm=noName\/Name nm):NmOk ds (qaP ds nm):=by
 unfold qaP
 split
 ·exact .inl rfl
 ·rename_i n;rcases h with h | h
  ·exact .inl h
  ·exact .inr ⟨h,λc hc z=>n (qV.mpr ⟨c,hc,z⟩)⟩
theorem qeV{a:Kd}:mayHold a .body=false:=by cases a<;>rfl
theorem qeF{ds:List Nd}(ok:NodesOk ds)(r:RdT ds)(ne:ds≠[]){d:Nd}(pd:PartsOk d):RdT (ds++(qas ds d).1):=by
 unfold qas
 split
 ·rw[rC];exact r
 ·rename_i h;obtain⟨a1,a2,a3,a4,a5⟩:=qdA h;refine qg0 ok r ne (c:=qa9 ds (qbU ds (qa5 ds d.k d.e.toNat)) d) a1 a2 a3 a4 (λz=>?_) rfl (mendName_ok pd.nm);have:d.k=.body:=z;rw[this,qeV]at a5;cases a5
theorem first_rdt{d:Nd}(pd:PartsOk d):RdT (qa3 d).1:=by
 unfold qa3
 split
 ·rename_i k;exact qe9 rfl k
 ·exact qeF nodes_body (qe9 rfl rfl) (by simp) pd
theorem read_rdt{ds:List Nd}{x:Str}(ok:NodesOk ds)(r:RdT ds)(rx:RowOk x):RdT (ds++(qaV ds x).1):=by
 unfold qaV;cases e:qa8 x with
 | none=>rw[rC];exact r
 | some d =>
   have pd:=qdf rx e
   dsimp only
   split
   · rw[rC];exact r
   · split
     · rename_i h
       subst h
       exact first_rdt pd
     · rename_i h1 h2
       split
       · rename_i k
         exact qeF ok r h2 (qdK pd k)
       · exact qeF ok r h2 pd
theorem qhK{rows:List Str}(h:∀x∈rows,RowOk x):∀i,RdT (rdTo rows i).1
 | 0=>rdt_nil
 | i + 1 => by
   rw[rdTo]
   cases e:rows[i]? with
   | none=>exact qhK h i
   | some x=>exact read_rdt (qfT h i) (qhK h i) (h x (qK e))
theorem begun_rdt{ds:List Nd}(r:RdT ds):RdT (begun ds):=by
 unfold begun
 split
 ·exact qe9 rfl rfl
 ·exact r
theorem qh7{sp:List Int}:∀{N i:Nat},i<qaQ sp N->∃n,n<N/\(n:Int)∉sp/\qaQ sp n=i
 | 0,i,h=>absurd h (xM _)
 | N + 1, i, h => by
   rw[qaQ]at h
   by_cases hs:(N:Int)∈sp
   · rw[if_pos hs]at h
     obtain⟨n,h1,h2,h3⟩:=qh7 h
     exact⟨n,by omega,h2,h3⟩
   · rw[if_neg hs]at h
     by_cases e:i=qaQ sp N
     · exact⟨N,by omega,hs,e.symm⟩
     · obtain⟨n,h1,h2,h3⟩:=qh7 (show i<qaQ sp N by omega)
       exact⟨n,by omega,h2,h3⟩
theorem qgA{sp:List Int}:∀{n:Nat},0<qaQ sp n->∃p,p<n/\(p:Int)∉sp/\qaQ sp p+1=qaQ sp n/\∀i:Nat,p<i->i<n->(i:Int)∈sp
 | 0,h=>absurd h (rX _)
 | n + 1, h => by
   by_cases hs:(n:Int)∈sp
   · have e:qaQ sp (n+1)=qaQ sp n:=by rw[qaQ,if_pos hs]
     rw[e]at h⊢
     obtain⟨p,h1,h2,h3,h4⟩:=qgA h
     refine⟨p,by omega,h2,h3,λi hp hi=>?_⟩
     by_cases z:i=n
     · rw[z];exact hs
     · exact h4 i hp (by omega)
   · refine⟨n,by omega,hs,by rw[qaQ,if_neg hs],λi hp hi=>by omega⟩
theorem cnt_inj{sp:List Int}{a b:Nat}(ha:(a:Int)∉sp)(hb:(b:Int)∉sp)(h:qaQ sp a=qaQ sp b):a=b:=by
 rcases Nat.lt_trichotomy a b with l | l | l
 ·have:=qdZ ha l;omega
 ·exact l
 ·have:=qdZ hb l;omega
theorem qfW{ds:List Nd}{sp:List Int}:∀{N n:Nat} {d:Nd},N<=ds.length->n<N->ds[n]?=some d->(n:Int)∉sp->(qcL ds sp N)[qaQ sp n]?=some {d with e:=qbr sp d.e}
 | 0,n,d,_,h,_,_=>absurd h (xM _)
 | N + 1, n, d, hN, h, e, hs => by
   have hl:=qds ds sp (i:=N) (by omega)
   have eN:ds[N]?=some ds[N]:=qE (by omega)
   have st:qcL ds sp (N+1)=qcL ds sp N++(if(N:Int)∈sp then[]else[{ds[N]with e:=qbr sp ds[N].e}]):=by
     unfold qcL
     rw[qa7 eN]
   rw[st]
   by_cases z:n=N
   · subst z
     rw[eN]at e
     cases e
     rw[if_neg hs,rY (by omega),hl,Nat.sub_self]
     rfl
   · have ih:=qfW (N:=N) (by omega) (show n<N by omega) e hs
     rw[rV (qD.mp ih).1]
     exact ih
theorem qcD{ds:List Nd}{n:Nat}{d:Nd}(e:ds[n]?=some d)(hs:(n:Int)∉qav ds):(qao ds)[qaQ (qav ds) n]?=some {noted ds n d with e:=qbr (qav ds) d.e}:=by
 have hn:n<ds.length:=(qD.mp e).1;unfold qao;have:=qfW (ds:=qb9 ds) (sp:=qav ds) (N:=(qb9 ds).length) (n:=n) (d:=noted ds n d) (qG _) (by rw[qb4];exact hn) (by rw[qcW hn,e];rfl) hs;rw[this,(qbM ds n d).1]
theorem qgp{ds:List Nd}{i:Nat}{c:Nd}(h:(qao ds)[i]?=some c):∃(n:Nat) (d:Nd),ds[n]?=some d/\(n:Int)∉qav ds/\qaQ (qav ds) n=i/\c={noted ds n d with e:=qbr (qav ds) d.e}:=by
 have hi:=(qD.mp h).1;rw[qc1]at hi;obtain⟨n,h1,h2,h3⟩:=qh7 hi;have e:ds[n]?=some ds[n]:=qE h1;refine⟨n,ds[n],e,h2,h3,?_⟩;have:=qcD e h2;rw[h3,h]at this;exact rD this
theorem qbN{ds:List Nd}(ok:NodesOk ds){n j:Nat}{d:Nd}(e:ds[n]?=some d)(he:d.e=(j:Int)):(j:Int)∉qav ds/\j<n:=by
 rcases ok.hung n d e with⟨_,z,_⟩ | ⟨_,i,c,e1,lt,ec,m⟩
 ·omega
 ·have:i=j:=by omega
  subst this;refine⟨λhj=>?_,lt⟩;obtain⟨j',d',e2,ed',kd⟩:=qcX ok hj;have:i=j':=by omega
  subst this;rw[ec]at ed';cases ed';rw[kd]at m;cases ek:d.k<;>rw[ek]at m<;>cases m
theorem qb7{sp:List Int}{j:Nat}:qbr sp (j:Int)=(qaQ sp j:Nat):=by
 unfold qbr;rw[if_neg (by omega),rM]
theorem up_kept{ds:List Nd}(ok:NodesOk ds){a b m:Nat}(u:Up ds a b m):(a:Int)∉qav ds->Up (qao ds) (qaQ (qav ds) a) (qaQ (qav ds) b) m:=by
 induction u with
 | here=>intro _;exact .here
 | @step a b j m d e he u ih =>
   intro ha
   have k:=qbN ok e he
   refine .step (qcD e ha) ?_ (ih k.1)
   show qbr (qav ds) d.e=_
   rw[he,qb7]
theorem qgN{ds:List Nd}(ok:NodesOk ds){i l:Nat}(u:Lev ds i l):(i:Int)∉qav ds->Lev (qao ds) (qaQ (qav ds) i) l:=by
 induction u with
 | @top i d e he =>
   intro hi
   refine .top (qcD e hi) ?_
   show qbr (qav ds) d.e=-1
   rw[he]
   rfl
 | @up i j l d e he lt u ih =>
   intro hi
   have k:=qbN ok e he
   refine .up (qcD e hi) ?_ (qdZ k.1 k.2) (ih k.1)
   show qbr (qav ds) d.e=_
   rw[he,qb7]
theorem qhZ{ds:List Nd}(ok:NodesOk ds)(r:RdT ds){p:Nat}:∀{q j m:Nat},p<=q->q<ds.length->(∀i:Nat,p<i->i<=q->(i:Int)∈qav ds)->(j:Int)∉qav ds->Up ds q j m->∃m',Up ds p j m'
 | 0, j, m, h, _, _, _, u => by
   have:p=0:=by omega
   subst this
   exact⟨m,u⟩
 | q + 1, j, m, h, hq, all, hj, u => by
   by_cases z:p=q+1
   · subst z;exact⟨m,u⟩
   · have hs:=all (q+1) (by omega) (qG _)
     cases u with
     | here=>exact absurd hs hj
     | @step _ _ e0 m0 d e he u =>
       have k:=qbN ok e he
       rcases(r.tree (q+1) d e).up with⟨z,_⟩ | ⟨_,j',m',e',lt',u'⟩
       · omega
       · have:j'=e0:=by omega
         subst this
         obtain⟨m2,u2⟩:=qhZ ok r (show p<=q by omega) (by omega) (λi h1 h2=>all i h1 (by omega)) k.1 u'
         exact u2.trans u
theorem qem{ds es:List Nd}(h:(es.map (·.nm)).Sublist (ds.map (·.nm)))(n:qd1 ds):qd1 es:=by
 unfold qd1 at n⊢;have f:∀l:List Nd,(l.filter λd=>decide (d.nm≠noName)).map (·.nm)=(l.map (·.nm)).filter λx=>decide (x≠noName):=λl=>by
  induction l with
  | nil=>rfl
  | cons d l ih =>
    rw[yY,rH,yY]
    by_cases z:d.nm=noName
    · rw[if_neg (by simp[z]),if_neg (by simp[z])];exact ih
    · rw[if_pos (by simp[z]),if_pos (by simp[z]),rH,ih]
 rw[f]at n⊢;exact n.sublist (h.filter _)
theorem qgV(ds:List Nd)(sp:List Int):∀{N:Nat},N<=ds.length->((qcL ds sp N).map (·.nm)).Sublist ((ds.take N).map (·.nm))
 | 0,_=>by rw[List.take_zero];exact .refl _
 | N + 1, h => by
   have eN:ds[N]?=some ds[N]:=qE (by omega)
   have st:qcL ds sp (N+1)=qcL ds sp N++(if(N:Int)∈sp then[]else[{ds[N]with e:=qbr sp ds[N].e}]):=by
     unfold qcL
     rw[qa7 eN]
   have ih:=qgV ds sp (N:=N) (by omega)
   rw[st,rO,eN,rR,qM,qM]
   refine ih.append ?_
   by_cases hs:(N:Int)∈sp
   · rw[if_pos hs];exact List.nil_sublist _
   · rw[if_neg hs];exact .refl _
theorem noted_names(ds:List Nd):(qb9 ds).map (·.nm)=ds.map (·.nm):=by
 apply yK;intro i;rw[qP,qP]
 by_cases h:i<ds.length
 ·rw[qcW h];cases e:ds[i]? with
  | none=>rfl
  | some d =>
    show some (noted ds i d).nm=some d.nm
    rw[(qbM ds i d).2.2.1]
 ·rw[rS (by rw[qb4];omega),rS (by omega)]
theorem mend_rdt{ds:List Nd}(ok:NodesOk ds)(r:RdT ds):RdT (qao ds):=by
 refine⟨λi c h=>?_,?_⟩
 ·obtain⟨n,d,e,hs,rfl,rfl⟩:=qgp h;have tr:=r.tree n d e;have nl:n<ds.length:=(qD.mp e).1;have kb:(noted ds n d).k=d.k:=(qbM ds n d).2.1;have z0:qaQ (qav ds) n=0↔n=0:=by
   refine⟨λz=>?_,λz=>by rw[z];rfl⟩;rcases ok.hung n d e with⟨z,_⟩ | ⟨pos,j,_,he,lt,_⟩
   ·exact z
   ·have k:=qbN ok e he;have:=qdZ k.1 k.2;omega
  refine⟨?_,?_,?_⟩
  ·show(noted ds n d).k=.body↔_;rw[kb,z0];exact tr.body
  ·rcases tr.up with⟨z,he⟩ | ⟨pos,j,m,he,lt,u⟩
   ·refine .inl ⟨z0.mpr z,?_⟩;show qbr (qav ds) d.e=-1;rw[he];rfl
   ·have k:=qbN ok e he;have c1:=qdZ k.1 lt;obtain⟨p,h1,h2,h3,h4⟩:=qgA (sp:=qav ds) (n:=n) (by omega);obtain⟨m',u'⟩:=qhZ ok r (p:=p) (q:=n-1) (by omega) (by omega) (λi a b=>h4 i a (by omega)) k.1 u;refine .inr ⟨by omega,qaQ (qav ds) j,m',?_,c1,?_⟩
    ·show qbr (qav ds) d.e=_;rw[he,qb7]
    ·have:=up_kept ok u' h2;rw[show qaQ (qav ds) n-1=qaQ (qav ds) p by omega];exact this
  ·obtain⟨u,l6,l⟩:=tr.lev;exact⟨u,l6,qgN ok l hs⟩
 ·refine qem (ds:=qb9 ds) ?_ ?_
  ·have:=qgV (qb9 ds) (qav ds) (N:=(qb9 ds).length) (qG _);rw[rJ]at this;exact this
  ·refine qem (ds:=ds) ?_ r.names;rw[noted_names];exact .refl _
theorem qiM{x:Th}(h:isNote x=false):noteNum x=none:=by
 cases x with
 | int n=>rfl
 | tri s y t =>
   cases s<;>first | rfl | cases h
theorem qiG{l:List Th}(h:∀x∈l,isNote x=false):qaj l=[]:=by
 unfold qaj;exact List.filterMap_eq_nil_iff.mpr λx hx=>qiM (h x hx)
def NoNN(ds:List Nd):Prop:=∀d∈ds,d.k=.note->qaj d.st=[]
theorem qhL(ds:List Nd)(e:Int)(d:Nd):(qa9 ds e d).k=.note->qaj (qa9 ds e d).st=[]:=λh=>by
 have h:d.k=.note:=h;show qaj (qdh d.k d.st)=[];rw[h];unfold qdh;rw[if_pos (by rfl)]
 split
 ·exact qiG λx hx=>by
   have:x=.tri .word (.inl (T "?")) 0:=by simpa[bareSt]using hx
   rw[this];rfl
 ·refine qiG λx hx=>?_
  unfold qaq at hx;have hx:=uZ hx;rw[if_pos rfl]at hx;simpa using(xL.mp hx).2
theorem qe3(ds:List Nd)(d:Nd):NoNN (qas ds d).1:=λc hc=>by
 unfold qas at hc
 split at hc
 ·cases hc
 ·have:c=qa9 ds (qbU ds (qa5 ds d.k d.e.toNat)) d:=by simpa using hc
  rw[this];exact qhL _ _ _
theorem read_nn(ds:List Nd)(x:Str):NoNN (qaV ds x).1:=by
 unfold qaV;cases e:qa8 x with
 | none=>exact λc hc=>nomatch hc
 | some d =>
   dsimp only
   split
   · exact λc hc=>nomatch hc
   · split
     · unfold qa3
       split
       · intro c hc
         have:c=qa9 [] (-1) d:=by simpa using hc
         rw[this]
         exact qhL _ _ _
       · intro c hc
         rcases qO.mp hc with rfl | hc
         · intro z;cases z
         · exact qe3 _ _ c hc
     · split
       · exact qe3 _ _
       · exact qe3 _ _
theorem qiK(rows:List Str):∀i,NoNN (rdTo rows i).1
 | 0=>λc hc=>nomatch hc
 | i + 1 => by
   rw[rdTo]
   cases e:rows[i]? with
   | none=>exact qiK rows i
   | some x =>
     intro c hc
     rcases qW.mp hc with hc | hc
     · exact qiK rows i c hc
     · exact read_nn _ x c hc
theorem begun_nn{ds:List Nd}(h:NoNN ds):NoNN (begun ds):=by
 unfold begun
 split
 ·intro c hc;have:c=bodyNd:=by simpa using hc
  rw[this];intro z;cases z
 ·exact h
def rg(a n:Nat):List Int:=(List.range' a n).map λ(i:Nat)=>(i:Int)
theorem nums_rg(n:Nat):nums n=rg 0 n:=by
 unfold nums rg;rw[List.range_eq_range']
theorem qiB(a m n:Nat):rg a m++rg (a+m) n=rg a (m+n):=by
 unfold rg;rw[<-qM,List.range'_append_1]
theorem qgg(m:Nat):∀(l:List Th) (c:Nat),c<=cntN m c l
 | [],c=>qG _
 | x :: r, c => by
   rw[cntN]
   split
   · exact qR (uE c) (qgg m r (c+1))
   · exact qgg m r c
theorem qct(m:Nat):∀(l:List Th) (c:Nat),qaj (qbh m c l)=rg c (cntN m c l-c)
 | [],c=>by rw[qbh,cntN,Nat.sub_self];rfl
 | x :: r, c => by
   rw[qbh,cntN]
   cases hx:isNote x with
   | false =>
     rw[if_neg (by simp),if_neg (by simp)]
     unfold qaj
     rw[xK,qiM hx]
     exact qct m r c
   | true =>
     by_cases hc:c<m
     · rw[if_pos rfl,if_pos hc,if_pos ⟨rfl,hc⟩]
       unfold qaj
       rw[xK]
       have ih:=qct m r (c+1)
       unfold qaj at ih
       have g:=qgg m r (c+1)
       show((c:Nat):Int)::List.filterMap noteNum (qbh m (c+1) r)=_
       rw[ih,show cntN m (c+1) r-c=(cntN m (c+1) r-(c+1))+1 by omega]
       unfold rg
       rw[List.range'_succ]
       rfl
     · rw[if_pos rfl,if_neg hc,if_neg (λz=>hc z.2)]
       exact qct m r c
theorem qga(c:Nat):∀j,qaj (addN c j)=rg c j
 | 0=>rfl
 | j + 1 => by
   rw[addN]
   unfold qaj
   rw[List.filterMap_append]
   have ih:=qga c j
   unfold qaj at ih
   rw[ih,<-qiB c j 1]
   rfl
theorem numP_nums(m:Nat)(st:List Th):∃w,w<=m/\qaj (qaF m st)=nums w:=by
 have h1:=qeb m st 0 (r8 _);refine⟨cntN m 0 st+min (m-cntN m 0 st) (60-(qbh m 0 st).length),by omega,?_⟩;unfold qaF qaj;rw[List.filterMap_append];have a:=qct m st 0;have b:=qga (cntN m 0 st) (min (m-cntN m 0 st) (60-(qbh m 0 st).length));unfold qaj at a b;rw[a,b,Nat.sub_zero,nums_rg,<-qiB 0,Nat.zero_add]
theorem qhM{m:Nat}{st:List Th}(hm:m<=60)(h:qc5 st):qc5 (qaF m st):=by
 refine⟨qhj hm h.1,?_,qg5 h.2.2⟩;obtain⟨x,r,rfl,nx⟩:=h.2.1;refine⟨x,qbh m 0 r++addN (cntN m 0 (x::r)) (min (m-cntN m 0 (x::r)) (60-(qbh m 0 (x::r)).length)),?_,nx⟩;unfold qaF;have:qbh m 0 (x::r)=x::qbh m 0 r:=by rw[qbh,nx];rfl
 rw[this,xN]
theorem qg4{k:Kd}(h:mayHold k .note=true):k=.text\/k=.head:=by cases k<;>first | exact .inl rfl | exact .inr rfl | cases h
theorem noted_form{ds:List Nd}(le:ds.length<=60){n:Nat}{d:Nd}(h:Form d):Form (noted ds n d):=by
 unfold noted
 split
 ·rename_i m;refine⟨h.nm,h.mks,?_⟩;have kl:=kids_len ds n;rcases qg4 m with k | k
  ·have st:=h.st;show Stuff d.k (qaF _ d.st);rw[k]at st⊢;exact qhM (by omega) st
  ·have st:=h.st;show Stuff d.k (qaF _ d.st);rw[k]at st⊢;exact qhM (by omega) st
 ·exact h
theorem qge{ds:List Nd}(ok:NodesOk ds){n:Nat}(hn:(n:Int)∉qav ds):∀{N:Nat},N<=ds.length->qaI (qao ds) (qaQ (qav ds) n:Nat) (qaQ (qav ds) N)=((qaI ds n N).filter λj=>decide (j∉qav ds)).map (qbr (qav ds))
 | 0,_=>rfl
 | N + 1, h => by
   have e:ds[N]?=some ds[N]:=qE (by omega)
   have ih:=qge ok hn (N:=N) (by omega)
   by_cases hs:(N:Int)∈qav ds
   · rw[qaQ,if_pos hs,ih]
     by_cases he:ds[N].e=(n:Int)
     · rw[qbx e he,rT]
       have:([(N:Int)].filter λj=>decide (j∉qav ds))=[]:=by simp[hs]
       rw[this,rC]
     · rw[qb8 e he]
   · rw[qaQ,if_neg hs]
     have g:=qcD e hs
     by_cases he:ds[N].e=(n:Int)
     · rw[qbx e he,qbx g (by show qbr (qav ds) ds[N].e=_;rw[he,qb7]),rT,qM,ih]
       have:([(N:Int)].filter λj=>decide (j∉qav ds))=[(N:Int)]:=by simp[hs]
       rw[this,List.map_singleton,qb7]
     · rw[qb8 e he,qb8 g ?_,ih]
       intro z
       have z:qbr (qav ds) ds[N].e=(qaQ (qav ds) n:Nat):=z
       rcases ok.hung N ds[N] e with⟨_,e1,_⟩ | ⟨_,j,_,e1,_⟩
       · rw[e1]at z
         have:(-1:Int)=(qaQ (qav ds) n:Nat):=z
         omega
       · rw[e1,qb7]at z
         have k:=qbN ok e e1
         have:j=n:=cnt_inj k.1 hn (by omega)
         rw[this]at e1
         exact he e1
theorem qfS{ds:List Nd}(ok:NodesOk ds){n:Nat}(hn:(n:Int)∉qav ds):kids (qao ds) (qaQ (qav ds) n:Nat)=((kids ds n).filter λj=>decide (j∉qav ds)).map (qbr (qav ds)):=by
 unfold kids;rw[qc1];exact qge ok hn (qG _)
theorem qfR(ds:List Nd)(n:Int):(kids ds n).Pairwise (·< ·):=by
 unfold kids qaI;refine List.pairwise_map.mpr ?_;refine List.Pairwise.imp (λ{a b} (h:a<b)=>by omega) (List.Pairwise.filter _ List.pairwise_lt_range)
theorem in_spare{ds:List Nd}{n:Nat}{d:Nd}(e:ds[n]?=some d){x:Int}(hx:x∈kids ds n):x∈qav ds↔x∈qbu ds n d:=by
 constructor
 ·intro h;unfold qav at h;obtain⟨n',d',_,e',h'⟩:=qcZ h;have h2:=h';unfold qbu at h2
  split at h2
  ·obtain⟨j,dj,rfl,ej,he⟩:=qcn (yR h2);obtain⟨j2,dj2,e3,ej2,he2⟩:=qcn hx;have:j=j2:=by omega
   subst this;rw[ej]at ej2;cases ej2;have:n'=n:=by omega
   subst this;rw[e]at e';cases e';exact h'
  ·cases h2
 ·intro h;have all:∀{N:Nat},n<N->x∈atTo ds (λi d=>qbu ds i d) N:=by
   intro N
   induction N with
   | zero=>intro h;exact absurd h (xM _)
   | succ N ih =>
     intro hN
     rw[atTo]
     by_cases z:n=N
     · subst z
       rw[e]
       exact qZ _ h
     · cases eN:ds[N]? with
       | none=>exact ih (by omega)
       | some dN=>exact xX _ (ih (by omega))
  exact all (qD.mp e).1
theorem take_filter{l:List Int}(nd:l.Pairwise (·< ·))(w:Nat):(l.filter λj=>decide (j∉l.drop w))=l.take w:=by
 have e:l=l.take w++l.drop w:=(yD w l).symm;have dis:∀a∈l.take w,a∉l.drop w:=λa ha hb=>by
  rw[e]at nd;have:=(List.pairwise_append.mp nd).2.2 a ha a hb;omega
 have:(l.filter λj=>decide (j∉l.drop w))=((l.take w++l.drop w).filter λj=>decide (j∉l.drop w)):=by rw[yD]
 rw[this,rT];have h1:((l.take w).filter λj=>decide (j∉l.drop w))=l.take w:=uI.mpr λa ha=>by simpa using dis a ha
 have h2:((l.drop w).filter λj=>decide (j∉l.drop w))=[]:=List.filter_eq_nil_iff.mpr λa ha=>by simpa using ha
 rw[h1,h2,rC]
theorem notes_held{ds:List Nd}(ok:NodesOk ds){n:Nat}{d:Nd}(e:ds[n]?=some d)(hn:(n:Int)∉qav ds)(m:mayHold d.k .note=true):qaj (noted ds n d).st=nums (kids (qao ds) (qaQ (qav ds) n:Nat)).length:=by
 obtain⟨w,hw,hnum⟩:=numP_nums (kids ds n).length d.st;have en:(noted ds n d).st=qaF (kids ds n).length d.st:=by unfold noted;rw[if_pos m]
 rw[en,hnum,qfS ok hn,qA];have sp:qbu ds n d=(kids ds n).drop w:=by
  unfold qbu;rw[if_pos m,hnum,qfl]
 have:((kids ds n).filter λj=>decide (j∉qav ds))=(kids ds n).take w:=by
  rw[<-take_filter (qfR ds n) w];refine List.filter_congr λx hx=>?_
  have:=in_spare e hx;rw[sp]at this;simp[this]
 rw[this,rN,y8 hw]
theorem nexts_of':∀{ks:List Kd},(∀i:Nat,ks[i]?=some Kd.aside->ks[i+1]?=some Kd.text)->Nexts ks
 | [],_=>trivial
 | [.aside],h=>by have:=h 0 rfl;cases this
 | .aside :: c :: r, h => by
   have e:=h 0 rfl
   have e:some c=some Kd.text:=e
   cases e
   exact nexts_of' (ks:=r) λi hi=>h (i+2) hi
 | .body::r,h=>nexts_of' (ks:=r) λi hi=>h (i+1) hi
 | .case::r,h=>nexts_of' (ks:=r) λi hi=>h (i+1) hi
 | .shelf::r,h=>nexts_of' (ks:=r) λi hi=>h (i+1) hi
 | .grid::r,h=>nexts_of' (ks:=r) λi hi=>h (i+1) hi
 | .text::r,h=>nexts_of' (ks:=r) λi hi=>h (i+1) hi
 | .head::r,h=>nexts_of' (ks:=r) λi hi=>h (i+1) hi
 | .picture::r,h=>nexts_of' (ks:=r) λi hi=>h (i+1) hi
 | .note::r,h=>nexts_of' (ks:=r) λi hi=>h (i+1) hi
 | .no::r,h=>nexts_of' (ks:=r) λi hi=>h (i+1) hi
 | .leaf::r,h=>nexts_of' (ks:=r) λi hi=>h (i+1) hi
structure NotedOk(ns:List Nd):Prop where
 t:RdT ns
 le:ns.length<=60
 ge:1<=ns.length
 form:∀c∈ns,Form c/\c.k∈kindsAll
 hung:∀i c,ns[i]?=some c->(i=0/\c.e=-1/\c.k=.body)\/(0<i/\∃(j:Nat) (p:Nd),c.e=(j:Int)/\j<i/\ns[j]?=some p/\mayHold p.k c.k=true)
 nums:∀(i:Nat) c,ns[i]?=some c->ofPieces c.k=true->qaj c.st=Bk.nums (kids ns i).length
theorem noted_hung{ds:List Nd}(ok:NodesOk ds){i:Nat}{c:Nd}(h:(qao ds)[i]?=some c):(i=0/\c.e=-1/\c.k=.body)\/(0<i/\∃(j:Nat) (p:Nd),c.e=(j:Int)/\j<i/\(qao ds)[j]?=some p/\mayHold p.k c.k=true):=by
 obtain⟨n,d,e,hs,rfl,rfl⟩:=qgp h;rcases ok.hung n d e with⟨rfl,he,hk⟩ | ⟨pos,j,p,he,lt,ep,m⟩
 ·refine .inl ⟨rfl,?_,?_⟩
  ·show qbr (qav ds) d.e=-1;rw[he];rfl
  ·show(noted ds 0 d).k=.body;rw[(qbM ds 0 d).2.1,hk]
 ·have k:=qbN ok e he;have c1:=qdZ k.1 lt;refine .inr ⟨by omega,qaQ (qav ds) j,_,?_,c1,qcD ep k.1,?_⟩
  ·show qbr (qav ds) d.e=_;rw[he,qb7]
  ·show mayHold (noted ds j p).k (noted ds n d).k=true;rw[(qbM ds j p).2.1,(qbM ds n d).2.1];exact m
theorem noted_ok{ds:List Nd}(ok:NodesOk ds)(r:RdT ds)(nn:NoNN ds)(ne:ds≠[]):NotedOk (qao ds):=by
 refine⟨mend_rdt ok r,qR (qgo ds) ok.le,qhz ok ne,λc hc=>?_,λi c h=>noted_hung ok h,λi c h hp=>?_⟩
 ·obtain⟨n,d,e,hs,rfl⟩:=qg2 hc;obtain⟨f,k⟩:=ok.form d (qK e);have nf:=noted_form ok.le (n:=n) f;refine⟨⟨nf.nm,nf.mks,nf.st⟩,?_⟩;show(noted ds n d).k∈kindsAll;rw[(qbM ds n d).2.1];exact k
 ·obtain⟨n,d,e,hs,rfl,rfl⟩:=qgp h;have hp:ofPieces (noted ds n d).k=true:=hp;have kd:=(qbM ds n d).2.1;rw[kd]at hp;show qaj (noted ds n d).st=_
  by_cases m:mayHold d.k .note=true
  ·exact notes_held ok e hs m
  ·have kn:d.k=.note:=by
    cases ek:d.k<;>rw[ek]at hp m<;>first | rfl | exact absurd rfl m | exact absurd hp (by decide)
   have en:(noted ds n d)=d:=by unfold noted;rw[if_neg m]
   rw[en,nn d (qK e) kn];have:kids (qao ds) (qaQ (qav ds) n:Nat)=[]:=by
    rw[qfS ok hs];have:kids ds n=[]:=by
     cases ek:kids ds (n:Int)with
     | nil=>rfl
     | cons x l =>
       have hx:x∈kids ds (n:Int):=by rw[ek];exact qJ
       obtain⟨j,dj,rfl,ej,he⟩:=qcn hx
       rcases ok.hung j dj ej with⟨_,z,_⟩ | ⟨_,i,p,e1,_,ep,m'⟩
       · omega
       · have:i=n:=by omega
         subst this
         rw[e]at ep
         cases ep
         rw[kn]at m'
         cases ekj:dj.k<;>rw[ekj]at m'<;>cases m'
    rw[this];rfl
   rw[this];rfl
def mk(ns:List Nd)(i:Nat)(d:Nd):Nd:={d with k:=if qar ns i d then .case else d.k}
theorem qdB{ns:List Nd}{i:Nat}(h:i<ns.length):(qaB ns)[i]?=ns[i]?.map (mk ns i):=qe2 (qG _) h
theorem qel{ns:List Nd}{i:Nat}{c:Nd}(h:(qaB ns)[i]?=some c):∃d,ns[i]?=some d/\c=mk ns i d:=by
 have hi:=(qD.mp h).1;rw[qbS]at hi;have e:ns[i]?=some ns[i]:=qE hi;rw[qdB hi,e]at h;exact⟨ns[i],e,(rD h).symm⟩
theorem qbR{ns:List Nd}{i:Nat}{d:Nd}(e:ns[i]?=some d):(qaB ns)[i]?=some (mk ns i d):=by
 rw[qdB (qD.mp e).1,e];rfl
theorem qdJ(ns:List Nd)(n:Int):kids (qaB ns) n=kids ns n:=by
 unfold kids qaI;rw[qbS]
 congr 1
 refine List.filter_congr λj hj=>?_
 have hj:j<ns.length:=u3.mp hj;rw[qdB hj];cases ns[j]?<;>rfl
theorem qb3{ns:List Nd}{i:Nat}{d:Nd}(h:qar ns i d=true):d.k=.aside\/d.k=.shelf\/d.k=.grid:=by
 unfold qar at h;rw[wM,rG,rG]at h;rcases h with⟨h,_⟩ | ⟨h,_⟩
 ·exact .inl (rL h)
 ·have:=rL h;simpa using this
theorem may_case{a b:Kd}(h:mayHold a b=true){w w':Bool}(hw:w=true->a=.aside\/a=.shelf\/a=.grid)(hw':w'=true->b=.aside\/b=.shelf\/b=.grid):mayHold (if w then .case else a) (if w' then .case else b)=true:=by
 have s1:mayHold (if w then .case else a) b=true:=by
  cases w with
  | false=>exact h
  | true =>
    rcases hw rfl with rfl | rfl | rfl<;>cases b<;>first | rfl | cases h
 cases w' with
 | false=>exact s1
 | true =>
   generalize (if w then Kd.case else a)=x at s1⊢
   rcases hw' rfl with rfl | rfl | rfl<;>cases x<;>first | rfl | cases s1
theorem qib{ns:List Nd}{i:Nat}{d:Nd}{k:Kd}(h:(mk ns i d).k=k)(hk:k≠.case):qar ns i d=false/\d.k=k:=by
 have h:(if qar ns i d then Kd.case else d.k)=k:=h;cases w:qar ns i d with
 | true=>rw[w]at h;exact absurd h.symm hk
 | false=>rw[w]at h;exact⟨rfl,h⟩
theorem rise_next{l:List Int}(nd:l.Pairwise (·< ·)){q:Nat}{x:Int}(h:l[q]?=some x):(l.filter λj=>decide (x<j))=l.drop (q+1):=by
 obtain⟨hq,ex⟩:=qD.mp h;have e:l=l.take (q+1)++l.drop (q+1):=(yD (q+1) l).symm;have et:l.take (q+1)=l.take q++[x]:=by rw[rO,h];rfl
 have h1:((l.take (q+1)).filter λj=>decide (x<j))=[]:=List.filter_eq_nil_iff.mpr λa ha=>by
  rw[et]at ha;rcases qW.mp ha with ha | ha
  ·have nd2:(l.take (q+1)).Pairwise (·< ·):=nd.sublist (List.take_sublist ..);rw[et]at nd2;have:=(List.pairwise_append.mp nd2).2.2 a ha x (by simp);simp;omega
  ·have:a=x:=by simpa using ha
   rw[this];simp
 have h2:((l.drop (q+1)).filter λj=>decide (x<j))=l.drop (q+1):=uI.mpr λa ha=>by
  have nd3:=nd;rw[e]at nd3;have:=(List.pairwise_append.mp nd3).2.2 x (by rw[et];simp) a ha;simpa using this
 have:(l.filter λj=>decide (x<j))=((l.take (q+1)++l.drop (q+1)).filter λj=>decide (x<j)):=by rw[yD]
 rw[this,rT,h1,h2,yL]
theorem up_kinds{ns:List Nd}{a b m:Nat}(u:Up ns a b m):Up (qaB ns) a b m:=by
 induction u with
 | here=>exact .here
 | step e he u ih=>exact .step (qbR e) he ih
theorem qfI{ns:List Nd}{i l:Nat}(u:Lev ns i l):Lev (qaB ns) i l:=by
 induction u with
 | top e he=>exact .top (qbR e) he
 | up e he lt u ih=>exact .up (qbR e) he lt ih
theorem kinds_good{ns:List Nd}(h:NotedOk ns)(hb:kids (qaB ns) 0≠[]):GoodX (qaB ns):=by
 refine⟨by rw[qbS];exact h.ge,by rw[qbS];exact h.le,λc hc=>?_,λn c hc=>?_,λn c hc=>?_,?_⟩
 ·obtain⟨i,hi⟩:=List.getElem?_of_mem hc;obtain⟨d,e,rfl⟩:=qel hi;obtain⟨f,k⟩:=h.form d (qK e);have il:i<ns.length:=(qD.mp e).1;have l6:=h.le;refine⟨?_,?_,?_,⟨f.nm,f.mks,?_⟩⟩
  ·show -1<=d.e;rcases h.hung i d e with⟨_,z,_⟩ | ⟨_,j,_,z,_⟩<;>omega
  ·show d.e<=60;rcases h.hung i d e with⟨_,z,_⟩ | ⟨_,j,_,z,_⟩<;>omega
  ·show(if qar ns i d then Kd.case else d.k)∈kindsAll
   split
   ·decide
   ·exact k
  ·show Stuff (if qar ns i d then Kd.case else d.k) d.st;cases w:qar ns i d with
   | false=>exact f.st
   | true =>
     have st:=f.st
     rcases qb3 w with z | z | z<;>rw[z]at st<;>exact st
 ·obtain⟨d,e,rfl⟩:=qel hc;have tr:=h.t.tree n d e;refine⟨?_,?_,?_⟩
  ·rw[<-tr.body];constructor
   ·intro z;exact(qib z (by decide)).2
   ·intro z;show(if qar ns n d then Kd.case else d.k)=.body;cases w:qar ns n d with
    | false=>exact z
    | true=>rcases qb3 w with y | y | y<;>rw[z]at y<;>cases y
  ·rcases tr.up with z | ⟨pos,j,m,he,lt,u⟩
   ·exact .inl z
   ·exact .inr ⟨pos,j,m,he,lt,up_kinds u⟩
  ·obtain⟨u,l6,l⟩:=tr.lev;exact⟨u,l6,qfI l⟩
 ·obtain⟨d,e,rfl⟩:=qel hc;have hkk:kk (qaB ns) n=(kids ns n).map λj=>qb0 (qaB ns) j.toNat:=by rw[<-qgn,qdJ]
  refine⟨λc hc=>?_,λhne=>?_,?_,λhp=>?_⟩
  ·rw[hkk]at hc;obtain⟨x,hx,rfl⟩:=qV.mp hc;obtain⟨j,dj,rfl,ej,he⟩:=qcn hx;rw[rM];unfold qb0;rw[qbR ej];rcases h.hung j dj ej with⟨_,z,_⟩ | ⟨_,i,p,e1,_,ep,m⟩
   ·omega
   ·have:i=n:=by omega
    subst this;rw[e]at ep;cases ep;exact may_case m qb3 qb3
  ·have hne:neverEmpty (mk ns n d).k=true:=hne;have kc:(mk ns n d).k≠.case:=λz=>by rw[z]at hne;cases hne
   obtain⟨w,hk⟩:=qib rfl kc;rw[hk.symm]at hne;intro z;have z0:kids ns n=[]:=by
    rw[hkk]at z;exact List.map_eq_nil_iff.mp z
   have hk2:d.k=.body\/d.k∈[Kd.aside,.shelf,.grid]:=by
    cases ek:d.k<;>rw[ek]at hne<;>first | exact .inl rfl | exact .inr (by decide) | cases hne
   rcases hk2 with hk2 | hk2
   ·rcases h.hung n d e with⟨rfl,_⟩ | ⟨_,_,p,_,_,_,m⟩
    ·rw[qdJ]at hb;exact hb z0
    ·rw[hk2,qeV]at m;cases m
   ·unfold qar at w;rw[Bool.or_eq_false_iff]at w;have w2:=w.2;rw[qB hk2,z0]at w2;cases w2
  ·refine nexts_of' λq hq=>?_
   rw[hkk,qP]at hq⊢;cases ex:(kids ns (n:Int))[q]? with
   | none=>rw[ex]at hq;cases hq
   | some x =>
     rw[ex]at hq
     have hq:qb0 (qaB ns) x.toNat=.aside:=rD hq
     obtain⟨j,dj,rfl,ej,he⟩:=qcn (qK ex)
     rw[rM]at hq
     unfold qb0 at hq
     rw[qbR ej]at hq
     obtain⟨w,hk⟩:=qib hq (by decide)
     unfold qar at w
     rw[Bool.or_eq_false_iff]at w
     have w1:=w.1
     rw[qB hk,xP]at w1
     have nk:qbE ns j dj=.text:=by
       have:=of_decide_eq_false w1
       exact Classical.byContradiction λz=>this z
     unfold qbE at nk
     rw[he,rise_next (qfR ns n) ex]at nk
     cases ed:(kids ns (n:Int)).drop (q+1)with
     | nil=>rw[ed]at nk;cases nk
     | cons y l =>
       rw[ed]at nk
       have ey:(kids ns (n:Int))[q+1]?=some y:=by
         have:=xO (λl=>l[0]?) ed
         rw[List.getElem?_drop]at this
         exact this
       rw[ey]
       obtain⟨j2,d2,rfl,ej2,_⟩:=qcn (qK ey)
       have nk:qb0 ns ((j2:Int)).toNat=.text:=nk
       show some (qb0 (qaB ns) ((j2:Int)).toNat)=some Kd.text
       rw[rM]at nk⊢
       unfold qb0 at nk⊢
       rw[ej2]at nk
       rw[qbR ej2]
       have nk:d2.k=.text:=nk
       show some (if qar ns j2 d2 then Kd.case else d2.k)=some .text
       cases w2:qar ns j2 d2 with
       | false=>rw[if_neg (by decide),nk]
       | true=>rcases qb3 w2 with y | y | y<;>rw[nk]at y<;>cases y
  ·have hp:ofPieces (mk ns n d).k=true:=hp;have kc:(mk ns n d).k≠.case:=λz=>by rw[z]at hp;cases hp
   obtain⟨w,hk⟩:=qib rfl kc;rw[hk.symm]at hp;show qaj d.st=_;rw[h.nums n d e hp,hkk,qA]
 ·refine qem (ds:=ns) ?_ h.t.names;have:(qaB ns).map (·.nm)=ns.map (·.nm):=by
   apply yK;intro i;rw[qP,qP]
   by_cases hi:i<ns.length
   ·rw[qdB hi];cases ns[i]?<;>rfl
   ·rw[rS (by rw[qbS];omega),rS (by omega)]
  rw[this];exact .refl _
theorem bare_good{d:Nd}(e:d.e=-1)(k:d.k=.body)(f:Form d)(nm:qd1 [d]):GoodX [d,bareText]:=by
 have fb:Form bareText:=⟨.inl rfl,⟨by decide,(λm hm=>nomatch hm),List.Pairwise.nil⟩,bare_ok⟩;have r:RdT ([d]++[bareText]):=qg0 (qeC e k f) (qe9 e k) (by simp) (c:=bareText) (t:=1) (by decide) (by decide) (by rw[up1 d e];decide) (j:=0) (by rw[up1 d e];rfl) (by decide) rfl (.inl rfl);refine⟨by show 1<=2;decide,by show 2<=60;decide,λc hc=>?_,λn c h=>r.tree n c h,λn c h=>?_,r.names⟩
 ·have:c=d\/c=bareText:=by simpa using hc
  rcases this with rfl | rfl
  ·exact⟨by omega,by omega,by rw[k];decide,f⟩
  ·exact⟨by decide,by decide,by decide,fb⟩
 ·match n,h with
  | 0, h =>
    cases h
    have:kk [d,bareText] 0=[Kd.text]:=by
      rw[qdL,if_neg (by omega),qdL,if_pos (show bareText.e=0 from rfl)]
      rfl
    have:kk [d,bareText] ((0:Nat):Int)=[Kd.text]:=this
    rw[this,k]
    refine⟨λc hc=>?_,λ_=>by simp,trivial,λz=>by cases z⟩
    have:c=.text:=by simpa using hc
    rw[this];rfl
  | 1, h =>
    cases h
    have:kk [d,bareText] ((1:Nat):Int)=[]:=by
      rw[qdL,if_neg (by rw[e];decide),qdL,if_neg (by decide)]
      rfl
    rw[this]
    exact⟨(λc hc=>nomatch hc),(λz=>by cases z),trivial,λ_=>rfl⟩
  | n+2,h=>cases h
theorem book_good{ds:List Nd}(ok:NodesOk ds)(r:RdT ds)(nn:NoNN ds):GoodX (qcd ds):=by
 obtain⟨okb,neb⟩:=qfa ok;have N:=noted_ok okb (begun_rdt r) (begun_nn nn) neb;unfold qcd;generalize qao (begun ds)=ns at N⊢
 by_cases hb:kids (qaB ns) 0=[]
 ·rw[if_pos hb];have l1:ns.length=1:=by
   have:=N.ge
   by_cases z:ns.length=1
   ·exact z
   ·have e:ns[1]?=some ns[1]:=qE (by omega);rcases N.hung 1 ns[1] e with⟨z,_⟩ | ⟨_,j,p,he,lt,_⟩
    ·cases z
    ·have:j=0:=by omega
     subst this;rw[qdJ]at hb;have:(1:Int)∈kids ns 0:=by
      unfold kids qaI;refine qV.mpr ⟨1,xL.mpr ⟨u3.mpr (by omega),?_⟩,rfl⟩;rw[e];exact qB (xO some he)
     rw[hb]at this;cases this
  obtain⟨d,rfl⟩:=List.length_eq_one_iff.mp l1;rcases N.hung 0 d rfl with⟨_,he,hk⟩ | ⟨z,_⟩
  ·have em:qaB [d]=[d]:=by
    have:(qaB [d])[0]?=some (mk [d] 0 d):=qbR rfl;have w:qar [d] 0 d=false:=by
     cases w:qar [d] 0 d with
     | false=>rfl
     | true=>rcases qb3 w with y | y | y<;>rw[hk]at y<;>cases y
    have e2:mk [d] 0 d=d:=by unfold mk;rw[w];rfl
    apply yK;intro i;cases i with
    | zero=>rw[this,e2];rfl
    | succ i=>rw[rS (by rw[qbS];simp),rS (by simp)]
   rw[em];exact bare_good he hk (N.form d (by simp)).1 N.t.names
  ·exact absurd z (by decide)
 ·rw[if_neg hb];exact kinds_good N hb
theorem good_read{rows:List Str}(h:∀x∈rows,RowOk x):GoodX (qcM rows).1:=book_good (qfT h rows.length) (qhK h rows.length) (qiK rows rows.length)
theorem sp_list:(T " ").cps.toList=[32]:=by ac_rfl
theorem cut_ne(c:Nat):∀l:List Nat,qbf c l≠[]
 | []=>by rw[qbf];simp
 | d :: r => by
   rw[qbf]
   split
   · simp
   · cases e:qbf c r with
     | nil=>exact absurd e (cut_ne c r)
     | cons p q=>simp[pref]
theorem join_pref(d:Nat)(p:List Nat)(q:List (List Nat)):(Str.join (T " ") ((pref [d] (p::q)).map mkS)).cps.toList=d::(Str.join (T " ") ((p::q).map mkS)).cps.toList:=by
 cases q with
 | nil=>simp only[pref,List.map_cons,List.map_nil,qdt];simp[mkS]
 | cons y r=>simp only[pref,List.map_cons,qcy,qaC];simp[mkS]
theorem join_cut:∀l:List Nat,(Str.join (T " ") ((qbf 32 l).map mkS)).cps.toList=l
 | []=>by rw[qbf];rfl
 | d :: r => by
   have ih:=join_cut r
   rw[qbf]
   cases e:qbf 32 r with
   | nil=>exact absurd e (cut_ne 32 r)
   | cons p q =>
     rw[e]at ih
     by_cases h:d=32
     · rw[if_pos h,rH,rH,qcy,<-rH,qaC,qaC,ih,sp_list,h]
       rfl
     · rw[if_neg h,join_pref,ih]
theorem take_gts:∀l:List Nat,List.replicate (l.takeWhile (·== 62)).length 62++l.dropWhile (·== 62)=l
 | []=>rfl
 | a :: l => by
   by_cases h:(a == 62)=true
   · rw[List.takeWhile_cons_of_pos (p:=(·== 62)) h,List.dropWhile_cons_of_pos (p:=(·== 62)) h,qT,rZ,xN,take_gts l]
     have:a=62:=by simpa using h
     rw[this]
   · rw[List.takeWhile_cons_of_neg (p:=(·== 62)) h,yJ (p:=(·== 62)) h]
     rfl
theorem row_join(x:Str):x=gtS (qbW x)++Str.join (T " ") (qaJ x):=by
 refine qdx ?_;rw[qaC,qgh];unfold qaJ qbW;rw[join_cut,take_gts]
theorem qio{c:Nat}{x y:Str}(h:labB c x=true)(hy:y.cps.toList=[c]):x=y++tl1 x:=by
 unfold labB at h;rw[rG]at h;have h1:=rL h.1;refine qdx ?_;rw[qaC,hy];unfold tl1;cases e:x.cps.toList with
 | nil=>rw[e]at h1;cases h1
 | cons a r =>
   rw[e]at h1
   have:a=c:=by simpa using h1
   subst this
   simp
theorem lab_two{x:Str}(h:labB 35 x=true):labB 46 x=false:=by
 unfold labB at h⊢;rw[rG]at h;have h1:=rL h.1;rw[h1];rfl
theorem marks_back:∀{l:List Str},(l.map (labB 46)).all id=true->l.filter (labB 46)=l/\l=(l.map tl1).map (T "." ++ ·)
 | [],_=>⟨rfl,rfl⟩
 | x :: l, h => by
   rw[rH,wU,rG]at h
   have hx:labB 46 x=true:=h.1
   obtain⟨a,b⟩:=marks_back h.2
   refine⟨by rw[yY,if_pos hx,a],?_⟩
   rw[rH,rH,<-b,<-qio hx dot_l]
theorem noName_len:noName.length=0:=by ac_rfl
theorem labs_back{ls:List Str}(h:qbA ls=true)(d:Nd)(hn:d.nm=qbF ls)(hm:d.mks=qbd ls):ls=w1 d++w2 d:=by
 unfold qbA at h;unfold w1 w2;rw[hn,hm];unfold qbF qbd;cases ls with
 | nil=>rfl
 | cons x l =>
   cases e:labB 35 x with
   | true =>
     have ef:qbw (x::l)=true:=e
     rw[ef]at h⊢
     have h:(l.map (labB 46)).all id=true:=h
     obtain⟨a,b⟩:=marks_back h
     have ne:¬tl1 x=noName:=λz=>by
       have:=(qff e).1
       rw[z,noName_len]at this
       omega
     rw[if_pos rfl,if_neg (by show¬tl1 x=noName;exact ne),yY,if_neg (by rw[lab_two e];decide),a,<-b]
     show x::l=(T "#" ++ tl1 x)::l
     rw[<-qio e hash_l]
   | false =>
     have ef:qbw (x::l)=false:=e
     rw[ef]at h⊢
     have h:((x::l).map (labB 46)).all id=true:=h
     obtain⟨a,b⟩:=marks_back h
     rw[if_neg qL,if_pos rfl,a,<-b]
     rfl
theorem stars_back:∀l:List Nat,List.replicate (l.length-(l.dropWhile (·== 42)).length) 42++l.dropWhile (·== 42)=l
 | []=>rfl
 | a :: l => by
   by_cases h:(a == 42)=true
   · rw[List.dropWhile_cons_of_pos (p:=(·== 42)) h,qT]
     have hl:(l.dropWhile (·== 42)).length<=l.length:=(yB _).length_le
     have ea:a=42:=by simpa using h
     rw[show l.length+1-(l.dropWhile (·== 42)).length=(l.length-(l.dropWhile (·== 42)).length)+1 by omega,rZ,xN,stars_back l,ea]
   · rw[yJ (p:=(·== 42)) h,Nat.sub_self]
     rfl
theorem qeL(x:Str):(qce ((x.length:Int)-(thing x).length)).cps.toList++thing x=x.cps.toList:=by
 have hl:(thing x).length<=x.length:=by
  have:x.length=x.cps.toList.length:=(xC).symm;rw[this];exact(yB _).length_le
 rw[qcz,show(((x.length:Int)-(thing x).length)).toNat=x.cps.toList.length-(thing x).length by
  have:x.length=x.cps.toList.length:=(xC).symm;omega]
 exact stars_back _
theorem bracesG{l:List Nat}(h:l.head?=some 123)(g:l.getLast?=some 125):l=123::(qeH l++[125]):=by
 unfold qeH;cases l with
 | nil=>cases h
 | cons a r =>
   have:a=123:=by simpa using h
   subst this
   cases r with
   | nil=>cases g
   | cons b r =>
     rw[List.getLast?_cons_cons]at g
     show 123::b::r=123::((b::r).dropLast++[125])
     have ne:b::r≠[]:=by simp
     rw[List.getLast?_eq_some_getLast ne]at g
     rw[<-rD g,List.dropLast_concat_getLast]
theorem piece_back{x:Str}{t:Th}(h:qaA x=some t):x=thS t:=by
 unfold qaA at h
 by_cases e:x=T "{}"
 ·rw[if_pos e]at h;cases h;exact e
 ·rw[if_neg e]at h
  split at h
  ·cases h;unfold qbL
   split
   ·rename_i hb;refine qdx ?_;show _=(qce ((x.length:Int)-(thing x).length)++T "{" ++ mkS (qeH (thing x))++T "}").cps.toList;rw[qaC,qaC,qaC,brace_n,brace_m,yA,yA];show _=_++(123::(qeH (thing x)++[125]));rw[<-bracesG hb.1 hb.2,qeL]
   ·refine qdx ?_;show _=(qce ((x.length:Int)-(thing x).length)++mkS (thing x)).cps.toList;rw[qaC];exact(qeL x).symm
  ·cases h
theorem pieces_back:∀{ws:List Str},(ws.map qaA).any Option.isNone=false->(ws.filterMap qaA).map thS=ws
 | [],_=>rfl
 | x :: ws, h => by
   rw[rH,xQ,Bool.or_eq_false_iff]at h
   cases e:qaA x with
   | none=>rw[e]at h;exact absurd h.1 (by decide)
   | some t =>
     rw[xK,e]
     show thS t::_=_
     rw[pieces_back h.2,<-piece_back e]
structure FigL(l:List Nat):Prop where
 ge:1<=l.length
 le:l.length<=4
 hd:l.head?≠some 48
 all:∀c∈l,48<=c/\c<=57
theorem qeR{l:List Nat}(h:FigL l):(∃a,l=[a])\/(∃a b,l=[a,b])\/(∃a b c,l=[a,b,c])\/∃a b c d,l=[a,b,c,d]:=by
 have h1:=h.ge;have h2:=h.le
 match l,h1,h2 with
 | [a],_,_=>exact .inl ⟨a,rfl⟩
 | [a,b],_,_=>exact .inr (.inl ⟨a,b,rfl⟩)
 | [a,b,c],_,_=>exact .inr (.inr (.inl ⟨a,b,c,rfl⟩))
 | [a,b,c,d],_,_=>exact .inr (.inr (.inr ⟨a,b,c,d,rfl⟩))
 | a::b::c::d::e::r,_,h2=>simp at h2
theorem num1(a:Nat):numI [a]=a-48:=by simp[numI]
theorem num2(a b:Nat):numI [a,b]=(a-48)*10+(b-48):=by simp[numI]
theorem num3(a b c:Nat):numI [a,b,c]=((a-48)*10+(b-48))*10+(c-48):=by simp[numI]
theorem num4(a b c d:Nat):numI [a,b,c,d]=(((a-48)*10+(b-48))*10+(c-48))*10+(d-48):=by simp[numI]
theorem qf8{a:Nat}{r:List Nat}(h:FigL (a::r)):49<=a/\a<=57:=by
 have h1:=h.all a qJ;have h2:a≠48:=λz=>h.hd (by rw[z];rfl)
 omega
theorem numI_inj{l m:List Nat}(hl:FigL l)(hm:FigL m)(h:numI l=numI m):l=m:=by
 have al:=hl.all;have am:=hm.all;rcases qeR hl with⟨a,rfl⟩ | ⟨a,b,rfl⟩ | ⟨a,b,c,rfl⟩ | ⟨a,b,c,d,rfl⟩<;>rcases qeR hm with⟨a',rfl⟩ | ⟨a',b',rfl⟩ | ⟨a',b',c',rfl⟩ | ⟨a',b',c',d',rfl⟩ <;>
  (have f1:=qf8 hl;have f2:=qf8 hm;simp only[num1,num2,num3,num4]at h;simp only[List.mem_cons,List.not_mem_nil,or_false,forall_eq_or_imp,forall_eq]at al am;first | (exfalso;omega) | (simp only[List.cons.injEq,and_true];omega))
theorem fig_mem{c:Nat}(h:c∈figS.cps.toList):48<=c/\c<=57:=by
 have:c∈[48,49,50,51,52,53,54,55,56,57]:=h;simp at this;omega
theorem qfZ{x:Str}(h:qcb x=true):FigL x.cps.toList:=by
 unfold qcb at h;rw[rG,rG]at h;obtain⟨⟨h1,h2⟩,h3⟩:=h;have h1:=rL h1;have el:x.length=x.cps.toList.length:=(xC).symm;rw[el]at h1;refine⟨h1.1,h1.2,?_,λc hc=>?_⟩
 ·intro z;rw[z]at h2;cases h2
 ·rw[List.all_map,xB]at h3;have:=h3 c hc;exact fig_mem (rL this)
theorem qfB{x:Str}(h1:1<=qaK x)(h2:qaK x<=2000):x=T (toString (qaK x)):=by
 have sx:qcb x=true:=by
  cases e:qcb x with
  | true=>rfl
  | false=>unfold qaK at h1;rw[e,if_neg qL]at h1;exact absurd h1 (by decide)
 have hn:=(qei h1 h2).1;have ex:qaK x=(numI x.cps.toList:Int):=by unfold qaK;rw[sx];rfl
 generalize eN:qaK x=n at *;have sy:qcb (T (toString n))=true:=by
  cases e:qcb (T (toString n))with
  | true=>rfl
  | false =>
    unfold qaK at hn
    rw[e]at hn
    have hn:(0:Int)=n:=hn
    omega
 have ey:qaK (T (toString n))=(numI (T (toString n)).cps.toList:Int):=by unfold qaK;rw[sy];rfl
 exact qdx (numI_inj (qfZ sx) (qfZ sy) (by omega))
theorem stuff_back{k:Kd}{ws:List Str}{st:List Th}(h:qaT k ws=some st):st.map thS=ws/\(qaE k=true↔ws≠[]):=by
 unfold qaT at h
 split at h
 ·rename_i hk
  split at h
  ·rename_i hs;cases h;obtain⟨a,b,e,a1,a2,b1,b2⟩:=hs
   match ws,e with
   | [x, y], e =>
     injection e with e1 e2
     injection e2 with e2 _
     injection e1 with e1
     injection e2 with e2
     refine⟨?_,by rw[hk];exact⟨λ_=>by simp,λ_=>rfl⟩⟩
     show[T (toString (qaK x)),T (toString (qaK y))]=[x,y]
     rw[<-qfB (by omega) (by omega),<-qfB (by omega) (by omega)]
  ·cases h
 ·split at h
  ·cases h
  ·rename_i hn;cases h;have hn:((ws.map qaA).any Option.isNone || (qaE k != decide (0<ws.length)))=false:=by
    cases e:((ws.map qaA).any Option.isNone || (qaE k != decide (0<ws.length)))with
    | false=>rfl
    | true=>exact absurd e hn
   rw[Bool.or_eq_false_iff]at hn;refine⟨pieces_back hn.1,?_⟩;have e2:qaE k=decide (0<ws.length):=by
    have:=hn.2;cases e1:qaE k<;>cases e2:decide (0<ws.length)<;>rw[e1,e2]at this<;>first | rfl | cases this
   rw[e2,qY];exact List.length_pos_iff
theorem words_split{ws:List Str}{k:Kd}(hk:k∈kindsAll)(h0:ws.headD noName=k.s)(ne:ws≠[]):(qbi ws<ws.length->ws=(k.s::qbe ws)++T "|" :: qbK ws)/\(¬qbi ws<ws.length->ws=k.s::qbe ws/\qbK ws=[]):=by
 cases ws with
 | nil=>exact absurd rfl ne
 | cons a tl =>
   have ha:a=k.s:=h0
   subst ha
   have nb:¬(k.s == T "|")=true:=λz=>(qiN k).2 (by simpa using z)
   have b1:qbi (k.s::tl)=qbi tl+1:=by
     unfold qbi
     rw[List.findIdx_cons]
     cases e:(k.s == T "|")with
     | true=>exact absurd e nb
     | false=>rfl
   constructor
   · intro lt
     have lt2:qbi tl<tl.length:=by rw[b1,qT]at lt;omega
     have g:tl[qbi tl]=T "|":=by
       have:=List.findIdx_getElem (xs:=tl) (p:=(·== T "|")) (w:=lt2)
       have:(tl[qbi tl] == T "|")=true:=this
       exact eq_of_beq this
     unfold qbe qbK
     rw[b1]
     show k.s::tl=(k.s::tl.take (qbi tl+1-1))++T "|" :: tl.drop (qbi tl+1)
     rw[Nat.add_sub_cancel,xN]
     congr 1
     have:tl.drop (qbi tl)=T "|" :: tl.drop (qbi tl+1):=by rw[y7 lt2,g]
     rw[<-this,yD]
   · intro nl
     unfold qbe qbK
     rw[b1]at nl⊢
     rw[qT]at nl
     have le:qbi tl<=tl.length:=List.findIdx_le_length
     refine⟨?_,?_⟩
     · show k.s::tl=k.s::tl.take (qbi tl+1-1)
       rw[rQ (by omega)]
     · show tl.drop (qbi tl+1)=[]
       exact xA (by omega)
theorem qfn{x:Str}{d:Nd}(h:qa8 x=some d):x=gtS (qbW x)++qcv d/\d.e=(qbW x:Int):=by
 unfold qa8 at h;cases ek:kindOf ((qaJ x).headD noName)with
 | none=>rw[ek]at h;cases h
 | some k =>
   rw[ek]at h
   dsimp only at h
   obtain⟨k1,hk⟩:=qdd ek
   split at h
   · cases h
   rename_i hg
   have hg:(!qbA (qbe (qaJ x)) || (!qaE k && decide (qbi (qaJ x)<(qaJ x).length)))=false:=by
     cases e:(!qbA (qbe (qaJ x)) || (!qaE k && decide (qbi (qaJ x)<(qaJ x).length)))with
     | false=>rfl
     | true=>exact absurd e hg
   rw[Bool.or_eq_false_iff]at hg
   have al:qbA (qbe (qaJ x))=true:=by
     cases e:qbA (qbe (qaJ x))with
     | true=>rfl
     | false=>rw[e]at hg;exact absurd hg.1 (by decide)
   cases es:qaT k (qbK (qaJ x))with
   | none=>rw[es]at h;cases h
   | some st =>
     rw[es]at h
     have h:=rD h
     have ne:qaJ x≠[]:=by unfold qaJ;exact λz=>cut_ne _ _ (List.map_eq_nil_iff.mp z)
     obtain⟨s1,s2⟩:=stuff_back es
     obtain⟨p1,p2⟩:=words_split hk k1.symm ne
     have lb:=labs_back al d (by rw[<-h]) (by rw[<-h])
     have dk:d.k=k:=by rw[<-h]
     have ds:d.st=st:=by rw[<-h]
     refine⟨?_,by rw[<-h]⟩
     have ew:qaJ x=((d.k.s::w1 d)++w2 d)++w3 d:=by
       have e1:(d.k.s::w1 d)++w2 d=k.s::qbe (qaJ x):=by rw[lb,dk];rfl
       rw[e1]
       unfold w3
       rw[ds]
       by_cases lt:qbi (qaJ x)<(qaJ x).length
       · have hs:qaE k=true:=by
           cases e:qaE k with
           | true=>rfl
           | false=>rw[e,qB lt]at hg;exact absurd hg.2 (by decide)
         have nr:=s2.mp hs
         have pos:st.length>0:=by
           rw[<-s1]at nr
           cases st with
           | nil=>exact absurd rfl nr
           | cons a r=>simp
         rw[if_pos pos,s1]
         exact p1 lt
       · obtain⟨q1,q2⟩:=p2 lt
         have:st=[]:=List.map_eq_nil_iff.mp (s1.trans q2)
         rw[this,if_neg (by simp),rC]
         exact q1
     have:=row_join x
     rw[ew]at this
     exact this
theorem qdS{p:Prop}{x:Str}(h:wd p x=[]):¬p:=λhp=>by rw[qdF hp]at h;cases h
theorem qfD{ds:List Nd}{d:Nd}(h:qaO ds d=[])(e:Int):qa9 ds e d=⟨e,d.k,d.nm,d.mks,d.st⟩:=by
 unfold qaO at h;obtain⟨h123,h4⟩:=List.append_eq_nil_iff.mp h;obtain⟨h12,h3⟩:=List.append_eq_nil_iff.mp h123;obtain⟨h1,h2⟩:=List.append_eq_nil_iff.mp h12;have h1:=Classical.byContradiction λz=>qdS h1 z
 have h2:=Classical.byContradiction λz=>qdS h2 z
 have h3:=qdS h3;have h4:=qdS h4;have es:qdh d.k d.st=d.st:=by
  unfold qdh;cases ep:ofPieces d.k with
  | false=>rfl
  | true =>
    have e3:qaq d.k d.st=d.st:=Classical.byContradiction λz=>h3 ⟨ep,z⟩
    have e4:¬qaq d.k d.st=[]:=λz=>h4 ⟨ep,z⟩
    rw[if_pos rfl,if_neg e4,e3]
 unfold qa9;rw[h1,h2,es]
theorem lev_push{ds:List Nd}(ok:NodesOk ds)(ne:ds≠[]){c:Nd}{t:Nat}(h1:1<=t)(ht:t<=(upL ds).length){j:Nat}(hj:(upL ds)[(upL ds).length-t]?=some j)(ce:c.e=(j:Int)):Lev (ds++[c]) ds.length t:=by
 obtain⟨dn,hd⟩:=ok.down ne;have dj:=dn.drop (show(upL ds).length-t<(upL ds).length by omega);rw[qca hj]at dj;obtain⟨dd,ed⟩:=dn.mem j (qK hj);have jl:j<ds.length:=(qD.mp ed).1;have lj:=(Down.lev dj).1;rw[rW,show(upL ds).length-((upL ds).length-t+1)=t-1 by omega]at lj;have:=Lev.up (ds:=ds++[c]) (i:=ds.length) (d:=c) (by rw[rY (qG _)];simp) ce jl (qe5 [c] lj);rw[show t-1+1=t by omega]at this;exact this
def qhG(ds:List Nd)(n:Nat)(x:Str):Prop:=∃d c,qa8 x=some d/\ds[n]?=some c/\c.k=d.k/\c.nm=d.nm/\c.mks=d.mks/\c.st=d.st/\Lev ds n (qbW x)
theorem tells_app{ds:List Nd}(more:List Nd){n:Nat}{x:Str}(h:qhG ds n x):qhG (ds++more) n x:=by
 obtain⟨d,c,h1,h2,h3,h4,h5,h6,h7⟩:=h;exact⟨d,c,h1,qfe h2,h3,h4,h5,h6,qe5 more h7⟩
theorem later_tells{ds:List Nd}(ok:NodesOk ds)(ne:ds≠[]){x:Str}{d:Nd}(hp:qa8 x=some d)(h:(qas ds d).2=[]):(qas ds d).1.length=1/\qhG (ds++(qas ds d).1) ds.length x:=by
 have er:=(qfn hp).2;unfold qas at h⊢
 split at h
 ·cases h
 rename_i h0;rw[if_neg h0];obtain⟨a1,a2,a3,a4,a5⟩:=qdA h0;obtain⟨w1,w2⟩:=List.append_eq_nil_iff.mp h;have e1:((qa5 ds d.k d.e.toNat:Nat):Int)=d.e:=Classical.byContradiction λz=>qdS w1 z
 have e2:qa5 ds d.k d.e.toNat=qbW x:=by omega
 have lp:=lev_push ok ne (c:=qa9 ds (qbU ds (qa5 ds d.k d.e.toNat)) d) a1 a3 a4 rfl;rw[qfD w2]at lp⊢;refine⟨rfl,d,⟨(qbU ds (qa5 ds d.k d.e.toNat):Nat),d.k,d.nm,d.mks,d.st⟩,hp,by rw[rY (qG _),Nat.sub_self];rfl,rfl,rfl,rfl,rfl,?_⟩;rw[<-e2];exact lp
theorem read_tells{ds:List Nd}(ok:NodesOk ds){x:Str}(h:(qaV ds x).2=[]):(qaV ds x).1.length=1/\qhG (ds++(qaV ds x).1) ds.length x:=by
 unfold qaV at h⊢;cases e:qa8 x with
 | none=>rw[e]at h;cases h
 | some d =>
   rw[e]at h
   dsimp only at h⊢
   have er:=(qfn e).2
   split at h
   · cases h
   rename_i h60
   rw[if_neg h60]
   split at h
   · rename_i h0
     rw[if_pos h0]
     subst h0
     unfold qa3 at h⊢
     split at h
     · rename_i hk
       rw[if_pos hk]
       obtain⟨w1,w2⟩:=List.append_eq_nil_iff.mp h
       have e1:((0:Nat):Int)=d.e:=Classical.byContradiction λz=>qdS w1 z
       rw[qfD w2]
       refine⟨rfl,d,_,e,rfl,rfl,rfl,rfl,rfl,?_⟩
       rw[show qbW x=0 by omega]
       exact .top rfl rfl
     · cases h
   · rename_i h0
     rw[if_neg h0]
     split at h
     · cases h
     · rename_i hk
       rw[if_neg hk]
       exact later_tells ok h0 e h
theorem qgM{rows:List Str}(hr:∀x∈rows,RowOk x):∀{i:Nat},i<=rows.length->(rdTo rows i).2=[]->(rdTo rows i).1.length=i/\∀n x,n<i->rows[n]?=some x->qhG (rdTo rows i).1 n x
 | 0,_,_=>⟨rfl,λn x h=>absurd h (xM _)⟩
 | i + 1, hi, h => by
   have e:rows[i]?=some rows[i]:=qE (by omega)
   rw[rdTo,e]at h⊢
   dsimp only at h⊢
   obtain⟨h1,h2⟩:=List.append_eq_nil_iff.mp h
   have h2:=List.map_eq_nil_iff.mp h2
   obtain⟨l,t⟩:=qgM hr (i:=i) (by omega) h1
   obtain⟨r1,r2⟩:=read_tells (qfT hr i) h2
   refine⟨by rw[qH,l,r1],λn x hn ex=>?_⟩
   by_cases z:n=i
   · subst z
     rw[e]at ex
     cases ex
     rw[l]at r2
     exact r2
   · exact tells_app _ (t n x (by omega) ex)
theorem qd9{α β:Type}{ds:List α}{f:Nat->α->List β}:∀{N:Nat},atTo ds f N=[]->∀n d,n<N->ds[n]?=some d->f n d=[]
 | 0,_,n,d,h,_=>absurd h (xM _)
 | N + 1, h, n, d, hn, e => by
   rw[atTo]at h
   by_cases z:n=N
   · subst z
     rw[e]at h
     exact(List.append_eq_nil_iff.mp h).2
   · cases eN:ds[N]? with
     | none=>rw[eN]at h;exact qd9 h n d (by omega) e
     | some dN=>rw[eN]at h;exact qd9 (List.append_eq_nil_iff.mp h).1 n d (by omega) e
theorem note_cnt:∀{st:List Th},(∀x∈st,PcOk x)->(qaj st).length=(st.filter isNote).length
 | [],_=>rfl
 | x :: st, h => by
   have ih:=note_cnt λy hy=>h y (qN _ hy)
   unfold qaj at ih⊢
   rw[xK,yY]
   cases e:isNote x with
   | false =>
     rw[qiM e,if_neg (by decide)]
     exact ih
   | true =>
     have pk:=h x qJ
     have:∃k,noteNum x=some k:=by
       cases x with
       | int n=>cases e
       | tri s y t =>
         cases s<;>first | cases e;done | skip
         cases y with
         | inl z=>exact pk.elim
         | inr z=>exact⟨z,rfl⟩
     obtain⟨k,ek⟩:=this
     rw[ek,if_pos rfl]
     simp[ih]
theorem qdO(m:Nat):∀(l:List Th) (c:Nat),c+(l.filter isNote).length<=m->(qbh m c l).map thS=l.map thS/\cntN m c l=c+(l.filter isNote).length
 | [],c,_=>⟨rfl,rfl⟩
 | x :: r, c, h => by
   rw[qbh,cntN]
   rw[yY]at h⊢
   cases e:isNote x with
   | false =>
     rw[e]at h
     obtain⟨a,b⟩:=qdO m r c h
     rw[if_neg (by decide),if_neg (by simp),if_neg (by decide)]
     exact⟨by rw[rH,rH,a],b⟩
   | true =>
     rw[e]at h
     have h:c+((r.filter isNote).length+1)<=m:=h
     obtain⟨a,b⟩:=qdO m r (c+1) (by omega)
     rw[if_pos rfl,if_pos (by omega:c<m),if_pos ⟨rfl,by omega⟩,if_pos rfl]
     refine⟨?_,by rw[b,qT];omega⟩
     rw[rH,rH,a]
     congr 1
     cases x with
     | int n=>cases e
     | tri s y t=>cases s<;>first | rfl | cases e
theorem numP_same{m:Nat}{st:List Th}(h:(st.filter isNote).length=m):(qaF m st).map thS=st.map thS/\(qaj (qaF m st)).length=m:=by
 obtain⟨a,b⟩:=qdO m st 0 (by omega);have e:qaF m st=qbh m 0 st:=by
  unfold qaF;rw[b,show min (m-(0+(st.filter isNote).length)) (60-(qbh m 0 st).length)=0 by omega];exact rC _
 rw[e];refine⟨a,?_⟩;rw[qct,b,h];unfold rg;simp
theorem nodeS_same{c d:Nd}(k:c.k=d.k)(nm:c.nm=d.nm)(mks:c.mks=d.mks)(st:c.st.map thS=d.st.map thS):qcv c=qcv d:=by
 have l:c.st.length=d.st.length:=by
  have:=xO List.length st;rw[qA,qA]at this;exact this
 have e1:w1 c=w1 d:=by unfold w1;rw[nm]
 have e2:w2 c=w2 d:=by unfold w2;rw[mks]
 have e3:w3 c=w3 d:=by unfold w3;rw[l,st]
 unfold qcv;rw[k,e1,e2,e3]
theorem held_same{ds:List Nd}(ok:NodesOk ds){n:Nat}{d:Nd}(e:ds[n]?=some d)(m:mayHold d.k .note=true)(h:qbI ds n d=false):(d.st.filter isNote).length=(kids ds n).length:=by
 have f:=(ok.form d (qK e)).1;have pc:∀x∈d.st,PcOk x:=by
  have st:=f.st;rcases qg4 m with k | k<;>rw[k]at st<;>exact st.1
 rw[<-note_cnt pc];unfold qbI at h;rw[m,xP]at h;exact Classical.byContradiction λz=>of_decide_eq_false h z
theorem qeJ{ds:List Nd}(ok:NodesOk ds){n:Nat}{d:Nd}(e:ds[n]?=some d)(h:qbI ds n d=false):(noted ds n d).st.map thS=d.st.map thS/\qbu ds n d=[]:=by
 unfold noted qbu
 by_cases m:mayHold d.k .note=true
 ·rw[if_pos m,if_pos m];obtain⟨a,b⟩:=numP_same (held_same ok e m h);refine⟨a,?_⟩;rw[b];exact xA (qG _)
 ·rw[if_neg m,if_neg m];exact⟨rfl,rfl⟩
theorem qhg{b:Bool}{x:Str}(h:(if b then[x]else[])=[]):b=false:=by
 cases b with
 | false=>rfl
 | true=>cases h
theorem read_back{rows:List Str}(hr:∀x∈rows,RowOk x)(h:(qcM rows).2=[]){L:Nat->Nat}(lv:Levs (qcM rows).1 L):rows=qbJ L (qcM rows).1 (qcM rows).1.length:=by
 have er:qcM rows=(qcd (rdTo rows rows.length).1,(rdTo rows rows.length).2++(qbm (rdTo rows rows.length).1).map λy=>((-1:Int),y)):=rfl;rw[er]at h lv⊢;dsimp only at h lv⊢;obtain⟨h1,h2⟩:=List.append_eq_nil_iff.mp h;have h2:=List.map_eq_nil_iff.mp h2;have ok:=qfT hr rows.length;obtain⟨len,tells⟩:=qgM hr (qG _) h1;generalize (rdTo rows rows.length).1=ds at *;unfold qbm at h2;obtain⟨h3,e4⟩:=List.append_eq_nil_iff.mp h2;obtain⟨h4,e3⟩:=List.append_eq_nil_iff.mp h3;obtain⟨e1,e2⟩:=List.append_eq_nil_iff.mp h4;have ne:¬ds=[]:=qdS e1;have eb:begun ds=ds:=by unfold begun;rw[if_neg ne]
 rw[eb]at e2 e3 e4;have k0:¬kids (qaB (qao ds)) 0=[]:=qdS e4;have lk:∀(n:Nat) (d:Nd),ds[n]?=some d->qbI ds n d=false:=λn d e=>qhg (qd9 e2 n d (qD.mp e).1 e)
 have sp:qav ds=[]:=by
  unfold qav;exact qc7 (λn d e=>(qeJ ok e (lk n d e)).2) _
 have eB:qcd ds=qaB (qao ds):=by unfold qcd;rw[eb,if_neg k0]
 have lb:(qcd ds).length=rows.length:=by
  rw[eB,qbS,qc1,sp,cnt_nil,len]
 have at_n:∀(n:Nat) (d:Nd),ds[n]?=some d->∃c:Nd,(qcd ds)[n]?=some c/\c.k=d.k/\c.nm=d.nm/\c.mks=d.mks/\c.st.map thS=d.st.map thS:=λn d e=>by
  have g:=qcD e (by rw[sp];simp);rw[sp,cnt_nil]at g;have w:=qhg (qd9 e3 n _ (qD.mp g).1 g);have gk:=qbR g;rw[<-eB]at gk;obtain⟨n1,n2,n3,n4⟩:=qbM ds n d;refine⟨_,gk,?_,n3,n4,(qeJ ok e (lk n d e)).1⟩;show(if qar _ _ _ then Kd.case else(noted ds n d).k)=d.k;rw[w,if_neg qL,n2]
 have lev_n:∀{n l:Nat},Lev ds n l->Lev (qcd ds) n l:=λ{n l} u=>by
  have:=qfI (qgN ok u (by rw[sp];simp));rw[sp,cnt_nil,<-eB]at this;exact this
 rw[lb];apply yK;intro n
 by_cases hn:n<rows.length
 ·have ex:rows[n]?=some rows[n]:=qE hn;obtain⟨d,c,hp,ec,ck,cn,cm,cs,cl⟩:=tells n rows[n] hn ex;obtain⟨b,eb',bk,bn,bm,bs⟩:=at_n n c ec;have hl:=(lv n (by rw[lb];exact hn)).1;have l1:L n=qbW rows[n]:=qe8 hl (lev_n cl);rw[qhy hn eb',ex]
  congr 1
  rw[l1,nodeS_same (bk.trans ck) (bn.trans cn) (bm.trans cm) (bs.trans (by rw[cs]))];exact(qfn hp).1
 ·rw[rS (by omega),rS (by rw[qdG];omega)]
end Gen
namespace K10
open PySem L2 Bk Gen
abbrev sPiecesD:Stmt:=top 96
abbrev sRowD:Stmt:=top 97
abbrev sSpoiled:Stmt:=top 98
section
variable{P:Program}{w:World}{K:W.Frag}{mg:Str->Option Value}{base:Heap}
def odds:Str:=Str.ofString "akt >|#.*{}0-?_\n"
theorem odds_at{i:Int}(h0:0<=i)(h1:i<16):∃c,atI odds.cps.toList i=some c/\c<128:=by
 obtain⟨c,e,m⟩:=qgK (l:=odds.cps.toList) h0 (by rw[show odds.cps.toList.length=16 by ac_rfl];exact h1);exact⟨c,e,(by ac_rfl:∀c∈odds.cps.toList,c<128) c m⟩
theorem sz{n:Nat}(h:n<=5000):n<=sizeLine:=qR h (by decide)
def pcs:List Str:=[Str.ofString "a",Str.ofString "*b",Str.ofString "{}",Str.ofString "{}",Str.ofString "**{k}",Str.ofString "c.",Str.ofString "{m}",Str.ofString "?"]
theorem pcs_row:∀x∈pcs,RowS 5 0 x:=by ac_rfl
theorem qgF{l:List Str}{r:Int}(h0:0<=r)(h1:r<(l.length:Int)):∃x∈l,atI (l.map V.str) r=some (.str x):=by
 obtain⟨y,e,m⟩:=strs_at (nms:=l) h0 (by rw[qA];exact h1);exact⟨y,m,e⟩
theorem scPiecesD:FnScope ["_law_stream_here", "_law_words", "_law_k"] ["_law_stream_here"] (qaf sPiecesD):=⟨rfl,rfl,rfl,by ac_rfl,rfl,by ac_rfl,by ac_rfl⟩
theorem ok_pieces{f:Addr}{fd:FuncData}(F:Fun K "_law_pieces" "_law_pieces" sPiecesD f fd)(T:Bn mg)(F_take:Fx P w K mg base CX0 1 "_law_take" ["_law_stream_here", "_law_most"] spTake):FnOk P w K mg base CX0 2 f fd ["_law_stream_here"] (qg1 40 8):=by
 refine F.ok scPiecesD (λvs H Q E h=>?_) (λcdv A outer s H vs Q E hr h=>?_)
 ·obtain⟨st,rfl,_⟩:=h;rfl
 ·obtain⟨st,rfl,S,q⟩:=h;have hr_take:=hr;refine⟨_,(qab (qau (i:=1) scPiecesD.nd (by rfl) (by trivial) (qaR pa_nil))
   (qab (qcl xE (by rfl) (qb6 (by rfl) T.range (qaa (qaM op_add qag (qat F_take hr_take (by rfl) qay (qaa (pv 0) (qaa qag pa_nil)))) pa_nil)) (qaw (i:=2) scPiecesD.nd (by rfl) (by trivial))
   (qad (qaS (qbp qS rE rF mt_append (pv 1) (qaa (qan ix_list (qgq pcs (by ac_rfl)) (qat F_take hr_take (by rfl) qay (qaa (pv 0) (qaa qag pa_nil))) (λ_ _=>rfl)) pa_nil)))))
   (qad (qai (qaM op_add_str qah (qbp xG PySem.F.slot_str_join PySem.F.type_str_join mt_join qah (qaa (pv 1) pa_nil))))))),?_⟩
  refine⟨by show 0<=sizeLine;decide,λwl hwl=>?_⟩;have s1:=qac hwl (.lst []);obtain⟨o0,e0⟩:=S.some;have nw:wl≠st:=(qam e0 hwl).symm;dsimp only[tNext];refine qbs (λσ' H'=>∃(ws:List Str) (v:Option V),σ'=[some (.ref st),some (.ref wl),v]/\ws.length<=5/\(∀x∈ws,RowS 5 0 x)/\H' wl=some (.lst (ws.map V.str))/\StOk H' st/\qfg st H H') (λN0 kk=>?_) ?_
  ·refine⟨_,rfl,st,5,rfl,S.same s1,by decide,by decide,λr H1 r0 r1 S1 K1=>⟨_,_,rfl,rfl,_,rfl,by omega,by omega,qcU (λi σ' H'=>∃(ws:List Str) (v:Option V),σ'=[some (.ref st),some (.ref wl),v]/\ws.length=i/\(∀x∈ws,RowS 5 0 x)/\H' wl=some (.lst (ws.map V.str))/\StOk H' st/\qfg st H H') ⟨[],none,rfl,rfl,(λx hx=>nomatch hx),K1 _ _ nw upd_same,S1,s1.keep.trans K1⟩ ?_ ?_⟩⟩
   ·rintro i σ' H2 hi ⟨ws,v,rfl,lw,hw,hv,S2,K2⟩;have hi5:i<5:=by omega
    refine⟨_,rfl,.inl ⟨rfl,_,SqL.of hv⟩,?_⟩;unfold qg7 tOp;refine qgS (ys:=pcs) (by decide) λl hl=>?_
    have s3:=qac hl (.lst (pcs.map V.str));refine⟨_,rfl,st,8,rfl,S2.same s3,by decide,by decide,λr2 H3 r20 r21 S3 K3=>?_⟩;obtain⟨o2,e2⟩:=S2.some;have nl:l≠st:=(qam e2 hl).symm;obtain⟨y,my,ey⟩:=qgF (l:=pcs) r20 (by rw[show pcs.length=8 from rfl];exact r21);have hv3:=K3 _ _ nw (s3 _ _ hv);refine⟨l,_,_,_,rfl,rfl,SqL.of (K3 _ _ nl upd_same),ey,wl,_,_,rfl,rfl,hv3,qbz (by rw[qA];omega),?_⟩;refine⟨ws++[y],_,rfl,by rw[qH,lw];rfl,λx hx=>?_,by rw[upd_same,qM];rfl,?_,?_⟩
    ·rcases qW.mp hx with hx | hx
     ·exact hw x hx
     ·have:x=y:=by simpa using hx
      rw[this];exact pcs_row y my
    ·obtain⟨a,b,e,z⟩:=S3;exact⟨a,b,by rw[qax nw.symm];exact e,z⟩
    ·intro b o nb e;rw[qax (qam e hwl)];exact K3 _ _ nb (s3 _ _ (K2 _ _ nb e))
   ·rintro σ' H2 ⟨ws,v,rfl,lw,hw,hv,S2,K2⟩;exact kk _ _ ⟨ws,v,rfl,by omega,hw,hv,S2,K2⟩
  rintro _ H2 ⟨ws,v,rfl,lw,hw,hv,S2,K2⟩;have rj:=qfU hw;have rb:=(show RowS 3 2 (Str.ofString " | ") by ac_rfl).app rj;have lj:(Str.join (Str.ofString " ") ws).length<=ws.length*(5+1):=rj.2.1;refine⟨rfl,_,rfl,_,wl,ws,rfl,rfl,SqL.of hv,λz hz=>qR (hw z hz).2.1 (by decide),by omega,by ac_rfl,_,_,rfl,rfl,sz ?_,q _ _ (rb.mono ?_ ?_) S2 K2⟩
  ·show 3+_<=5000;have:ws.length*(5+1)<=5*6:=yS _ lw;omega
  ·have:ws.length*(5+1)<=5*6:=yS _ lw;omega
  ·have:ws.length*(0+1)<=5*1:=yS _ lw;omega
theorem scSpoiled:FnScope ["_law_row_here", "_law_stream_here", "_law_way", "_law_at", "_law_sign"] ["_law_row_here", "_law_stream_here"] (qaf sSpoiled):=⟨rfl,rfl,rfl,by ac_rfl,rfl,by ac_rfl,by ac_rfl⟩
theorem ok_spoiled{f:Addr}{fd:FuncData}(F:Fun K "_law_spoiled" "_law_spoiled" sSpoiled f fd)(T:Bn mg)(F_take:Fx P w K mg base CX0 1 "_law_take" ["_law_stream_here", "_law_most"] spTake):FnOk P w K mg base CX0 2 f fd ["_law_row_here", "_law_stream_here"] spSpoiled:=by
 refine F.ok scSpoiled (λvs H Q E h=>?_) (λcdv A outer s H vs Q E hr h=>?_)
 ·obtain⟨x,st,n,c,rfl,_⟩:=h;rfl
 ·obtain⟨x,st,n,c,rfl,S,rx,n9,q⟩:=h;have hr_take:=hr;have lx:=rx.2.1;have zx:x.length<=sizeLine:=sz (by omega);have xl:=qbo x;refine⟨_,(qab (qau (i:=2) scSpoiled.nd (by rfl) (by trivial) (qat F_take hr_take (by rfl) qay (qaa (pv 1) (qaa qag pa_nil))))
   (qab (qau (i:=3) scSpoiled.nd (by rfl) (by trivial) (qat F_take hr_take (by rfl) qay (qaa (pv 1) (qaa (qaM op_add (qal call_len_str (by rfl) T.len b_len (qaa (pv 0) pa_nil)) qag) pa_nil))))
   (qab (qau (i:=4) scSpoiled.nd (by rfl) (by trivial) (qan ix_str qah (qat F_take hr_take (by rfl) qay (qaa (pv 1) (qaa qag pa_nil))) (λ_ _=>rfl)))
   (qab (qaH (qak op_eq (pv 2) qag (qap _)) (qad (qai (qaM op_add_str (qaM op_add_str (qaX sl_str (pv 0) po_none (qaY (pv 3))) (pv 4)) (qaX sl_str (pv 0) (qaY (pv 3)) po_none)))) pss_nil)
   (qab (qaH (qak op_eq (pv 2) qag (qap _)) (qad (qai (qaM op_add_str (qaX sl_str (pv 0) po_none (qaY (pv 3))) (qaX sl_str (pv 0) (qaY (qaM op_add (pv 3) qag)) po_none)))) pss_nil)
   (qab (qaH (qak op_eq (pv 2) qag (qap _)) (qad (qai (qaM op_add_str (qaM op_add_str (qaX sl_str (pv 0) po_none (qaY (pv 3))) (pv 4)) (qaX sl_str (pv 0) (qaY (qaM op_add (pv 3) qag)) po_none)))) pss_nil)
   (qad (qai (pv 0))))))))),?_⟩
  refine⟨_,rfl,st,9,rfl,S,by decide,by decide,λway H1 w0 w1 S1 K1=>?_⟩;refine⟨_,rfl,_,rfl,x,rfl,zx,_,_,rfl,rfl,st,(x.length:Int)+1,rfl,S1,by omega,by omega,λat' H2 a0 a1 S2 K2=>?_⟩;obtain⟨a,rfl⟩:∃a:Nat,at'=(a:Int):=⟨at'.toNat,by omega⟩;refine⟨_,rfl,st,16,rfl,S2,by decide,by decide,λr3 H3 r30 r31 S3 K3=>?_⟩;obtain⟨g,eg,g1⟩:=odds_at r30 r31;refine⟨odds,_,g,rfl,rfl,by ac_rfl,eg,?_⟩;have K03:=K1.trans (K2.trans K3);have rg:RowS 1 1 ⟨#[g]⟩:=RowS.any g1;have halves:∀b:Nat,RowS n c (mkS (x.cps.toList.take a)++mkS (x.cps.toList.drop (a+b))):=λb=>by
   have h1:(x.cps.toList.drop (a+b)).Sublist (x.cps.toList.drop a):=by
    rw[<-List.drop_drop];exact List.drop_sublist _ _
   have h2:=(List.Sublist.refl (x.cps.toList.take a)).append h1;rw[yD]at h2;have h:=RowS.sub (l:=x.cps.toList.take a++x.cps.toList.drop (a+b)) rx h2
   ·have e:mkS (x.cps.toList.take a)++mkS (x.cps.toList.drop (a+b))=mkS (x.cps.toList.take a++x.cps.toList.drop (a+b)):=qdx (by rw[qaC]);rw[e];exact h
  have three:∀b:Nat,RowS (n+1) (c+1) (mkS (x.cps.toList.take a)++⟨#[g]⟩++mkS (x.cps.toList.drop (a+b))):=λb=>by
   have h:=halves b;refine⟨?_,?_,?_⟩
   ·refine qcI fun d hd=>?_
    rw[qaC,qaC]at hd;rcases qW.mp hd with z | z
    ·rcases List.mem_append.mp z with z | z
     ·have lo:=h.1;unfold Low at lo;rw[Array.all_eq_true']at lo
      exact of_decide_eq_true (lo d (by have : d ∈ (mkS (x.cps.toList.take a) ++ mkS (x.cps.toList.drop (a + b))).cps.toList := by rw [qaC]; exact xX _ z
                                        simpa using this))
     ·have:d=g:=by simpa using z
      omega
    ·have lo:=h.1;unfold Low at lo;rw[Array.all_eq_true']at lo
     exact of_decide_eq_true (lo d (by have : d ∈ (mkS (x.cps.toList.take a) ++ mkS (x.cps.toList.drop (a + b))).cps.toList := by rw [qaC]; exact qZ _ z
                                       simpa using this))
   ·have h2:=h.2.1;rw[qaz]at h2;rw[qaz,qaz];show _+1+_<=_;omega
   ·have h2:=h.2.2;rw[qaC,List.count_append]at h2;rw[qaC,qaC,List.count_append,List.count_append];have:=rg.2.2;omega
  have l1:(mkS (x.cps.toList.take a)).length<=n:=by
   rw[qdi,rN];omega
  have l2:∀b:Nat,(mkS (x.cps.toList.drop (a+b))).length<=n:=λb=>by
   rw[qdi,rW];omega
  refine⟨_,rfl,rfl,_,rfl,?_⟩
  by_cases h1:way=1
  ·rw[qB (by rw[h1]:V.int way=V.int 1)];refine iteT ⟨_,rfl,_,rfl,_,rfl,x,rfl,zx,?_⟩;rw[qex];refine⟨_,rfl,_,_,rfl,rfl,sz (by show _+1<=5000;omega),_,rfl,_,rfl,_,rfl,x,rfl,zx,?_⟩;rw[qdg];have:=l2 0;refine⟨_,_,rfl,rfl,sz (by rw[qaz];show _+1+_<=5000;rw[Nat.add_zero]at this;omega),q _ _ (three 0) S3 K03⟩
  rw[qC (λz=>h1 (V.int.inj z):¬V.int way=V.int 1)];refine iteF ⟨_,rfl,rfl,_,rfl,?_⟩
  by_cases h2:way=2
  ·rw[qB (by rw[h2]:V.int way=V.int 2)];refine iteT ⟨_,rfl,_,rfl,_,rfl,x,rfl,zx,?_⟩;rw[qex];refine⟨_,rfl,_,rfl,_,_,rfl,rfl,_,rfl,x,rfl,zx,?_⟩;dsimp only;rw[show((a:Nat):Int)+1=((a+1:Nat):Int) by omega,qdg];have:=l2 1;exact⟨_,_,rfl,rfl,sz (by omega),q _ _ ((halves 1).mono (by omega) (by omega)) S3 K03⟩
  rw[qC (λz=>h2 (V.int.inj z):¬V.int way=V.int 2)];refine iteF ⟨_,rfl,rfl,_,rfl,?_⟩
  by_cases h3:way=3
  ·rw[qB (by rw[h3]:V.int way=V.int 3)];refine iteT ⟨_,rfl,_,rfl,_,rfl,x,rfl,zx,?_⟩;rw[qex];refine⟨_,rfl,_,_,rfl,rfl,sz (by show _+1<=5000;omega),_,rfl,_,rfl,_,_,rfl,rfl,_,rfl,x,rfl,zx,?_⟩;dsimp only;rw[show((a:Nat):Int)+1=((a+1:Nat):Int) by omega,qdg];have:=l2 1;exact⟨_,_,rfl,rfl,sz (by rw[qaz];show _+1+_<=5000;omega),q _ _ (three 1) S3 K03⟩
  rw[qC (λz=>h3 (V.int.inj z):¬V.int way=V.int 3)];exact iteF ⟨_,rfl,q _ _ (rx.mono (by omega) (by omega)) S3 K03⟩
end
end K10
namespace Gen
open PySem L2 Bk
def mendWs:List Str:=[Str.ofString "form",Str.ofString "many",Str.ofString "body",Str.ofString "level",Str.ofString "place",Str.ofString "name",Str.ofString "marks",Str.ofString "pieces",Str.ofString "bare",Str.ofString "notes",Str.ofString "case"]
theorem qew{p:Prop}{x y:Str}(h:y∈wd p x):y=x:=by
 by_cases hp:p
 ·rw[qdF hp]at h;simpa using h
 ·rw[qcK hp]at h;cases h
theorem qdl{y:Str}(i:Nat)(h:mendWs[i]?=some y):y∈mendWs:=qK h
theorem qgY{d:Nd}{lv:Nat}{y:Str}(h:y∈qa2 d lv):y∈mendWs:=by
 rw[qew h];exact qdl 3 rfl
theorem qhw{ds:List Nd}{d:Nd}{y:Str}(h:y∈qaO ds d):y∈mendWs:=by
 unfold qaO at h;rcases qW.mp h with h | h
 ·rcases qW.mp h with h | h
  ·rcases qW.mp h with h | h
   ·rw[qew h];exact qdl 5 rfl
   ·rw[qew h];exact qdl 6 rfl
  ·rw[qew h];exact qdl 7 rfl
 ·rw[qew h];exact qdl 8 rfl
theorem qfw{ds:List Nd}{d:Nd}{y:Str}(h:y∈(qas ds d).2):y∈mendWs:=by
 unfold qas at h
 split at h
 ·have:y=T "place":=by simpa using h
  rw[this];exact qdl 4 rfl
 ·rcases qW.mp h with h | h
  ·exact qgY h
  ·exact qhw h
theorem read_ws{ds:List Nd}{x y:Str}(h:y∈(qaV ds x).2):y∈mendWs:=by
 unfold qaV at h;cases e:qa8 x with
 | none =>
   rw[e]at h
   have:y=T "form":=by simpa using h
   rw[this];exact qdl 0 rfl
 | some d =>
   rw[e]at h
   dsimp only at h
   split at h
   · have:y=T "many":=by simpa using h
     rw[this];exact qdl 1 rfl
   · split at h
     · unfold qa3 at h
       split at h
       · rcases qW.mp h with h | h
         · exact qgY h
         · exact qhw h
       · rcases qO.mp h with h | h
         · rw[h];exact qdl 2 rfl
         · exact qfw h
     · split at h
       · rcases qO.mp h with h | h
         · rw[h];exact qdl 2 rfl
         · exact qfw h
       · exact qfw h
theorem qiR(rows:List Str):∀{i:Nat},i<=rows.length->∀p∈(rdTo rows i).2,p.2∈mendWs/\0<=p.1/\p.1<(i:Int)
 | 0,_,p,h=>nomatch h
 | i + 1, hi, p, h => by
   have e:rows[i]?=some rows[i]:=qE (by omega)
   rw[rdTo,e]at h
   rcases qW.mp h with h | h
   · obtain⟨a,b,c⟩:=qiR rows (i:=i) (by omega) p h
     exact⟨a,b,by omega⟩
   · obtain⟨y,hy,rfl⟩:=qV.mp h
     exact⟨read_ws hy,by show(0:Int)<=(i:Int);omega,by show(i:Int)<_;omega⟩
theorem end_ws{ds:List Nd}{y:Str}(h:y∈qbm ds):y∈mendWs:=by
 unfold qbm at h;have at':∀{es:List Nd} {f:Nat->Nd->Bool} {w:Str} {N:Nat},y∈atTo es (λi d=>if f i d then[w]else[]) N->y=w:=λ{es f w N} hy=>by
  obtain⟨j,d,_,_,hm⟩:=qcZ hy;cases e:f j d with
  | true=>rw[e]at hm;simpa using hm
  | false=>rw[e]at hm;cases hm
 rcases qW.mp h with h | h
 ·rcases qW.mp h with h | h
  ·rcases qW.mp h with h | h
   ·rw[qew h];exact qdl 2 rfl
   ·rw[at' h];exact qdl 9 rfl
  ·rw[at' h];exact qdl 10 rfl
 ·rw[qew h];exact qdl 8 rfl
theorem mends_ws(rows:List Str):∀p∈(qcM rows).2,p.2∈mendWs/\-1<=p.1/\p.1<(rows.length:Int):=λp h=>by
 have er:(qcM rows).2=(rdTo rows rows.length).2++(qbm (rdTo rows rows.length).1).map λy=>((-1:Int),y):=rfl
 rw[er]at h;rcases qW.mp h with h | h
 ·obtain⟨a,b,c⟩:=qiR rows (qG _) p h;exact⟨a,by omega,c⟩
 ·obtain⟨y,hy,rfl⟩:=qV.mp h;exact⟨end_ws hy,by show(-1:Int)<=-1;decide,by show(-1:Int)<_;omega⟩
end Gen
namespace K10
open PySem L2 Bk Gen
abbrev sMendsL:Stmt:=top 99
def spMendsL:Sp:=λvs H Q _=>∃(m:Addr) (n:Nat) (ms:List (Int×Str)) (N:Addr->Prop),vs=[.ref m,.int n]/\qde N H m ms/\(∀p∈ms,p.2∈mendWs/\-1<=p.1/\p.1<(n:Int))/\∀H',Same H H'->Q (.bl true) H'
section
variable{P:Program}{w:World}{K:W.Frag}{mg:Str->Option Value}{base:Heap}
theorem qgJ{ys:List Str}{i:Nat}{u:TS}{D:Ends}{σ:St}{H:Hp}(le:ys.length<=100)(h:∀l,H l=none->u D (σ.set i (some (.ref l))) (upd H l (.lst (ys.map V.str)))):tSeq (tAsg (tLst (strsT ys)) (qcq i)) u D σ H:=by
 show tLst (strsT ys) σ H (λv H1=>qcq i v σ H1 (u D));exact qgS le h
def mws:List Str:=[Str.ofString "form",Str.ofString "many",Str.ofString "body",Str.ofString "level",Str.ofString "place",Str.ofString "name",Str.ofString "marks",Str.ofString "pieces",Str.ofString "bare",Str.ofString "notes",Str.ofString "case"]
theorem mends_body:∃es1 pa pb pc,qbk sMendsL=.Assign [.Name "_law_words" pa] (.List es1 pb) pc::(qbk sMendsL).tail/\isStrs es1 mws=true:=⟨_,_,_,_,rfl,by ac_rfl⟩
theorem inV_mw{y:Str}(h:y∈mendWs):inV (.str y) (mws.map V.str)=true:=by
 have h:y∈mws:=h;cases e:inV (.str y) (mws.map V.str)with
 | true=>rfl
 | false=>exact absurd rfl (inV_strs e y h)
theorem scMendsL:FnScope ["_law_mends_here", "_law_many", "_law_words", "_law_row_here", "_law_word"] ["_law_mends_here", "_law_many"] (qaf sMendsL):=⟨rfl,rfl,rfl,by ac_rfl,rfl,by ac_rfl,by ac_rfl⟩
theorem ok_mends{f:Addr}{fd:FuncData}(F:Fun K "_law_mends" "_law_mends" sMendsL f fd):FnOk P w K mg base CX0 1 f fd ["_law_mends_here", "_law_many"] spMendsL:=by
 refine F.ok scMendsL (λvs H Q E h=>?_) (λcdv A outer s H vs Q E hr h=>?_)
 ·obtain⟨m,n,ms,N,rfl,_⟩:=h;rfl
 ·obtain⟨m,n,ms,N,rfl,⟨us,hm,pr⟩,all,q⟩:=h;obtain⟨es1,pa,pb,pc,eb,i_mws⟩:=mends_body;rw[eb];refine⟨_,(qab (qau (i:=2) scMendsL.nd (by rfl) (by trivial) (qgq mws i_mws))
   (qab (qcl xE (by rfl) (qbb (pv 0)) (qdj (by rfl) (qa1 (qaw (i:=3) scMendsL.nd (by rfl) (by trivial)) (qa1 (qaw (i:=4) scMendsL.nd (by rfl) (by trivial)) pgs_nil)))
   (qad (qaH (PW.pt (qdv (qak op_notIn_seq (pv 4) (pv 2) (by with_unfolding_all rfl)) (qcr (qbj (qcF op_le op_lt (qen un_neg qag) (pv 3) (pv 1)))))) (qad (qai qdP)) pss_nil)))
   (qad (qai qdP)))),?_⟩
  refine qgJ (by decide) λl hl=>?_
  have k1:=qac hl (.lst (mws.map V.str));refine⟨_,rfl,m,rfl,⟨_,SqL.of (k1 _ _ hm)⟩,qgO (xs:=us) (λi σ' H'=>H'=upd H l (.lst (mws.map V.str))/\∃v3 v4,σ'=[some (.ref m),some (.int n),some (.ref l),v3,v4]) ⟨rfl,none,none,rfl⟩ ?_ ?_ ?_⟩
  ·rintro i σ' H' hi ⟨rfl,_⟩;exact SqL.of (k1 _ _ hm)
  ·rintro i x σ' H' hx ⟨rfl,v3,v4,rfl⟩;obtain⟨p,ep,a,rfl,_,ha⟩:=qbH pr hx;obtain⟨w1,w2,w3⟩:=all p (qK ep);refine⟨a,_,rfl,SqT.of (k1 _ _ ha),rfl,_,_,rfl,_,_,rfl,rfl,?_⟩;refine⟨_,rfl,_,rfl,l,_,rfl,.inl (SqL.of upd_same),rfl,qeE _,_,rfl,?_⟩;rw[inV_mw w1];refine iteF ?_;refine⟨_,rfl,_,rfl,_,_,rfl,rfl,_,rfl,?_⟩;rw[qB (by show(-1:Int)<=p.1;exact w2)];refine iteT ⟨_,rfl,_,_,rfl,rfl,_,rfl,?_⟩;rw[qB (show p.1<((n:Nat):Int)from w3)];exact iteF ⟨rfl,_,_,rfl⟩
  ·rintro σ' H' ⟨rfl,v3,v4,rfl⟩;exact q _ k1
def kds:List Str:=[Str.ofString "text",Str.ofString "note",Str.ofString "head",Str.ofString "picture",Str.ofString "case",Str.ofString "shelf",Str.ofString "grid",Str.ofString "aside",Str.ofString "body",Str.ofString "text"]
theorem row_body:∃es1 pa pb pc,qbk sRowD=.Assign [.Name "_law_kinds" pa] (.List es1 pb) pc::(qbk sRowD).tail/\isStrs es1 kds=true:=⟨_,_,_,_,rfl,by ac_rfl⟩
theorem kds_row:∀x∈kds,RowS 7 0 x:=by ac_rfl
def kmn:Str:=Str.ofString "kmn"
theorem kmn_at{i:Int}(h0:0<=i)(h1:i<3):∃c,atI kmn.cps.toList i=some c/\c<128/\c≠32:=by
 obtain⟨c,e,m⟩:=qgK (l:=kmn.cps.toList) h0 (by rw[show kmn.cps.toList.length=3 by ac_rfl];exact h1);exact⟨c,e,(by ac_rfl:∀c∈kmn.cps.toList,c<128/\c≠32) c m⟩
def yzx:Str:=Str.ofString "yzx"
theorem yzx_at{i:Int}(h0:0<=i)(h1:i<3):∃c,atI yzx.cps.toList i=some c/\c<128/\c≠32:=by
 obtain⟨c,e,m⟩:=qgK (l:=yzx.cps.toList) h0 (by rw[show yzx.cps.toList.length=3 by ac_rfl];exact h1);exact⟨c,e,(by ac_rfl:∀c∈yzx.cps.toList,c<128/\c≠32) c m⟩
theorem scRowD:FnScope ["_law_stream_here", "_law_kinds", "_law_kind", "_law_row_here", "_law_k"] ["_law_stream_here"] (qaf sRowD):=⟨rfl,rfl,rfl,by ac_rfl,rfl,by ac_rfl,by ac_rfl⟩
theorem ok_row{f:Addr}{fd:FuncData}(F:Fun K "_law_row" "_law_row" sRowD f fd)(T:Bn mg)(F_take:Fx P w K mg base CX0 1 "_law_take" ["_law_stream_here", "_law_most"] spTake)(F_pieces:Fx P w K mg base CX0 2 "_law_pieces" ["_law_stream_here"] (qg1 40 8)):FnOk P w K mg base CX0 3 f fd ["_law_stream_here"] (qg1 100 12):=by
 refine F.ok scRowD (λvs H Q E h=>?_) (λcdv A outer s H vs Q E hr h=>?_)
 ·obtain⟨st,rfl,_⟩:=h;rfl
 ·obtain⟨st,rfl,S,q⟩:=h;have hr_take:Room 1 _:=hr.mono (by decide);have hr_pieces:=hr;obtain⟨es1,pa,pb,pc,eb,i_kds⟩:=row_body;rw[eb];refine⟨_,(qab (qau (i:=1) scRowD.nd (by rfl) (by trivial) (qgq kds i_kds))
   (qab (qau (i:=2) scRowD.nd (by rfl) (by trivial) (qan ix_list (pv 1) (qat F_take hr_take (by rfl) qay (qaa (pv 0) (qaa qag pa_nil))) (λ_ _=>rfl)))
   (qab (qau (i:=3) scRowD.nd (by rfl) (by trivial) (qaM op_add_str (qaM op_mulS qah (qat F_take hr_take (by rfl) qay (qaa (pv 0) (qaa qag pa_nil)))) (pv 2)))
   (qab (qaH (qak op_eq (qat F_take hr_take (by rfl) qay (qaa (pv 0) (qaa qag pa_nil))) qag (qap _)) (qad (qau (i:=3) scRowD.nd (by rfl) (by trivial) (qaM op_add_str (qaM op_add_str (pv 3) qah) (qan ix_str qah (qat F_take hr_take (by rfl) qay (qaa (pv 0) (qaa qag pa_nil))) (λ_ _=>rfl))))) pss_nil)
   (qab (qcl xE (by rfl) (qb6 (by rfl) T.range (qaa (qat F_take hr_take (by rfl) qay (qaa (pv 0) (qaa qag pa_nil))) pa_nil)) (qaw (i:=4) scRowD.nd (by rfl) (by trivial))
   (qad (qau (i:=3) scRowD.nd (by rfl) (by trivial) (qaM op_add_str (qaM op_add_str (pv 3) qah) (qan ix_str qah (qat F_take hr_take (by rfl) qay (qaa (pv 0) (qaa qag pa_nil))) (λ_ _=>rfl))))))
   (qab (qaH (qak op_eq (pv 2) qah (qap _)) (qad (qai (qaM op_add_str (qaM op_add_str (qaM op_add_str (pv 3) qah) (qbq call_str_int (by rfl) T.str b_str (qaa (qaM op_add qag (qat F_take hr_take (by rfl) qay (qaa (pv 0) (qaa qag pa_nil)))) pa_nil))) qah))) pss_nil)
   (qab (qaH (qak op_in_seq (pv 2) (qaR (qaa qah (qaa qah (qaa qah pa_nil)))) (by with_unfolding_all rfl)) (qad (qai (qaM op_add_str (pv 3) (qat F_pieces hr_pieces (by rfl) qay (qaa (pv 0) pa_nil))))) pss_nil)
   (qad (qai (pv 3)))))))))),?_⟩
  refine qgJ (by decide) λl hl=>?_
  have k1:=qac hl (.lst (kds.map V.str));obtain⟨o0,e0⟩:=S.some;have nl:l≠st:=(qam e0 hl).symm;refine⟨_,rfl,_,rfl,st,10,rfl,S.same k1,by decide,by decide,λr H2 r0 r1 S2 K2=>?_⟩;obtain⟨kd,mk,ek⟩:=qgF (l:=kds) r0 (by rw[show kds.length=10 from rfl];exact r1);have K02:qfg st H H2:=k1.keep.trans K2;refine⟨l,_,_,_,rfl,rfl,SqL.of (K2 _ _ nl upd_same),ek,?_⟩;have rk:=kds_row kd mk;refine⟨_,rfl,st,8,rfl,S2,by decide,by decide,λlv H3 lv0 lv1 S3 K3=>?_⟩;have elv:lv=((lv.toNat:Nat):Int):=by omega
  refine⟨Str.ofString ">",lv.toNat,rfl,by rw[<-elv],by ac_rfl,by omega,?_⟩;rw[show Str.ofString ">" = ⟨#[62]⟩from sg_gt];have rt:RowS 8 0 (repS ⟨#[62]⟩ lv.toNat):=RowS.rep (by decide) (by decide) (by omega);generalize repS ⟨#[62]⟩ lv.toNat=gts at *;have K03:=K02.trans K3;have l1:=rt.2.1;have l2:=rk.2.1;refine⟨_,rfl,_,_,rfl,rfl,sz (by omega),?_⟩;have r1:=rt.app rk;dsimp only[qcq];refine qa0 (λσ' H'=>∃x,σ'=[some (.ref st),some (.ref l),some (.str kd),some (.str x),none]/\RowS 20 1 x/\StOk H' st/\qfg st H H') (λD' kk=>?_) ?_
  ·refine⟨_,rfl,st,3,rfl,S3,by decide,by decide,λr4 H4 r40 r41 S4 K4=>⟨rfl,_,rfl,?_⟩⟩;have K04:=K03.trans K4;have l3:=r1.2.1
   by_cases h:r4=1
   ·rw[qB (by rw[h]:V.int r4=V.int 1)];refine iteT ⟨_,rfl,_,_,rfl,rfl,sz (by show _+2<=5000;omega),_,rfl,st,3,rfl,S4,by decide,by decide,λr5 H5 r50 r51 S5 K5=>?_⟩;obtain⟨c,ec,c1,c2⟩:=kmn_at r50 r51;have r2:=r1.app (show RowS 2 1 (Str.ofString " #") by ac_rfl);have l4:=r2.2.1;refine⟨kmn,_,c,rfl,rfl,by ac_rfl,ec,_,_,rfl,rfl,sz (by show _+1<=5000;omega),kk _ _ ⟨_,rfl,(r2.app (RowS.one c1 c2)).mono (by decide) (by decide),S5,K04.trans K5⟩⟩
   ·rw[qC (λz=>h (V.int.inj z):¬V.int r4=V.int 1)];exact iteF (kk _ _ ⟨_,rfl,r1.mono (by decide) (by decide),S4,K04⟩)
  rintro _ H4 ⟨x4,rfl,rx4,S4,K4⟩;refine qa0 (λσ' H'=>∃x z,σ'=[some (.ref st),some (.ref l),some (.str kd),some (.str x),z]/\RowS 30 3 x/\StOk H' st/\qfg st H H') (λD' kk=>?_) ?_
  ·refine⟨_,rfl,st,3,rfl,S4,by decide,by decide,λr5 H5 r50 r51 S5 K5=>⟨_,rfl,by omega,by omega,qcU (λi σ H6=>∃(x:Str) (v:Option V),σ=[some (.ref st),some (.ref l),some (.str kd),some (.str x),v]/\RowS (20+3*i) (1+i) x/\StOk H6 st/\qfg st H H6)
    ⟨x4,none,rfl,rx4,S5,K4.trans K5⟩ ?_ ?_⟩⟩
   ·rintro i σ H6 hi ⟨x,v,rfl,rx,S6,K6⟩;have l3:=rx.2.1;refine⟨_,rfl,_,_,rfl,rfl,sz (by show _+2<=5000;omega),_,rfl,st,3,rfl,S6,by decide,by decide,λr7 H7 r70 r71 S7 K7=>?_⟩;obtain⟨c,ec,c1,c2⟩:=yzx_at r70 r71;have r2:=rx.app (show RowS 2 1 (Str.ofString " .") by ac_rfl);have l4:=r2.2.1;exact⟨yzx,_,c,rfl,rfl,by ac_rfl,ec,_,_,rfl,rfl,sz (by show _+1<=5000;omega),_,_,rfl,(r2.app (RowS.one c1 c2)).mono (by omega) (by omega),S7,K6.trans K7⟩
   ·rintro σ H6 ⟨x,v,rfl,rx,S6,K6⟩;exact kk _ _ ⟨x,v,rfl,rx.mono (by omega) (by omega),S6,K6⟩
  rintro _ H5 ⟨x5,z5,rfl,rx5,S5,K5⟩;have l5:=rx5.2.1;have rb:=rx5.app (show RowS 3 2 (Str.ofString " | ") by ac_rfl);have lb:=rb.2.1;refine⟨_,rfl,rfl,_,rfl,?_⟩
  by_cases h:V.str kd=V.str (Str.ofString "picture")
  ·rw[qB h];refine iteT ⟨_,rfl,_,_,rfl,rfl,sz (by show _+3<=5000;omega),_,rfl,st,40,rfl,S5,by decide,by decide,λb H8 b0 b1 S8 K8=>⟨_,_,rfl,rfl,_,rfl,qcs (uF (show(1+b).natAbs<10000 by omega) (by ac_rfl)),_,_,rfl,rfl,?_,?_⟩⟩
   ·have:=(RowS.num (i:=1+b) (by omega) (by omega)).2.1;exact sz (by omega)
   have ra:=rb.app (RowS.num (i:=1+b) (by omega) (by omega));have la:=ra.2.1;exact⟨_,_,rfl,rfl,sz (by show _+2<=5000;omega),q _ _ ((ra.app (show RowS 2 1 (Str.ofString " 7") by ac_rfl)).mono (by decide) (by decide)) S8 (K5.trans K8)⟩
  rw[qC h];refine iteF ?_;refine⟨_,rfl,by show 3<=sizeLine;decide,λM hM=>⟨M,_,rfl,.inl (SqL.of upd_same),rfl,rfl,_,rfl,?_⟩⟩;have k7:=qac hM (.lst [.str (Str.ofString "text"),.str (Str.ofString "note"),.str (Str.ofString "head")]);rw[if_neg qL];generalize inV _ _=bb;cases bb with
  | false=>exact iteF ⟨_,rfl,q _ _ (rx5.mono (by decide) (by decide)) (S5.same k7) (K5.trans k7.keep)⟩
  | true =>
    refine iteT ⟨_,rfl,_,rfl,st,rfl,S5.same k7,λy H9 ry S9 K9=>?_⟩
    have ly:=ry.2.1
    exact⟨_,_,rfl,rfl,sz (by omega),q _ _ ((rx5.app ry).mono (by decide) (by decide)) S9 (K5.trans (k7.keep.trans K9))⟩
end
end K10
namespace L2
open PySem PySem.Spec PyProof.Rows
open PySem.W (Dat)
mutual
theorem DIn.same{H H':Hp}(s:Same H H'):∀{v:V} {d:Dat},DIn H v d->DIn H' v d
 | _,_,.non=>.non
 | _,_,.int i=>.int i
 | _,_,.str x=>.str x
 | _,_,.tup e q=>.tup (s _ _ e) (DAll.same s q)
 | _,_,.lst e q=>.lst (s _ _ e) (DAll.same s q)
theorem DAll.same{H H':Hp}(s:Same H H'):∀{vs:List V} {ds:List Dat},DAll H vs ds->DAll H' vs ds
 | _,_,.nil=>.nil
 | _,_,.cons x q=>.cons (DIn.same s x) (DAll.same s q)
end
end L2
namespace Bk
open PySem L2 Gen
open PySem.W (Dat)
end Bk
namespace Gen
open PySem L2 Bk
end Gen
namespace Bk
open PySem L2 Gen
theorem raw_nm:Low noName/\noName.length<=1000:=⟨by unfold Low;ac_rfl,by ac_rfl⟩
theorem raw_form{d:Nd}(h:Form d):Raw d:=by
 refine⟨?_,⟨λm hm=>⟨(h.mks.2.1 m hm).low,by have:=(h.mks.2.1 m hm).2.1;omega⟩,by have:=h.mks.1;omega⟩,qgE h.st,?_⟩
 ·rcases h.nm with e | n
  ·rw[e];exact raw_nm
  ·exact⟨n.low,by have:=n.2.1;omega⟩
 ·have st:=h.st;cases hk:d.k<;>rw[hk]at st
  case text=>exact⟨λ_ x hx=>qeq (st.1 x hx),(λz=>by cases z),by have:=st.2.2;omega⟩
  case head=>exact⟨λ_ x hx=>qeq (st.1 x hx),(λz=>by cases z),by have:=st.2.2;omega⟩
  case note=>exact⟨λ_ x hx=>qeq (st.1 x hx),(λz=>by cases z),by have:=st.2.2;omega⟩
  case picture =>
   obtain⟨a,b,e,_⟩:=st;rw[e];refine⟨λz=>(by cases z),λ_ x hx=>?_,by show 2<=500;decide⟩;simp only[List.mem_cons,List.not_mem_nil,or_false]at hx;rcases hx with rfl | rfl<;>exact⟨_,rfl⟩
  all_goals
   have st:d.st=[]:=st;rw[st];exact⟨(λz=>by cases z),(λz=>by cases z),by decide⟩
end Bk
namespace Gen
open PySem L2 Bk
theorem lev_le{ds:List Nd}{i l:Nat}(h:Lev ds i l):l<=i:=by
 induction h with
 | top e h=>exact r8 _
 | up e he lt hj ih=>omega
open Classical in
theorem good_lev{ds:List Nd}(g:GoodX ds):∃L,Levs ds L:=by
 refine⟨λi=>if h:∃u,Lev ds i u then Classical.choose h else 0,λi hi=>?_⟩;obtain⟨u,_,lu⟩:=(g.tree i ds[i] (qE hi)).lev;have h:∃u,Lev ds i u:=⟨u,lu⟩;dsimp only;rw[dif_pos h];have hc:=Classical.choose_spec h;exact⟨hc,lev_le hc⟩
end Gen
namespace K10
open PySem L2 Bk Gen
open PySem.W (Dat)
abbrev sLaw:Stmt:=top 100
theorem NdNew.at{M N:Addr->Prop}{H:Hp}{a:Addr}{d:Nd}(h:NdNew M N H a d):NdAt (λb=>M b\/N b) H a d:=by
 obtain⟨na,m,sf,ha,nm,hm,ns,vs,hs,its⟩:=h;exact⟨.inl na,m,sf,ha,.inl nm,hm,.inl ns,vs,hs,its.mono λv x y=>y.keep KeepN.refl λ_ n _=>.inr n⟩
theorem BookNew.at{M N:Addr->Prop}{H:Hp}{p:Addr}{ds:List Nd}(h:BookNew M N H p ds):BookAt (λb=>M b\/N b) H p ds:=by
 obtain⟨as,hp,nd⟩:=h;exact⟨as,hp,nd.mono λa d x=>(NdNew.at x).keep KeepN.refl λ_ n _=>n.imp And.left id⟩
theorem qeA{H:Hp}:∀l:List Str,DAll H (l.map V.str) (l.map Dat.str)
 | []=>.nil
 | x::l=>.cons (.str x) (qeA l)
theorem strs_ok{l:List Str}(h:∀x∈l,Low x):PySem.W.kqdOk 9 (.list (l.map Dat.str))=true:=by
 simp only[PySem.W.kqdOk,List.all_eq_true,List.mem_map];rintro x ⟨y,hy,rfl⟩;exact qir (h y hy)
theorem strs_inj{l m:List Str}(h:Dat.list (l.map Dat.str)=Dat.list (m.map Dat.str)):l=m:=by
 injection h with h
 exact qdN (λa b e=>by injection e) h
def mdD(p:Int×Str):Dat:=.tuple [.int p.1,.str p.2]
theorem mds_in{N:Addr->Prop}{H:Hp}{vs:List V}{ms:List (Int×Str)}(h:Paired (MdAt N H) vs ms):DAll H vs (ms.map mdD):=by
 induction h with
 | nil=>exact .nil
 | cons q t ih =>
   obtain⟨a,rfl,_,e⟩:=q
   exact .cons (.tup e (.cons (.int _) (.cons (.str _) .nil))) ih
theorem ws_low:∀x∈mendWs,Low x:=λx hx=>by
 have:mendWs.all (λx=>x.cps.all (·< 128))=true:=by ac_rfl
 exact xB.mp this x hx
theorem mds_ok{ms:List (Int×Str)}(h:∀p∈ms,p.2∈mendWs):PySem.W.kqdOk 9 (.list (ms.map mdD))=true:=by
 simp only[PySem.W.kqdOk,List.all_eq_true,List.mem_map];rintro x ⟨y,hy,rfl⟩;simp only[mdD,PySem.W.kqdOk,List.all_cons,List.all_nil,Bool.and_true,Bool.true_and];exact qir (ws_low _ (h y hy))
theorem qiF{N:Addr->Prop}{H:Hp}{m:Addr}(h:qde N H m []):H m=some (.lst []):=by
 obtain⟨vs,e,p⟩:=h;cases p;exact e
theorem qeW{N:Addr->Prop}{H H':Hp}{m:Addr}{ms:List (Int×Str)}(h:qde N H m ms)(s:Same H H'):qde N H' m ms:=by
 obtain⟨vs,e,p⟩:=h;exact⟨vs,s _ _ e,p.mono λv p h=>MdAt.keep h s.keep λ_ n _=>n⟩
theorem qe7{ds:List Nd}(h:∀d∈ds,Form d):PySem.W.kqdOk 9 (.tuple [bkD ds,.list []])=true:=by
 have h8:=Bd.bk_ok8 h;simp only[PySem.W.kqdOk,List.all_cons,List.all_nil,Bool.and_true];exact h8
def qic(K:W.Frag):Sp:=λvs H Q _=>∃(a:Addr) (ns:List Int),vs=[.ref a]/\SqL K H a (ns.map V.int)/\ns.length<=63/\∀H',Q (.bl true) H'
section
variable{P:Program}{w:World}{K:W.Frag}{mg:Str->Option Value}{base:Heap}
theorem scLaw:FnScope ["_law_script", "_law_stream_here", "_law_rows", "_law_many", "_law_k", "_law_book", "_law_mends_here", "_law_again"] ["_law_script"] (qaf sLaw):=⟨rfl,rfl,rfl,by ac_rfl,rfl,by ac_rfl,by ac_rfl⟩
theorem ok_law{f C:Addr}{fd:FuncData}(F:Fun K "law" "law" sLaw f fd)(T:Bn mg)(F_stream:Fx P w K mg base CX0 1 "_law_stream" ["_law_script", "_law_k"] (qgB K))(F_take:Fx P w K mg base CX0 1 "_law_take" ["_law_stream_here", "_law_most"] spTake)(F_row:Fx P w K mg base CX0 3 "_law_row" ["_law_stream_here"] (qg1 100 12))(F_spoiled:Fx P w K mg base CX0 2 "_law_spoiled" ["_law_row_here", "_law_stream_here"] spSpoiled)(F_read_book:Fx P w K mg base CX0 9 "read_book" ["rows"] spReadBook)(F_made_book:Fx P w K mg base (CX1 P w) 7 "made_book" ["nodes"] (qhU C))(F_book_rows:Fx P w K mg base CX0 4 "book_rows" ["book"] spRows)(F_mends:Fx P w K mg base CX0 1 "_law_mends" ["_law_mends_here", "_law_many"] spMendsL):FnOk P w K mg base CX0 10 f fd ["_law_script"] (qic K):=by
 refine F.ok scLaw (λvs H Q E h=>?_) (λcdv A outer s H vs Q E hr h=>?_)
 ·obtain⟨a,ns,rfl,_⟩:=h;rfl
 ·obtain⟨a,ns,rfl,hS,h63,q⟩:=h;have hr_stream:Room 1 _:=hr.mono (by decide);have hr_take:Room 1 _:=hr.mono (by decide);have hr_row:Room 3 _:=hr.mono (by decide);have hr_spoiled:Room 2 _:=hr.mono (by decide);have hr_mends:Room 1 _:=hr.mono (by decide);have hr_book_rows:Room 4 _:=hr.mono (by decide);have hr_made_book:Room 7 _:=hr.mono (by decide);have hr_read_book:=hr;have hu:=hr.units;refine⟨_,(qab (qau (i:=1) scLaw.nd (by rfl) (by trivial) (qat F_stream hr_stream (by rfl) qay (qaa (pv 0) (qaa qag pa_nil))))
   (qab (qau (i:=2) scLaw.nd (by rfl) (by trivial) (qaR pa_nil))
   (qab (qau (i:=3) scLaw.nd (by rfl) (by trivial) (qat F_take hr_take (by rfl) qay (qaa (pv 1) (qaa qag pa_nil))))
   (qab (qaH (qak op_eq (qat F_take hr_take (by rfl) qay (qaa (pv 1) (qaa qag pa_nil))) qag (qap _)) (qad (qau (i:=3) scLaw.nd (by rfl) (by trivial) qag)) pss_nil)
   (qab (qcl xE (by rfl) (qb6 (by rfl) T.range (qaa (pv 3) pa_nil)) (qaw (i:=4) scLaw.nd (by rfl) (by trivial))
   (qad (qaS (qbp qS rE rF mt_append (pv 2) (qaa (qat F_spoiled hr_spoiled (by rfl) qay (qaa (qat F_row hr_row (by rfl) qay (qaa (pv 1) pa_nil)) (qaa (pv 1) pa_nil))) pa_nil)))))
   (qab (qh0 (qat F_read_book hr_read_book (by rfl) qay (qaa (qbq call_list_of (by rfl) T.list b_list (qaa (pv 2) pa_nil)) pa_nil)) (qdj (by rfl) (qa1 (qaw (i:=5) scLaw.nd (by rfl) (by trivial)) (qa1 (qaw (i:=6) scLaw.nd (by rfl) (by trivial)) pgs_nil))))
   (qab (qaH (PW.pt (qdv (qak op_gt (qal call_len_seq (by rfl) T.len b_len (qaa (pv 5) pa_nil)) qag (qap _)) (qdv (qak (qfL hu) (qat F_made_book hr_made_book (by rfl) qgj (qaa (pv 5) pa_nil)) (pv 5) (qap _)) (qcr (qbj (qaZ (qat F_mends hr_mends (by rfl) qay (qaa (pv 6) (qaa (qal call_len_seq (by rfl) T.len b_len (qaa (pv 2) pa_nil)) pa_nil))))))))) (qad (qai qdP)) pss_nil)
   (qab (qau (i:=7) scLaw.nd (by rfl) (by trivial) (qat F_book_rows hr_book_rows (by rfl) qay (qaa (pv 5) pa_nil)))
   (qab (qaH (qak op_ne (qaW (qgz hu) (pv 6) (qaR pa_nil) (qap _)) (qaW (qgz hu) (pv 2) (pv 7) (qap _)) (qap _)) (qad (qai qdP)) pss_nil)
   (qad (qai (qaW (qgz hu) (qat F_read_book hr_read_book (by rfl) qay (qaa (pv 7) pa_nil)) (qbc (qaa (pv 5) (qaa (qaR pa_nil) pa_nil))) (qap _))))))))))))),?_⟩
  refine⟨_,rfl,a,ns,0,rfl,hS,by decide,by decide,λst H1 hst S1 s1=>?_⟩;refine⟨by show 0<=sizeLine;decide,λR hR=>?_⟩;have s2:=qac hR (.lst []);obtain⟨o1,e1⟩:=S1.some;have nR:R≠st:=(qam e1 hR).symm;refine⟨_,rfl,st,31,rfl,S1.same s2,by decide,by decide,λmn H2 m0 m1 S2 K2=>?_⟩;have hR2:=K2 _ _ nR (upd_same:upd H1 R (.lst []) R=_);obtain⟨mm,rfl⟩:∃m:Nat,mn=m:=⟨mn.toNat,by omega⟩;dsimp only[tNext];refine qbs (λσ' H'=>∃n:Nat,σ'=[some (.ref a),some (.ref st),some (.ref R),some (.int n),none,none,none,none]/\n<=100/\H' R=some (.lst [])/\StOk H' st) (λN0 go=>?_) ?_
  ·refine⟨_,rfl,st,16,rfl,S2,by decide,by decide,λr H3 r0 r1 S3 K3=>⟨rfl,_,rfl,?_⟩⟩
   by_cases h5:r=5
   ·rw[qB (xO V.int h5)];exact iteT (go _ _ ⟨100,rfl,by decide,K3 _ _ nR hR2,S3⟩)
   ·rw[qC (λz=>h5 (V.int.inj z))];exact iteF (go _ _ ⟨mm,rfl,by omega,K3 _ _ nR hR2,S3⟩)
  rintro σ1 H3 ⟨n,rfl,n1,hR3,S3⟩;refine qbs (λσ' H'=>∃(rows:List Str) (v:Option V),σ'=[some (.ref a),some (.ref st),some (.ref R),some (.int n),v,none,none,none]/\rows.length<=100/\(∀x∈rows,RowS 101 13 x)/\H' R=some (.lst (rows.map V.str))) (λN0 go=>?_) ?_
  ·refine⟨_,rfl,_,rfl,by omega,by omega,qcU (λi σ' H'=>∃(rows:List Str) (v:Option V),σ'=[some (.ref a),some (.ref st),some (.ref R),some (.int n),v,none,none,none]/\rows.length=i/\(∀x∈rows,RowS 101 13 x)/\H' R=some (.lst (rows.map V.str))/\StOk H' st) ⟨[],none,rfl,rfl,(λx hx=>nomatch hx),hR3,S3⟩ ?_ ?_⟩
   ·rintro i σ' H4 hi ⟨rows,v,rfl,lr,hrow,hR4,S4⟩;have hi':i<100:=by omega
    refine⟨_,rfl,.inl ⟨rfl,_,SqL.of hR4⟩,_,rfl,st,rfl,S4,λx H5 rx S5 K5=>⟨_,rfl,x,st,100,12,rfl,S5,rx,by decide,λy H6 ry S6 K6=>?_⟩⟩;have hR6:=K6 _ _ nR (K5 _ _ nR hR4);refine⟨R,_,_,rfl,rfl,hR6,qbz (by rw[qA];omega),rows++[y],_,rfl,by rw[qH,lr];rfl,λz hz=>?_,by rw[upd_same,qM];rfl,?_⟩
    ·rcases qW.mp hz with hz | hz
     ·exact hrow z hz
     ·have:z=y:=by simpa using hz
      rw[this];exact ry
    ·obtain⟨a,b,e,z⟩:=S6;exact⟨a,b,by rw[qax nR.symm];exact e,z⟩
   ·rintro σ' H4 ⟨rows,v,rfl,lr,hrow,hR4,S4⟩;exact go _ _ ⟨rows,v,rfl,by omega,hrow,hR4⟩
  rintro σ2 H4 ⟨rows,v,rfl,lr,hrow,hR4⟩;have rok:∀x∈rows,RowOk x:=λx hx=>((hrow x hx).mono (by decide) (by decide)).ok
  have g:=good_read rok;obtain⟨L,lv⟩:=good_lev g;have fm:∀d∈(qcM rows).1,Form d:=λd hd=>(g.form d hd).2.2.2
  have gle:=g.le;have mw:=mends_ws rows;have rb:=λh=>read_back rok h lv
  have rw':=λh:rows=qbJ L (qcM rows).1 (qcM rows).1.length=>(show(qcM rows).2=[] by
   have e:=qdT g lv;rw[<-h]at e;rw[e])
  refine⟨_,rfl,R,_,rfl,.inl (SqL.of hR4),λh hh=>?_⟩;have s5:=qac hh (.lst (rows.map V.str));refine⟨h,rows,rfl,upd_same,by omega,rok,λt b m H8 s8 ht et hb B8 hm M8 nbm=>?_⟩;refine⟨t,_,rfl,SqT.of et,rfl,_,_,rfl,_,_,rfl,rfl,?_⟩;have hR8:=s8 _ _ (s5 _ _ hR4);have wr:=qdT g lv;have gls:=qgd g lv;generalize qcM rows=res at *;obtain⟨ds,ms⟩:=res;dsimp only at B8 M8 g lv fm gle mw rb rw' wr gls;obtain⟨bs,hb8,ndb⟩:=id B8;refine⟨_,rfl,b,_,rfl,.inl (SqL.of hb8),_,_,rfl,rfl,_,rfl,?_⟩;have lb:(((bs.map V.ref).length:Nat):Int)=ds.length:=by rw[qA,ndb.length]
  rw[qC (by omega:¬(60:Int)<(((bs.map V.ref).length:Nat):Int))];refine iteF ?_;refine⟨_,rfl,b,ds,_,rfl,B8,λd hd=>raw_form (fm d hd),by omega,.inl ⟨g,λp' H9 hp' s9 bn=>?_⟩⟩;refine⟨_,rfl,bkD ds,bkD ds,qg8 (BookNew.at bn),qg8 (BookAt.same B8 s9),qiV fm,qiV fm,λ_=>⟨_,rfl,iteF ?_⟩,λz=>absurd rfl z⟩;refine⟨_,rfl,_,rfl,R,_,rfl,.inl (SqL.of (s9 _ _ hR8)),m,rows.length,ms,_,by show[V.ref m,V.int _]=_;rw[qA],qeW M8 s9,mw,λH10 s10=>⟨_,rfl,iteF ?_⟩⟩;have s910:=s9.trans s10;refine⟨_,rfl,b,ds,L,_,rfl,BookAt.same B8 s910,by omega,fm,lv,λl H11 hl s11 el=>?_⟩;have s811:=s910.trans s11;obtain⟨us,hm11,pr11⟩:=qeW M8 s811;have hR11:=s811 _ _ hR8;have B11:=BookAt.same B8 s811;have lowR:∀x∈rows,Low x:=λx hx=>(hrow x hx).1
  have lowA:∀x∈qbJ L ds ds.length,Low x:=λx hx=>(gls x hx).low
  refine⟨_,rfl,by show 0<=sizeLine;decide,λe he=>?_⟩;have s12:=qac he (.lst []);refine⟨.list (ms.map mdD),.list [],.lst (s12 _ _ hm11) (mds_in (pr11.mono λv p h=>MdAt.keep h s12.keep λ_ n _=>n)),.lst upd_same .nil,mds_ok (λp hp=>(mw p hp).1),rfl,λz=>?_,λz=>?_⟩
  ·have hms:ms=[]:=by injection z with z;exact List.map_eq_nil_iff.mp z
   have hrows:=rb hms;refine⟨_,rfl,_,rfl,.list (rows.map Dat.str),.list ((qbJ L ds ds.length).map Dat.str),.lst (s12 _ _ hR11) (qeA _),.lst (s12 _ _ el) (qeA _),strs_ok lowR,strs_ok lowA,λ_=>⟨rfl,_,rfl,?_⟩,λz=>absurd (by rw[<-hrows]) z⟩;refine iteF ?_;refine⟨_,rfl,l,_,rfl,s12 _ _ el,by rw[qdG];omega,gls,λt2 b2 m2 H14 s14 ht2 et2 hb2 B14 hm2 M14 nb2=>?_⟩;rw[wr]at B14 M14;have k14:=s12.trans s14;refine⟨_,rfl,by show 0<=sizeLine;decide,λe2 he2=>⟨by show 2<=sizeLine;decide,λt3 ht3=>?_⟩⟩;have k15:=qac he2 (.lst []);have k16:=qac ht3 (.tup [.ref b,.ref e2]);have k56:=k15.trans k16;exact⟨.tuple [bkD ds,.list []],.tuple [bkD ds,.list []],.tup (k56 _ _ et2) (.cons (qg8 (BookAt.same B14 k56)) (.cons (.lst (k56 _ _ (qiF M14)) .nil) .nil)),.tup upd_same (.cons (qg8 (BookAt.same B11 (k14.trans k56))) (.cons (.lst (k16 _ _ upd_same) .nil) .nil)),qe7 fm,qe7 fm,λ_=>q _,λz=>absurd rfl z⟩
  ·refine⟨_,rfl,_,rfl,.list (rows.map Dat.str),.list ((qbJ L ds ds.length).map Dat.str),.lst (s12 _ _ hR11) (qeA _),.lst (s12 _ _ el) (qeA _),strs_ok lowR,strs_ok lowA,λz2=>absurd (rw' (strs_inj z2)) (λy=>z (by rw[y];rfl)),λ_=>⟨rfl,_,rfl,?_⟩⟩;refine iteF ?_;refine⟨_,rfl,l,_,rfl,s12 _ _ el,by rw[qdG];omega,gls,λt2 b2 m2 H14 s14 ht2 et2 hb2 B14 hm2 M14 nb2=>?_⟩;rw[wr]at B14 M14;have k14:=s12.trans s14;refine⟨_,rfl,by show 0<=sizeLine;decide,λe2 he2=>⟨by show 2<=sizeLine;decide,λt3 ht3=>?_⟩⟩;have k15:=qac he2 (.lst []);have k16:=qac ht3 (.tup [.ref b,.ref e2]);have k56:=k15.trans k16;exact⟨.tuple [bkD ds,.list []],.tuple [bkD ds,.list []],.tup (k56 _ _ et2) (.cons (qg8 (BookAt.same B14 k56)) (.cons (.lst (k56 _ _ (qiF M14)) .nil) .nil)),.tup upd_same (.cons (qg8 (BookAt.same B11 (k14.trans k56))) (.cons (.lst (k16 _ _ upd_same) .nil) .nil)),qe7 fm,qe7 fm,λ_=>q _,λz=>absurd rfl z⟩
end
end K10
namespace K10
open PySem L2 Bk Gen
theorem qbY{K:W.Frag}{a:Addr}{od:Option Addr}{its:Array Value}{n:Nat}{sl:Array (Option Value)}{H:Hp}{ks:List Kd}(l:K.lookup a=some ⟨.type "tuple",od,.seq its n,sl⟩)(z:its.size<=sizeLine)(v:Vals (ks.map λk=>V.str k.s) its.toList):SqT K H a (ks.map λk=>V.str k.s) :=
 .inr ⟨_,its,n,l,rfl,rfl,z,v⟩
theorem qcA{k:Key}{v:Value}{r:List (Key×Value)}:valueAt ((k,v)::r) k=some v:=by simp[valueAt]
theorem qb1{k k':Key}{v:Value}{r:List (Key×Value)}(h:k'≠k):valueAt ((k',v)::r) k=valueAt r k:=by simp[valueAt,h]
theorem keys9{P:Program}{w:World}{x1 x2 x3 x4 x5 x6 x7 x8 x9:Str}{t1 t2 t3 t4 t5 t6 t7 t8 t9:Tok}{v1 v2 v3 v4 v5 v6 v7 v8 v9:Value}{e:DictEntry}(h:e∈#[⟨PyData.keyHash w.params x1,.str x1 t1,v1⟩,⟨PyData.keyHash w.params x2,.str x2 t2,v2⟩,⟨PyData.keyHash w.params x3,.str x3 t3,v3⟩,⟨PyData.keyHash w.params x4,.str x4 t4,v4⟩,⟨PyData.keyHash w.params x5,.str x5 t5,v5⟩,⟨PyData.keyHash w.params x6,.str x6 t6,v6⟩,⟨PyData.keyHash w.params x7,.str x7 t7,v7⟩,⟨PyData.keyHash w.params x8,.str x8 t8,v8⟩,⟨PyData.keyHash w.params x9,.str x9 t9,v9⟩]) :
  ∃k,(qbg P w).is k e.key=true/\e.hash=(qbg P w).hash k:=by
 simp only[List.mem_toArray,List.mem_cons,List.not_mem_nil,or_false]at h;rcases h with rfl | rfl | rfl | rfl | rfl | rfl | rfl | rfl | rfl<;>exact⟨.inr _,qaU _ _ _ _,rfl⟩
open PySem.W
structure At(K:Frag)(n:Str)(st:Stmt)(f:Addr)(fd:FuncData):Prop where
 a:nsIn K mainGlobals n=some (some (.ref f))
 d:FunD K n n st f fd
 f:Fun K n n st f fd
theorem at_mk{K:Frag}{n:Str}{st:Stmt}{f:Addr}{oc:Value}{od an:Option Addr}{sl:Array (Option Value)}{kV dc pm cd ct:Value}(a:nsIn K mainGlobals n=some (some (.ref f)))(l:K.lookup f=some ⟨oc,od,.func (fnOf n n (qbG st) (qbk st) (qaf st) .none kV dc pm an cd ct),sl⟩)(e:codeIn K cd n=true)(k:keepIn K (.ref f)=true):At K n st f (fnOf n n (qbG st) (qbk st) (qaf st) .none kV dc pm an cd ct):=⟨a,fund_mk l e k,fun_mk l e k⟩
def Bo(n:Str)(st:Stmt)(ps:List Str):Prop:=∀(kV doc pm:Value) (an:Option Addr) (cdv ct:Value) (us:List Value),us.length=ps.length->bindArgs (fnOf n n (qbG st) (qbk st) (qaf st) .none kV doc pm an cdv ct) ⟨us,[]⟩=pure (ps.zip us)
theorem us_s{n:Nat}{us:List Value}(h:us.length=n+1):∃u r,us=u::r/\r.length=n:=by
 cases us with
 | nil=>cases h
 | cons u r=>exact⟨u,r,rfl,Nat.succ.inj h⟩
theorem bo1{n:Str}{st:Stmt}{p0:Str}(h:∀(kV doc pm:Value) (an:Option Addr) (cdv ct u0:Value),bindArgs (fnOf n n (qbG st) (qbk st) (qaf st) .none kV doc pm an cdv ct) ⟨[u0],[]⟩=pure [(p0,u0)]):Bo n st [p0]:=λkV doc pm an cdv ct us hl=>by
 obtain⟨u0,r0,rfl,h0⟩:=us_s hl;obtain rfl:=rA h0;exact h _ _ _ _ _ _ _
theorem bo2{n:Str}{st:Stmt}{p0 p1:Str}(h:∀(kV doc pm:Value) (an:Option Addr) (cdv ct u0 u1:Value),bindArgs (fnOf n n (qbG st) (qbk st) (qaf st) .none kV doc pm an cdv ct) ⟨[u0,u1],[]⟩=pure [(p0,u0),(p1,u1)]):Bo n st [p0,p1]:=λkV doc pm an cdv ct us hl=>by
 obtain⟨u0,r0,rfl,h0⟩:=us_s hl;obtain⟨u1,r1,rfl,h1⟩:=us_s h0;obtain rfl:=rA h1;exact h _ _ _ _ _ _ _ _
theorem bo3{n:Str}{st:Stmt}{p0 p1 p2:Str}(h:∀(kV doc pm:Value) (an:Option Addr) (cdv ct u0 u1 u2:Value),bindArgs (fnOf n n (qbG st) (qbk st) (qaf st) .none kV doc pm an cdv ct) ⟨[u0,u1,u2],[]⟩=pure [(p0,u0),(p1,u1),(p2,u2)]):Bo n st [p0,p1,p2]:=λkV doc pm an cdv ct us hl=>by
 obtain⟨u0,r0,rfl,h0⟩:=us_s hl;obtain⟨u1,r1,rfl,h1⟩:=us_s h0;obtain⟨u2,r2,rfl,h2⟩:=us_s h1;obtain rfl:=rA h2;exact h _ _ _ _ _ _ _ _ _
theorem bo0{n:Str}{st:Stmt}(h:∀(kV doc pm:Value) (an:Option Addr) (cdv ct:Value),bindArgs (fnOf n n (qbG st) (qbk st) (qaf st) .none kV doc pm an cdv ct) ⟨[],[]⟩=pure []):Bo n st []:=λkV doc pm an cdv ct us hl=>by
 obtain rfl:=rA hl;exact h _ _ _ _ _ _
theorem fx_mk{P:Program}{w:World}{K:Frag}{mg:Str->Option Value}{base h:Heap}(X:K.In h)(G:h.Ns mainGlobals mg){n:Str}{st:Stmt}{f:Addr}{fd:FuncData}{CX:CXT}{k:Nat}{ps:List Str}{sp:Sp}(A:At K n st f fd)(o:FnOk P w K mg base CX k f fd ps sp)(b:Bo n st ps:=by first | exact bo0 (by intros;rfl) | exact bo1 (by intros;rfl) | exact bo2 (by intros;rfl) | exact bo3 (by intros;rfl)):Fx P w K mg base CX k n ps sp:=⟨_,_,o,A.f.binds b,A.f.kp,mg_of X G A.a⟩
theorem all_mk{l:OpenLaw}{w:World}{K:Frag}{h:Heap}{mg:Str->Option Value}{fa f1 f2 f3 f4 f5 f6 f7 f8 f9 f10 f11 f12 f13 f14 f15 f16 f17 f18 f19 f20 f21 f22 f23 f24 f25 f26 f27 f28 f29 f30 f31 f32 f33 f34 f35 f36 f37 f38 f39 f40 f41 f42 f43 f44 f45 f46 f47 f48 f49 f50 f51 f52 f53 f54 f55 f56 f57 f58 f59 f60 f61 f62 f63 C CN:Addr}{d1 d2 d3 d4 d5 d6 d7 d8 d9 d10 d11 d12 d13 d14 d15 d16 d17 d18 d19 d20 d21 d22 d23 d24 d25 d26 d27 d28 d29 d30 d31 d32 d33 d34 d35 d36 d37 d38 d39 d40 d41 d42 d43 d44 d45 d46 d47 d48 d49 d50 d51 d52 d53 d54 d55 d56 d57 d58 d59 d60 d61 d62 d63:FuncData}(X:K.In h)(G:h.Ns mainGlobals mg)(hfa:mg "law" = some (.ref fa)){t_ELDER t_KIND t_NAME t_MARKS t_STUFF t_SORT t_THING t_TONE t_MOST_WORD_SIGNS t_MOST_NAME_SIGNS t_MOST_NODES t_MOST_MARKS t_MOST_PIECES t_GREATEST_LEVEL t_GREATEST_TONE t_GREATEST_PICTURE t_LEVEL t_MOST_SIDE_FIGURES t_BEHIND_ALL_ROWS:Tok}{q_KINDS q_KINDS_OF_PIECES q_KINDS_NEVER_EMPTY q_MAY q_m_body q_m_case q_m_shelf q_m_grid q_m_text q_m_head q_m_picture q_m_aside q_m_note:Addr}{tk_KINDS_0 tk_KINDS_1 tk_KINDS_2 tk_KINDS_3 tk_KINDS_4 tk_KINDS_5 tk_KINDS_6 tk_KINDS_7 tk_KINDS_8 tk_KINDS_OF_PIECES_0 tk_KINDS_OF_PIECES_1 tk_KINDS_OF_PIECES_2 tk_KINDS_NEVER_EMPTY_0 tk_KINDS_NEVER_EMPTY_1 tk_KINDS_NEVER_EMPTY_2 tk_KINDS_NEVER_EMPTY_3 tk_key_body tk_key_case tk_key_shelf tk_key_grid tk_key_text tk_key_head tk_key_picture tk_key_aside tk_key_note tk_m_body_0 tk_m_body_1 tk_m_body_2 tk_m_body_3 tk_m_body_4 tk_m_body_5 tk_m_body_6 tk_m_case_0 tk_m_case_1 tk_m_case_2 tk_m_case_3 tk_m_case_4 tk_m_case_5 tk_m_case_6 tk_m_shelf_0 tk_m_shelf_1 tk_m_shelf_2 tk_m_shelf_3 tk_m_shelf_4 tk_m_grid_0 tk_m_grid_1 tk_m_grid_2 tk_m_grid_3 tk_m_grid_4 tk_m_text_0 tk_m_head_0 tk_m_aside_0 tk_m_aside_1 tk_m_aside_2 tk_m_aside_3 tk_m_aside_4 tk_m_aside_5 tt_SMALL_LETTERS tt_GREAT_LETTERS tt_FIGURES tt_WORD_POINTS:Tok}{n_KINDS_ n_KINDS_OF_PIECES_ n_KINDS_NEVER_EMPTY_ n_MAY n_m_body_ n_m_case_ n_m_shelf_ n_m_grid_ n_m_text_ n_m_head_ n_m_picture_ n_m_aside_ n_m_note_:Nat}{od_KINDS od_KINDS_OF_PIECES od_KINDS_NEVER_EMPTY od_m_body od_m_case od_m_shelf od_m_grid od_m_text od_m_head od_m_picture od_m_aside od_m_note:Option Addr}{sl_KINDS sl_KINDS_OF_PIECES sl_KINDS_NEVER_EMPTY sl_m_body sl_m_case sl_m_shelf sl_m_grid sl_m_text sl_m_head sl_m_picture sl_m_aside sl_m_note:Array (Option Value)}(A1:At K "is_whole" sIsWhole f1 d1)(A2:At K "is_word_sign" sIsWordSign f2 d2)(A3:At K "is_word" sIsWord f3 d3)(A4:At K "is_name" sIsName f4 d4)(A5:At K "made_book" sMadeBook f5 d5)(A6:At K "copied_node" sCopiedNode f6 d6)(A7:At K "refuse_fault" sRefuseFault f7 d7)(A8:At K "are_unlike" sAreUnlike f8 d8)(A9:At K "form_fault" sFormFault f9 d9)(A10:At K "are_marks" sAreMarks f10 d10)(A11:At K "is_stuff" sIsStuff f11 d11)(A12:At K "are_pieces" sArePieces f12 d12)(A13:At K "is_piece" sIsPiece f13 d13)(A14:At K "tree_fault" sTreeFault f14 d14)(A15:At K "hangs_right" sHangsRight f15 d15)(A16:At K "level_of" sLevel_of f16 d16)(A17:At K "elders_of" sElders f17 d17)(A18:At K "held_fault" sHeldFault f18 d18)(A19:At K "may_hold" sMayHold f19 d19)(A20:At K "note_numbers" sNoteNumbers f20 d20)(A21:At K "holds" sHolds f21 d21)(A22:At K "bare_body" sBareBody f22 d22)(A23:At K "bare_stuff" sBareStuff f23 d23)(A24:At K "mended_level" sMendLevel f24 d24)(A25:At K "open_nodes" sOpen f25 d25)(A26:At K "mended_name" sMendName f26 d26)(A27:At K "mended_marks" sMendMarks f27 d27)(A28:At K "mended_pieces" sMendPieces f28 d28)(A29:At K "notes_at_beginning" sNotesBeg f29 d29)(A30:At K "lacks_notes" sLacks f30 d30)(A31:At K "mended_notes" sMendNotes f31 d31)(A32:At K "numbered_pieces" sNumbered f32 d32)(A33:At K "without_nodes" sWithout f33 d33)(A34:At K "wants_case" sWants f34 d34)(A35:At K "next_kind" sNextKind f35 d35)(A36:At K "mended_kinds" sMendKinds f36 d36)(A37:At K "row_parts" sRowParts f37 d37)(A38:At K "has_stuff" sHasStuff f38 d38)(A39:At K "are_labels" sAreLabels f39 d39)(A40:At K "is_label" sIsLabel f40 d40)(A41:At K "name_label" sNameLabel f41 d41)(A42:At K "mark_labels" sMarkLabels f42 d42)(A43:At K "read_stuff" sReadStuff f43 d43)(A44:At K "read_side" sReadSide f44 d44)(A45:At K "read_piece" sReadPiece f45 d45)(A46:At K "read_book" sReadBook f46 d46)(A47:At K "read_row" sReadRow f47 d47)(A48:At K "first_nodes" sFirst f48 d48)(A49:At K "later_nodes" sLater f49 d49)(A50:At K "level_words" sLevelWords f50 d50)(A51:At K "made_node" sMadeNode f51 d51)(A52:At K "finished_book" sFinished f52 d52)(A53:At K "book_rows" sBook_rows f53 d53)(A54:At K "node_row" sNode_row f54 d54)(A55:At K "stuff_words" sStuff_words f55 d55)(A56:At K "piece_word" sPiece_word f56 d56)(A57:At K "_law_stream" sStream f57 d57)(A58:At K "_law_take" sTake f58 d58)(A59:At K "_law_pieces" sPiecesD f59 d59)(A60:At K "_law_row" sRowD f60 d60)(A61:At K "_law_spoiled" sSpoiled f61 d61)(A62:At K "_law_mends" sMendsL f62 d62)(A63:At K "law" sLaw f63 d63)(c_C:nsIn K mainGlobals "NoBook" = some (some (.ref C)))(c_CN:nsIn K mainGlobals "NoNode" = some (some (.ref CN)))(xc:excIn K C [.type "ValueError",.type "Exception",.type "BaseException",.type "object"] "ValueError.__new__" = true)(xcN:excIn K CN [.type "ValueError",.type "Exception",.type "BaseException",.type "object"] "ValueError.__new__" = true)(x_KINDS:nsIn K mainGlobals "KINDS" = some (some (.ref q_KINDS)))(l_KINDS:K.lookup q_KINDS=some ⟨.type "tuple",od_KINDS,.seq #[.str (Str.ofString "body") tk_KINDS_0,.str (Str.ofString "case") tk_KINDS_1,.str (Str.ofString "shelf") tk_KINDS_2,.str (Str.ofString "grid") tk_KINDS_3,.str (Str.ofString "text") tk_KINDS_4,.str (Str.ofString "head") tk_KINDS_5,.str (Str.ofString "picture") tk_KINDS_6,.str (Str.ofString "aside") tk_KINDS_7,.str (Str.ofString "note") tk_KINDS_8] n_KINDS_,sl_KINDS⟩)(x_KINDS_OF_PIECES:nsIn K mainGlobals "KINDS_OF_PIECES" = some (some (.ref q_KINDS_OF_PIECES)))(l_KINDS_OF_PIECES:K.lookup q_KINDS_OF_PIECES=some ⟨.type "tuple",od_KINDS_OF_PIECES,.seq #[.str (Str.ofString "text") tk_KINDS_OF_PIECES_0,.str (Str.ofString "head") tk_KINDS_OF_PIECES_1,.str (Str.ofString "note") tk_KINDS_OF_PIECES_2] n_KINDS_OF_PIECES_,sl_KINDS_OF_PIECES⟩)(x_KINDS_NEVER_EMPTY:nsIn K mainGlobals "KINDS_NEVER_EMPTY" = some (some (.ref q_KINDS_NEVER_EMPTY)))(l_KINDS_NEVER_EMPTY:K.lookup q_KINDS_NEVER_EMPTY=some ⟨.type "tuple",od_KINDS_NEVER_EMPTY,.seq #[.str (Str.ofString "body") tk_KINDS_NEVER_EMPTY_0,.str (Str.ofString "shelf") tk_KINDS_NEVER_EMPTY_1,.str (Str.ofString "grid") tk_KINDS_NEVER_EMPTY_2,.str (Str.ofString "aside") tk_KINDS_NEVER_EMPTY_3] n_KINDS_NEVER_EMPTY_,sl_KINDS_NEVER_EMPTY⟩)(x_MAY:nsIn K mainGlobals "MAY_HOLD" = some (some (.ref q_MAY)))(l_MAY:K.lookup q_MAY=some ⟨.type "dict",none,.dict #[⟨PyData.keyHash w.params (Str.ofString "body"),.str (Str.ofString "body") tk_key_body,.ref q_m_body⟩,⟨PyData.keyHash w.params (Str.ofString "case"),.str (Str.ofString "case") tk_key_case,.ref q_m_case⟩,⟨PyData.keyHash w.params (Str.ofString "shelf"),.str (Str.ofString "shelf") tk_key_shelf,.ref q_m_shelf⟩,⟨PyData.keyHash w.params (Str.ofString "grid"),.str (Str.ofString "grid") tk_key_grid,.ref q_m_grid⟩,⟨PyData.keyHash w.params (Str.ofString "text"),.str (Str.ofString "text") tk_key_text,.ref q_m_text⟩,⟨PyData.keyHash w.params (Str.ofString "head"),.str (Str.ofString "head") tk_key_head,.ref q_m_head⟩,⟨PyData.keyHash w.params (Str.ofString "picture"),.str (Str.ofString "picture") tk_key_picture,.ref q_m_picture⟩,⟨PyData.keyHash w.params (Str.ofString "aside"),.str (Str.ofString "aside") tk_key_aside,.ref q_m_aside⟩,⟨PyData.keyHash w.params (Str.ofString "note"),.str (Str.ofString "note") tk_key_note,.ref q_m_note⟩] n_MAY,#[]⟩)(l_m_body:K.lookup q_m_body=some ⟨.type "tuple",od_m_body,.seq #[.str (Str.ofString "case") tk_m_body_0,.str (Str.ofString "shelf") tk_m_body_1,.str (Str.ofString "grid") tk_m_body_2,.str (Str.ofString "text") tk_m_body_3,.str (Str.ofString "head") tk_m_body_4,.str (Str.ofString "picture") tk_m_body_5,.str (Str.ofString "aside") tk_m_body_6] n_m_body_,sl_m_body⟩)(l_m_case:K.lookup q_m_case=some ⟨.type "tuple",od_m_case,.seq #[.str (Str.ofString "case") tk_m_case_0,.str (Str.ofString "shelf") tk_m_case_1,.str (Str.ofString "grid") tk_m_case_2,.str (Str.ofString "text") tk_m_case_3,.str (Str.ofString "head") tk_m_case_4,.str (Str.ofString "picture") tk_m_case_5,.str (Str.ofString "aside") tk_m_case_6] n_m_case_,sl_m_case⟩)(l_m_shelf:K.lookup q_m_shelf=some ⟨.type "tuple",od_m_shelf,.seq #[.str (Str.ofString "case") tk_m_shelf_0,.str (Str.ofString "shelf") tk_m_shelf_1,.str (Str.ofString "grid") tk_m_shelf_2,.str (Str.ofString "text") tk_m_shelf_3,.str (Str.ofString "picture") tk_m_shelf_4] n_m_shelf_,sl_m_shelf⟩)(l_m_grid:K.lookup q_m_grid=some ⟨.type "tuple",od_m_grid,.seq #[.str (Str.ofString "case") tk_m_grid_0,.str (Str.ofString "shelf") tk_m_grid_1,.str (Str.ofString "grid") tk_m_grid_2,.str (Str.ofString "text") tk_m_grid_3,.str (Str.ofString "picture") tk_m_grid_4] n_m_grid_,sl_m_grid⟩)(l_m_text:K.lookup q_m_text=some ⟨.type "tuple",od_m_text,.seq #[.str (Str.ofString "note") tk_m_text_0] n_m_text_,sl_m_text⟩)(l_m_head:K.lookup q_m_head=some ⟨.type "tuple",od_m_head,.seq #[.str (Str.ofString "note") tk_m_head_0] n_m_head_,sl_m_head⟩)(l_m_picture:K.lookup q_m_picture=some ⟨.type "tuple",od_m_picture,.seq #[] n_m_picture_,sl_m_picture⟩)(l_m_aside:K.lookup q_m_aside=some ⟨.type "tuple",od_m_aside,.seq #[.str (Str.ofString "case") tk_m_aside_0,.str (Str.ofString "shelf") tk_m_aside_1,.str (Str.ofString "grid") tk_m_aside_2,.str (Str.ofString "text") tk_m_aside_3,.str (Str.ofString "head") tk_m_aside_4,.str (Str.ofString "picture") tk_m_aside_5] n_m_aside_,sl_m_aside⟩)(l_m_note:K.lookup q_m_note=some ⟨.type "tuple",od_m_note,.seq #[] n_m_note_,sl_m_note⟩)(g_SMALL_LETTERS:nsIn K mainGlobals "SMALL_LETTERS" = some (some (.str (Str.ofString "abcdefghijklmnopqrstuvwxyz") tt_SMALL_LETTERS)))(g_GREAT_LETTERS:nsIn K mainGlobals "GREAT_LETTERS" = some (some (.str (Str.ofString "ABCDEFGHIJKLMNOPQRSTUVWXYZ") tt_GREAT_LETTERS)))(g_FIGURES:nsIn K mainGlobals "FIGURES" = some (some (.str (Str.ofString "0123456789") tt_FIGURES)))(g_WORD_POINTS:nsIn K mainGlobals "WORD_POINTS" = some (some (.str (Str.ofString ".,-;:'()!?") tt_WORD_POINTS)))(n_isinstance:nsIn K mainGlobals "isinstance" = some none)(n_len:nsIn K mainGlobals "len" = some none)(n_range:nsIn K mainGlobals "range" = some none)(n_sorted:nsIn K mainGlobals "sorted" = some none)(n_int:nsIn K mainGlobals "int" = some none)(n_bool:nsIn K mainGlobals "bool" = some none)(n_list:nsIn K mainGlobals "list" = some none)(n_tuple:nsIn K mainGlobals "tuple" = some none)(n_str:nsIn K mainGlobals "str" = some none)(n_set:nsIn K mainGlobals "set" = some none)(n_enumerate:nsIn K mainGlobals "enumerate" = some none)(n_all:nsIn K mainGlobals "all" = some none)(n_ValueError:nsIn K mainGlobals "ValueError" = some none)(n_min:nsIn K mainGlobals "min" = some none)(n_max:nsIn K mainGlobals "max" = some none)(n_reversed:nsIn K mainGlobals "reversed" = some none)(i_ELDER:nsIn K mainGlobals "ELDER" = some (some (.int 0 t_ELDER)))(i_KIND:nsIn K mainGlobals "KIND" = some (some (.int 1 t_KIND)))(i_NAME:nsIn K mainGlobals "NAME" = some (some (.int 2 t_NAME)))(i_MARKS:nsIn K mainGlobals "MARKS" = some (some (.int 3 t_MARKS)))(i_STUFF:nsIn K mainGlobals "STUFF" = some (some (.int 4 t_STUFF)))(i_SORT:nsIn K mainGlobals "SORT" = some (some (.int 0 t_SORT)))(i_THING:nsIn K mainGlobals "THING" = some (some (.int 1 t_THING)))(i_TONE:nsIn K mainGlobals "TONE" = some (some (.int 2 t_TONE)))(i_MOST_WORD_SIGNS:nsIn K mainGlobals "MOST_WORD_SIGNS" = some (some (.int 20 t_MOST_WORD_SIGNS)))(i_MOST_NAME_SIGNS:nsIn K mainGlobals "MOST_NAME_SIGNS" = some (some (.int 8 t_MOST_NAME_SIGNS)))(i_MOST_NODES:nsIn K mainGlobals "MOST_NODES" = some (some (.int 60 t_MOST_NODES)))(i_MOST_MARKS:nsIn K mainGlobals "MOST_MARKS" = some (some (.int 4 t_MOST_MARKS)))(i_MOST_PIECES:nsIn K mainGlobals "MOST_PIECES" = some (some (.int 60 t_MOST_PIECES)))(i_GREATEST_LEVEL:nsIn K mainGlobals "GREATEST_LEVEL" = some (some (.int 6 t_GREATEST_LEVEL)))(i_GREATEST_TONE:nsIn K mainGlobals "GREATEST_TONE" = some (some (.int 3 t_GREATEST_TONE)))(i_GREATEST_PICTURE:nsIn K mainGlobals "GREATEST_PICTURE" = some (some (.int 2000 t_GREATEST_PICTURE)))(i_LEVEL:nsIn K mainGlobals "LEVEL" = some (some (.int 0 t_LEVEL)))(i_MOST_SIDE_FIGURES:nsIn K mainGlobals "MOST_SIDE_FIGURES" = some (some (.int 4 t_MOST_SIDE_FIGURES)))(i_BEHIND_ALL_ROWS:nsIn K mainGlobals "BEHIND_ALL_ROWS" = some (some (.int (-1) t_BEHIND_ALL_ROWS))): ∃fd:FuncData,(∀(s:Shared) (v:Value),BindsTo s fd ⟨[v],[]⟩ [("_law_script",v)])/\∀base:Heap,K.In base->base.Ns mainGlobals mg->FnOk l.prog w K mg base CX0 10 fa fd ["_law_script"] (qic K):=by
 have e0:=hfa.symm.trans (mg_of X G A63.a);cases e0;have m_C:=mg_of X G c_C;have m_CN:=mg_of X G c_CN;have z_isinstance:=yH X G n_isinstance;have z_len:=yH X G n_len;have z_range:=yH X G n_range;have z_sorted:=yH X G n_sorted;have z_int:=yH X G n_int;have z_bool:=yH X G n_bool;have z_list:=yH X G n_list;have z_tuple:=yH X G n_tuple;have z_str:=yH X G n_str;have z_set:=yH X G n_set;have z_enumerate:=yH X G n_enumerate;have z_all:=yH X G n_all;have z_ValueError:=yH X G n_ValueError;have z_min:=yH X G n_min;have z_max:=yH X G n_max;have z_reversed:=yH X G n_reversed;have j_ELDER:=mg_of X G i_ELDER;have j_KIND:=mg_of X G i_KIND;have j_NAME:=mg_of X G i_NAME;have j_MARKS:=mg_of X G i_MARKS;have j_STUFF:=mg_of X G i_STUFF;have j_SORT:=mg_of X G i_SORT;have j_THING:=mg_of X G i_THING;have j_TONE:=mg_of X G i_TONE;have j_MOST_WORD_SIGNS:=mg_of X G i_MOST_WORD_SIGNS;have j_MOST_NAME_SIGNS:=mg_of X G i_MOST_NAME_SIGNS;have j_MOST_NODES:=mg_of X G i_MOST_NODES;have j_MOST_MARKS:=mg_of X G i_MOST_MARKS;have j_MOST_PIECES:=mg_of X G i_MOST_PIECES;have j_GREATEST_LEVEL:=mg_of X G i_GREATEST_LEVEL;have j_GREATEST_TONE:=mg_of X G i_GREATEST_TONE;have j_GREATEST_PICTURE:=mg_of X G i_GREATEST_PICTURE;have j_LEVEL:=mg_of X G i_LEVEL;have j_MOST_SIDE_FIGURES:=mg_of X G i_MOST_SIDE_FIGURES;have j_BEHIND_ALL_ROWS:=mg_of X G i_BEHIND_ALL_ROWS;have T:Bn mg:=⟨z_isinstance,z_len,z_range,z_sorted,z_int,z_bool,z_list,z_tuple,z_str,z_set,z_enumerate,z_all,z_ValueError⟩;have U:Nums mg:=⟨⟨_,j_ELDER⟩,⟨_,j_KIND⟩,⟨_,j_NAME⟩,⟨_,j_MARKS⟩,⟨_,j_STUFF⟩,⟨_,j_SORT⟩,⟨_,j_THING⟩,⟨_,j_TONE⟩⟩;have GL:Glob mg:=⟨⟨_,mg_of X G g_SMALL_LETTERS⟩,⟨_,mg_of X G g_GREAT_LETTERS⟩,⟨_,mg_of X G g_FIGURES⟩,⟨_,mg_of X G g_WORD_POINTS⟩,⟨_,j_MOST_WORD_SIGNS⟩,⟨_,j_MOST_NAME_SIGNS⟩,⟨_,j_MOST_NODES⟩,⟨_,j_MOST_MARKS⟩,⟨_,j_MOST_PIECES⟩,⟨_,j_GREATEST_LEVEL⟩,⟨_,j_GREATEST_TONE⟩,⟨_,j_GREATEST_PICTURE⟩⟩;have kt_KINDS:KTup K q_KINDS [.body,.case,.shelf,.grid,.text,.head,.picture,.aside,.note]:=λH=>qbY (ks:=[.body,.case,.shelf,.grid,.text,.head,.picture,.aside,.note]) l_KINDS (by show 9<=sizeLine;decide) (.cons ⟨_,rfl⟩ ( .cons ⟨_,rfl⟩ ( .cons ⟨_,rfl⟩ ( .cons ⟨_,rfl⟩ ( .cons ⟨_,rfl⟩ ( .cons ⟨_,rfl⟩ ( .cons ⟨_,rfl⟩ ( .cons ⟨_,rfl⟩ ( .cons ⟨_,rfl⟩ (.nil))))))))))
 have mg_KINDS:=mg_of X G x_KINDS;have kt_KINDS_OF_PIECES:KTup K q_KINDS_OF_PIECES [.text,.head,.note]:=λH=>qbY (ks:=[.text,.head,.note]) l_KINDS_OF_PIECES (by show 3<=sizeLine;decide) (.cons ⟨_,rfl⟩ ( .cons ⟨_,rfl⟩ ( .cons ⟨_,rfl⟩ (.nil))))
 have mg_KINDS_OF_PIECES:=mg_of X G x_KINDS_OF_PIECES;have kt_KINDS_NEVER_EMPTY:KTup K q_KINDS_NEVER_EMPTY [.body,.shelf,.grid,.aside]:=λH=>qbY (ks:=[.body,.shelf,.grid,.aside]) l_KINDS_NEVER_EMPTY (by show 4<=sizeLine;decide) (.cons ⟨_,rfl⟩ ( .cons ⟨_,rfl⟩ ( .cons ⟨_,rfl⟩ ( .cons ⟨_,rfl⟩ (.nil)))))
 have mg_KINDS_NEVER_EMPTY:=mg_of X G x_KINDS_NEVER_EMPTY;have kt_m_body:KTup K q_m_body [.case,.shelf,.grid,.text,.head,.picture,.aside]:=λH=>qbY (ks:=[.case,.shelf,.grid,.text,.head,.picture,.aside]) l_m_body (by show 7<=sizeLine;decide) (.cons ⟨_,rfl⟩ ( .cons ⟨_,rfl⟩ ( .cons ⟨_,rfl⟩ ( .cons ⟨_,rfl⟩ ( .cons ⟨_,rfl⟩ ( .cons ⟨_,rfl⟩ ( .cons ⟨_,rfl⟩ (.nil))))))))
 have kt_m_case:KTup K q_m_case [.case,.shelf,.grid,.text,.head,.picture,.aside]:=λH=>qbY (ks:=[.case,.shelf,.grid,.text,.head,.picture,.aside]) l_m_case (by show 7<=sizeLine;decide) (.cons ⟨_,rfl⟩ ( .cons ⟨_,rfl⟩ ( .cons ⟨_,rfl⟩ ( .cons ⟨_,rfl⟩ ( .cons ⟨_,rfl⟩ ( .cons ⟨_,rfl⟩ ( .cons ⟨_,rfl⟩ (.nil))))))))
 have kt_m_shelf:KTup K q_m_shelf [.case,.shelf,.grid,.text,.picture]:=λH=>qbY (ks:=[.case,.shelf,.grid,.text,.picture]) l_m_shelf (by show 5<=sizeLine;decide) (.cons ⟨_,rfl⟩ ( .cons ⟨_,rfl⟩ ( .cons ⟨_,rfl⟩ ( .cons ⟨_,rfl⟩ ( .cons ⟨_,rfl⟩ (.nil))))))
 have kt_m_grid:KTup K q_m_grid [.case,.shelf,.grid,.text,.picture]:=λH=>qbY (ks:=[.case,.shelf,.grid,.text,.picture]) l_m_grid (by show 5<=sizeLine;decide) (.cons ⟨_,rfl⟩ ( .cons ⟨_,rfl⟩ ( .cons ⟨_,rfl⟩ ( .cons ⟨_,rfl⟩ ( .cons ⟨_,rfl⟩ (.nil))))))
 have kt_m_text:KTup K q_m_text [.note]:=λH=>qbY (ks:=[.note]) l_m_text (by show 1<=sizeLine;decide) (.cons ⟨_,rfl⟩ (.nil))
 have kt_m_head:KTup K q_m_head [.note]:=λH=>qbY (ks:=[.note]) l_m_head (by show 1<=sizeLine;decide) (.cons ⟨_,rfl⟩ (.nil))
 have kt_m_picture:KTup K q_m_picture []:=λH=>qbY (ks:=[]) l_m_picture (by show 0<=sizeLine;decide) (.nil)
 have kt_m_aside:KTup K q_m_aside [.case,.shelf,.grid,.text,.head,.picture]:=λH=>qbY (ks:=[.case,.shelf,.grid,.text,.head,.picture]) l_m_aside (by show 6<=sizeLine;decide) (.cons ⟨_,rfl⟩ ( .cons ⟨_,rfl⟩ ( .cons ⟨_,rfl⟩ ( .cons ⟨_,rfl⟩ ( .cons ⟨_,rfl⟩ ( .cons ⟨_,rfl⟩ (.nil)))))))
 have kt_m_note:KTup K q_m_note []:=λH=>qbY (ks:=[]) l_m_note (by show 0<=sizeLine;decide) (.nil)
 have mg_MAY:=mg_of X G x_MAY;have MD:MayX l.prog w K q_MAY:=by
  refine⟨[(.inr Kd.body.s,.ref q_m_body),(.inr Kd.case.s,.ref q_m_case),(.inr Kd.shelf.s,.ref q_m_shelf),(.inr Kd.grid.s,.ref q_m_grid),(.inr Kd.text.s,.ref q_m_text),(.inr Kd.head.s,.ref q_m_head),(.inr Kd.picture.s,.ref q_m_picture),(.inr Kd.aside.s,.ref q_m_aside),(.inr Kd.note.s,.ref q_m_note)],⟨_,_,_,l_MAY,⟨rfl,rfl,rfl⟩,rfl,λe he=>keys9 he,(.cons (qaU _ _ _ _) rfl ( .cons (qaU _ _ _ _) rfl ( .cons (qaU _ _ _ _) rfl ( .cons (qaU _ _ _ _) rfl ( .cons (qaU _ _ _ _) rfl ( .cons (qaU _ _ _ _) rfl ( .cons (qaU _ _ _ _) rfl ( .cons (qaU _ _ _ _) rfl ( .cons (qaU _ _ _ _) rfl (.nil)))))))))),(by show([.inr Kd.body.s,.inr Kd.case.s,.inr Kd.shelf.s,.inr Kd.grid.s,.inr Kd.text.s,.inr Kd.head.s,.inr Kd.picture.s,.inr Kd.aside.s,.inr Kd.note.s]:List Key).Nodup;ac_rfl)⟩,λe he=>?_⟩;have he':e=.body\/e=.case\/e=.shelf\/e=.grid\/e=.text\/e=.head\/e=.picture\/e=.aside\/e=.note:=by simpa[kindsAll]using he
  rcases he' with rfl | rfl | rfl | rfl | rfl | rfl | rfl | rfl | rfl
  ·exact⟨q_m_body,_,by(repeat (first | exact qcA | rw[qb1 (by ac_rfl)])),kt_m_body,λk=>by cases k<;>rfl⟩
  ·exact⟨q_m_case,_,by(repeat (first | exact qcA | rw[qb1 (by ac_rfl)])),kt_m_case,λk=>by cases k<;>rfl⟩
  ·exact⟨q_m_shelf,_,by(repeat (first | exact qcA | rw[qb1 (by ac_rfl)])),kt_m_shelf,λk=>by cases k<;>rfl⟩
  ·exact⟨q_m_grid,_,by(repeat (first | exact qcA | rw[qb1 (by ac_rfl)])),kt_m_grid,λk=>by cases k<;>rfl⟩
  ·exact⟨q_m_text,_,by(repeat (first | exact qcA | rw[qb1 (by ac_rfl)])),kt_m_text,λk=>by cases k<;>rfl⟩
  ·exact⟨q_m_head,_,by(repeat (first | exact qcA | rw[qb1 (by ac_rfl)])),kt_m_head,λk=>by cases k<;>rfl⟩
  ·exact⟨q_m_picture,_,by(repeat (first | exact qcA | rw[qb1 (by ac_rfl)])),kt_m_picture,λk=>by cases k<;>rfl⟩
  ·exact⟨q_m_aside,_,by(repeat (first | exact qcA | rw[qb1 (by ac_rfl)])),kt_m_aside,λk=>by cases k<;>rfl⟩
  ·exact⟨q_m_note,_,by(repeat (first | exact qcA | rw[qb1 (by ac_rfl)])),kt_m_note,λk=>by cases k<;>rfl⟩
 have TZ:BnZ mg:=⟨T,z_min,z_max,z_reversed⟩;obtain⟨_,_,_,_,_,_,_,_,_,e,_⟩:=A63.f.ex;refine⟨d63,λs v=>by rw[e];exact .of_eq rfl,λbase KB GB=>?_⟩;have fx:=@fx_mk l.prog w K mg base h X G;have OB:=qij KB GB c_C xc;have ON:=qij KB GB c_CN xcN;have x57:=fx A57 (ok_stream A57.f T);have x58:=fx A58 (ok_take A58.f);have x59:=fx A59 (ok_pieces A59.f T x58);have x60:=fx A60 (ok_row A60.f T x58 x59);have x61:=fx A61 (ok_spoiled A61.f T x58);have x4:=fx A4 (ok_is_name A4.f T GL);have x40:=fx A40 (ok_is_label A40.f x4);have x39:=fx A39 (ok_are_labels A39.f T x40);have x38:=fx A38 (ok_has_stuff A38.f mg_KINDS_OF_PIECES kt_KINDS_OF_PIECES);have x44:=fx A44 (ok_read_side A44.f T GL ⟨_,j_MOST_SIDE_FIGURES⟩);have x1:=fx A1 (ok_is_whole A1.f T);have x2:=fx A2 (ok_is_word_sign A2.f GL);have x3:=fx A3 (ok_is_word A3.f T GL x2);have x13:=fx A13 (ok_is_piece A13.f T GL U x1 x3 x4);have x12:=fx A12 (ok_are_pieces A12.f T GL U x13);have x11:=fx A11 (ok_is_stuff A11.f T GL mg_KINDS_OF_PIECES kt_KINDS_OF_PIECES x1 x12);have x45:=fx A45 (ok_read_piece A45.f T x13);have x43:=fx A43 (ok_read_stuff A43.f T x44 x11 x45 x38);have x41:=fx A41 (ok_name_label A41.f T x40);have x42:=fx A42 (ok_mark_labels A42.f x40);have x37:=fx A37 (ok_row_parts A37.f T mg_KINDS kt_KINDS x39 x38 x43 x41 x42);have x17:=fx A17 (ok_elders_of A17.f U.elder);have x25:=fx A25 (ok_open_nodes A25.f TZ x17);have x19:=fx A19 (ok_may_hold A19.f mg_MAY MD);have x24:=fx A24 (ok_mended_level A24.f TZ GL U x25 x19);have x26:=fx A26 (ok_mended_name A26.f U);have x27:=fx A27 (ok_mended_marks A27.f T GL);have x29:=fx A29 (ok_notes_at_beginning A29.f T U);have x28:=fx A28 (ok_mended_pieces A28.f GL U x29);have x23:=fx A23 (ok_bare_stuff A23.f);have x51:=fx A51 (ok_made_node A51.f T U mg_KINDS_OF_PIECES kt_KINDS_OF_PIECES x26 x27 x28 x23);have x50:=fx A50 (ok_level_words A50.f ⟨_,j_LEVEL⟩);have x49:=fx A49 (ok_later_nodes A49.f U ⟨_,j_LEVEL⟩ x24 x25 x51 x50);have x22:=fx A22 (ok_bare_body A22.f);have x48:=fx A48 (ok_first_nodes A48.f U x49 x22 x51 x50);have x47:=fx A47 (ok_read_row A47.f T GL U ⟨_,j_LEVEL⟩ x37 x48 x49);have x20:=fx A20 (ok_note_numbers A20.f U);have x21:=fx A21 (ok_holds A21.d T ⟨_,j_ELDER⟩ ON u4);have x30:=fx A30 (ok_lacks_notes A30.f T U x19 x20 x21);have x32:=fx A32 (ok_numbered_pieces A32.f T GL U);have x33:=fx A33 (ok_without_nodes A33.f T U);have x31:=fx A31 (ok_mended_notes A31.f T U x19 x21 x32 x20 x33);have x35:=fx A35 (ok_next_kind A35.f T U x21);have x34:=fx A34 (ok_wants_case A34.f T U x21 x35);have x36:=fx A36 (ok_mended_kinds A36.f T U x34);have x52:=fx A52 (ok_finished_book A52.f T x22 x30 x31 x34 x36 x21 x23);have x46:=fx A46 (ok_read_book A46.f T ⟨_,j_BEHIND_ALL_ROWS⟩ x47 x52);have x7:=fx A7 (ok_refuse_fault A7.d OB u4);have x10:=fx A10 (ok_are_marks A10.f T GL x4);have x9:=fx A9 (ok_form_fault A9.f T GL U mg_KINDS kt_KINDS x1 x4 x10 x11);have x15:=fx A15 (ok_hangs_right A15.f U x17);have x16:=fx A16 (ok_level_of A16.f T x17);have x14:=fx A14 (ok_tree_fault A14.f U GL x15 x16);have x18:=fx A18 (ok_held_fault A18.f T U mg_KINDS_OF_PIECES kt_KINDS_OF_PIECES mg_KINDS_NEVER_EMPTY kt_KINDS_NEVER_EMPTY x21 x19 x20);have x8:=fx A8 (ok_are_unlike A8.f T);have x6:=fx A6 (ok_copied_node A6.f T U);have x5:=fx A5 (ok_made_book A5.d T GL U OB u4 x7 x9 x14 x18 x8 x6);have x56:=fx A56 (ok_piece_word A56.f U);have x55:=fx A55 (ok_stuff_words A55.f T x56);have x54:=fx A54 (ok_node_row A54.f T U x55);have x53:=fx A53 (ok_book_rows A53.f T x16 x54);have x62:=fx A62 (ok_mends A62.f);exact ok_law A63.f T x57 x58 x60 x61 x46 x5 x53 x62
theorem walk{l:OpenLaw}{q:Program}{loose:List Str}{XP:(Str->Option Value)->Heap->Prop}{YP:World->Heap->Prop}{d:DefRec}{K:Params->Frag}(hn:l.most=some 63)(hdf:d.params.defaults=[])(hY:∀(w:World) (h:Heap),YP w h->(K w.params).In h)(F:∀(w:World) (mg:Str->Option Value) (fa:Addr) (h:Heap),(K w.params).In h->h.Ns mainGlobals mg->mg d.name=some (.ref fa) ->
   ∃fd:FuncData,(∀(s:Shared) (u:Value),BindsTo s fd ⟨[u],[]⟩ [("_law_script",u)])/\∀base:Heap,(K w.params).In base->base.Ns mainGlobals mg->FnOk l.prog w (K w.params) mg base CX0 10 fa fd ["_law_script"] (qic (K w.params))) :
  WalkO q loose XP YP l.row.toRowW d [] (λf vs=>PySem.call f vs) :=
 L2.walk_of (n:=63) (k:=10) (x := "_law_script") (CX:=λ_=>CX0) (sp:=λw=>qic (K w.params)) hn (by decide) hdf ⟨rfl,by decide,by decide⟩ hY F (λ_ _ a ns hl _ hS=>⟨a,ns,rfl,hS,hl,λ_=>rfl⟩) λ_ _ _ _ _ z=>z
end K10
namespace PySem.W.Fast
theorem te14469566344074521778:True:=trivial
def tw14469566344074521778:Unit:=()
def tw521952198586574641:PySem.Program:=PySem.Challenge.pw_leafpress_k10_whole_any_rows_read
theorem te521952198586574641:PySem.Challenge.pw_leafpress_k10_whole_any_rows_read=tw521952198586574641:=rfl
def tw4418159232508395641:=()
def tw12657825795600188919:=()
def tw5756079484553090134:=()
def tw6816386368151330502:=()
def tw8624817118548507174:=()
def tw108908527036640394:=()
def tw10459140782525679785:=()
def tw5583881697422585409:=()
def tw6869094229706813914:=()
def tw7549120605795177305:=()
def tw4753315885724339313:=()
def tw7492540144555885715:=()
def tw15343928066895617121:=()
def tw17560713925224356935:=()
def tw14712919111734347807:=()
def tw15205975155022179688:=()
def tw17093878323891888114:=()
def tw8070451196026097215:=()
def tw17138160308378954130:=()
def tw11792883449459965898:=()
def tw7646310851025479590:=()
def tw2006934869841629503:=()
def tw16609006415171326473:=()
def tw11794811318096554230:=()
def tw12699853548472980324:=()
def tw3658595519383697812:=()
def tw10037922907524589968:=()
def tw12480348668931163804:=()
def tw1115536342613435941:=()
def tw8053551392399213540:=()
def tw13608784229976571719:=()
def tw1315401822372621922:=()
def tw14930424270241845610:=()
def tw1582589001498048711:=()
def tw10161094066214746181:=()
def tw388456096305215886:=()
def tw10409165838449132219:=()
def tw7817621860801301641:=()
def tw5475259281466705409:=()
def tw9203262623630059926:=()
def tw845400257386783488:=()
def tw14033111526169603090:=()
def tw17657712625933411932:=()
def tw10395787176153575297:=()
def tw14566445142776015035:=()
def tw6811458069738980988:=()
def tw15650664816916935068:=()
def tw10968641528044330351:=()
def tw3529185744596118865:=()
def tw13821896968116472829:=()
def tw5740481990315417851:=()
def tw160128896344077366:=()
def tw766186613885730386:=()
def tw13061099766149846465:=()
def tw641518958232152984:=()
def tw10026817234668607088:=()
def tw4949432128531899939:=()
def tw8398304478269927394:=()
def tw1642866947152277443:=()
def tw5289758930167688223:=()
def tw1470485203623858748:=()
def tw17210356432486400503:=()
def tw12302778069036839158:=()
def tw6610276796274054564:=()
def tw9543563743450464613:=()
def tw14099703253015532279:=()
def tw14133458273454083652:=()
def tw3929184062551152263:=()
def tw17961279284923783997:=()
def tw1719227141815706137:=()
def tw112098543539915753:=()
def tw6007362345592121517:=()
def tw17400048301728598389:=()
def tw1580328596955515893:=()
def tw7044866956441112995:=()
def tw76071169369181393:=()
def tw10673949180270115380:=()
def tw16650861267654550800:=()
def tw8563632751519368614:=()
def tw4374304278641868686:=()
def tw10583353582854351810:=()
def tw368418979592926982:=()
def tw9343850932935232514:=()
def tw5859050270592028490:=()
def tw5662442211439259814:=()
def tw18011878204436345435:=()
def tw12703121601220937634:=()
def tw5233412338524006683:=()
def tw3662596068978941705:=()
def tw1274413670658635988:=()
def tw16907024893847096787:=()
def tw4534795357764799861:=()
def tw13963729310728858205:=()
def tw18304721739172957291:=()
def tw5915261997466435312:=()
def tw15074336029747762030:=()
def tw9638058801385837026:=()
def tw9467115081389833426:=()
def tw9344552035345900664:=()
def tw8324809214961221888:=()
def tw7307360332969470041:=()
def tw8566019145123843419:=()
def tw9384822407557686449:=()
def tw13769939739434042558:=()
def tw17369035800325630382:=()
def tw3839082593061021688:=()
def tw4978223538586239228:=()
def tw8210573201532965105:=()
def tw13510841597262932027:=()
def tw7606961694955904405:=()
def tw5466381155171879681:=()
def tw1205948367648509127:=()
def tw17470868308070894738:=()
def tw15314319974350241223:=()
def tw17967057430613643421:=()
def tw15113198483955665258:=()
def tw10041977446645747036:=()
def tw7394304917870993097:=()
def tw4167995297756294360:=()
def tw14355409246432485949:=()
def tw13617596824880956886:=()
def tw14786063960455931097:=()
def tw17135986120819290510:=()
def tw917595789757625861:=()
def tw1607973393796248028:=()
def tw9770759619468555302:=()
def tw15446703190632686949:=()
def tw7948384616467443694:=()
def tw6830809264494529630:=()
def tw2200601192056590303:=()
def tw1943020561497234958:=()
def tw15364288388210920483:=()
def tw2163877075329737209:=()
def tw1305599024420224728:=()
def tw10705121514301959745:=()
def tw18040413384416806849:=()
def tw7494783339630661571:=()
def tw2413794639987044768:=()
def tw9594615054583751719:=()
def tw8797341499990018001:=()
def tw11035931312124883601:=()
def tw10864128753194694829:=()
def tw13585881006096722013:=()
def tw7564943046290564476:=()
def tw10609956205581304962:=()
def tw3525633510223777215:=()
def tw10885887305253765513:=()
def tw13853138507205533598:=()
def tw14957997560005556864:=()
def tw10503278202898396151:=()
def tw12540991187284215274:=()
def tw1819192762147299295:=()
def tw11520029864457564924:=()
def tw282660405875170950:=()
def tw12194517255000462916:=()
def tw11389890454990927946:=()
def tw10266357595422559995:=()
def tw4234757450086075620:=()
def tw10136188968070877548:=()
def tw13976352721479067115:=()
def tw6384974879600635614:=()
def tw536325534364435439:=()
def tw13558565347335236737:=()
def tw3103878546063113274:=()
def tw4678902798885533955:=()
def tw4045000144335716247:=()
def tw17816719883786661169:=()
def tw15689632775224268166:=()
def tw12792946825735536030:=()
def tw17256909657813921515:=()
def tw17292399272450975451:=()
def tw6231510930738875285:=()
def tw17393962317993164674:=()
def tw18291300008508498642:=()
def tw9938716436178707355:=()
def tw16006462788475533850:=()
def tw11302503279220883362:=()
def tw5463360238932463656:=()
end PySem.W.Fast
open PySem PySem.W PyProof.Rows
local macro_rules | `(tactic| trivial)=>`(tactic| (refine' K10.at_mk ?a ?l ?e ?k;(case a=>k_is);(case l=>k_is);(case e=>k_is);(case k=>k_is)))
set_option maxRecDepth 100000 in
set_option maxHeartbeats 0 in
theorem PySem.Challenge.cw_leafpress_k10_whole_any_rows_read_holds : PySem.Challenge.rw_leafpress_k10_whole_any_rows_read.Holds := by
 w_on;o_law;k_head;(case hw=>w_witness2)
 k_fill
 refine K10.walk (l:=PySem.Challenge.rw_leafpress_k10_whole_any_rows_read) rfl rfl (λw h Y=>PySem.W.kIn_of Y) ?F
 case F =>
  intro w mg fa h KX G hmg;refine' K10.all_mk KX G hmg ?A1 ?A2 ?A3 ?A4 ?A5 ?A6 ?A7 ?A8 ?A9 ?A10 ?A11 ?A12 ?A13 ?A14 ?A15 ?A16 ?A17 ?A18 ?A19 ?A20 ?A21 ?A22 ?A23 ?A24 ?A25 ?A26 ?A27 ?A28 ?A29 ?A30 ?A31 ?A32 ?A33 ?A34 ?A35 ?A36 ?A37 ?A38 ?A39 ?A40 ?A41 ?A42 ?A43 ?A44 ?A45 ?A46 ?A47 ?A48 ?A49 ?A50 ?A51 ?A52 ?A53 ?A54 ?A55 ?A56 ?A57 ?A58 ?A59 ?A60 ?A61 ?A62 ?A63 ?c_C ?c_CN ?xc ?xcN ?x_KINDS ?l_KINDS ?x_KINDS_OF_PIECES ?l_KINDS_OF_PIECES ?x_KINDS_NEVER_EMPTY ?l_KINDS_NEVER_EMPTY ?x_MAY ?l_MAY ?l_m_body ?l_m_case ?l_m_shelf ?l_m_grid ?l_m_text ?l_m_head ?l_m_picture ?l_m_aside ?l_m_note ?g_SMALL_LETTERS ?g_GREAT_LETTERS ?g_FIGURES ?g_WORD_POINTS ?n_isinstance ?n_len ?n_range ?n_sorted ?n_int ?n_bool ?n_list ?n_tuple ?n_str ?n_set ?n_enumerate ?n_all ?n_ValueError ?n_min ?n_max ?n_reversed ?i_ELDER ?i_KIND ?i_NAME ?i_MARKS ?i_STUFF ?i_SORT ?i_THING ?i_TONE ?i_MOST_WORD_SIGNS ?i_MOST_NAME_SIGNS ?i_MOST_NODES ?i_MOST_MARKS ?i_MOST_PIECES ?i_GREATEST_LEVEL ?i_GREATEST_TONE ?i_GREATEST_PICTURE ?i_LEVEL ?i_MOST_SIDE_FIGURES ?i_BEHIND_ALL_ROWS
  (case A1=>trivial)
  (case A2=>trivial)
  (case A3=>trivial)
  (case A4=>trivial)
  (case A5=>trivial)
  (case A6=>trivial)
  (case A7=>trivial)
  (case A8=>trivial)
  (case A9=>trivial)
  (case A10=>trivial)
  (case A11=>trivial)
  (case A12=>trivial)
  (case A13=>trivial)
  (case A14=>trivial)
  (case A15=>trivial)
  (case A16=>trivial)
  (case A17=>trivial)
  (case A18=>trivial)
  (case A19=>trivial)
  (case A20=>trivial)
  (case A21=>trivial)
  (case A22=>trivial)
  (case A23=>trivial)
  (case A24=>trivial)
  (case A25=>trivial)
  (case A26=>trivial)
  (case A27=>trivial)
  (case A28=>trivial)
  (case A29=>trivial)
  (case A30=>trivial)
  (case A31=>trivial)
  (case A32=>trivial)
  (case A33=>trivial)
  (case A34=>trivial)
  (case A35=>trivial)
  (case A36=>trivial)
  (case A37=>trivial)
  (case A38=>trivial)
  (case A39=>trivial)
  (case A40=>trivial)
  (case A41=>trivial)
  (case A42=>trivial)
  (case A43=>trivial)
  (case A44=>trivial)
  (case A45=>trivial)
  (case A46=>trivial)
  (case A47=>trivial)
  (case A48=>trivial)
  (case A49=>trivial)
  (case A50=>trivial)
  (case A51=>trivial)
  (case A52=>trivial)
  (case A53=>trivial)
  (case A54=>trivial)
  (case A55=>trivial)
  (case A56=>trivial)
  (case A57=>trivial)
  (case A58=>trivial)
  (case A59=>trivial)
  (case A60=>trivial)
  (case A61=>trivial)
  (case A62=>trivial)
  (case A63=>trivial)
  (case c_C=>k_is)
  (case c_CN=>k_is)
  (case xc=>k_exc)
  (case xcN=>k_exc)
  (case x_KINDS=>k_is)
  (case l_KINDS=>k_is)
  (case x_KINDS_OF_PIECES=>k_is)
  (case l_KINDS_OF_PIECES=>k_is)
  (case x_KINDS_NEVER_EMPTY=>k_is)
  (case l_KINDS_NEVER_EMPTY=>k_is)
  (case x_MAY=>k_is)
  (case l_MAY=>k_is)
  (case l_m_body=>k_is)
  (case l_m_case=>k_is)
  (case l_m_shelf=>k_is)
  (case l_m_grid=>k_is)
  (case l_m_text=>k_is)
  (case l_m_head=>k_is)
  (case l_m_picture=>k_is)
  (case l_m_aside=>k_is)
  (case l_m_note=>k_is)
  (case g_SMALL_LETTERS=>k_is)
  (case g_GREAT_LETTERS=>k_is)
  (case g_FIGURES=>k_is)
  (case g_WORD_POINTS=>k_is)
  (case n_isinstance=>k_is)
  (case n_len=>k_is)
  (case n_range=>k_is)
  (case n_sorted=>k_is)
  (case n_int=>k_is)
  (case n_bool=>k_is)
  (case n_list=>k_is)
  (case n_tuple=>k_is)
  (case n_str=>k_is)
  (case n_set=>k_is)
  (case n_enumerate=>k_is)
  (case n_all=>k_is)
  (case n_ValueError=>k_is)
  (case n_min=>k_is)
  (case n_max=>k_is)
  (case n_reversed=>k_is)
  (case i_ELDER=>k_is)
  (case i_KIND=>k_is)
  (case i_NAME=>k_is)
  (case i_MARKS=>k_is)
  (case i_STUFF=>k_is)
  (case i_SORT=>k_is)
  (case i_THING=>k_is)
  (case i_TONE=>k_is)
  (case i_MOST_WORD_SIGNS=>k_is)
  (case i_MOST_NAME_SIGNS=>k_is)
  (case i_MOST_NODES=>k_is)
  (case i_MOST_MARKS=>k_is)
  (case i_MOST_PIECES=>k_is)
  (case i_GREATEST_LEVEL=>k_is)
  (case i_GREATEST_TONE=>k_is)
  (case i_GREATEST_PICTURE=>k_is)
  (case i_LEVEL=>k_is)
  (case i_MOST_SIDE_FIGURES=>k_is)
  (case i_BEHIND_ALL_ROWS=>k_is)
