import PyProof.Rows.All
import Wide.All
import OpenK.AllK
import Wide.FinOn
import Lean
import PyProof.EqAt
import PyProof.EqKinds
import PyProof.TupleCall
import KE.KEqDat
import PyProof.CompMap
import PyProof.WalksEnum
import PyProof.EnumMake
import PyProof.Draws
import PyProof.Rows.SetFrom
import PyProof.SetKind
import PyProof.WalksS
import PyProof.CollectWalk
import PyProof.FactsAll.set_1
import PyProof.DictIter
import PyProof.TupleIter
import PyProof.FactsAll.set_2
import PyProof.Rows.SortStr
import PyProof.StrBlockH
import PyProof.Rows.StrClose
import PyProof.FitsInt
import PyProof.Rows.FStr
import PyProof.StrLoop
import PyProof.StrWalks
import PyProof.StrLawsIn
import PyProof.ListRange
import PyProof.ZipIter
import PyProof.DictRoads
import PyProof.DictList
import PyProof.StrOps2
import PyProof.StrCalls2
import PyProof.Rows.StrJoin2
import PyProof.StrLaws
import PyProof.SeqI3
import PyProof.WalkInts
import PyProof.Rows.CallKwBuiltin
import PyProof.FactsAll.tuple_2
import PyProof.FactsAll.tuple_3
import PyProof.TupleKey
import PyProof.FactsAll.tuple_0
import PyProof.Rows.Range3
import PyProof.SumAny
import KE.KUnpack
import PyProof.StrLawsChain
import PyProof.Conv_int
import PyProof.FactsAll.str
import PyProof.StrLawsNeg
import KE.KRevIter
import PyProof.NeKinds
import PyProof.P3Eq
import PySem.Challenge.RW_leafpress_k09_rows_hung_and_mended
local macro_rules | `(tactic| omega) => `(tactic| lia)
local macro_rules | `(tactic| trivial) => `(tactic| first | exact Or.inl (by rfl) | exact Or.inr (by rfl))
local macro_rules | `(tactic| ac_rfl) => `(tactic| decide +kernel)
abbrev qA:=@List.length_map
abbrev qB:=@decide_eq_false
abbrev qC:=@decide_eq_true
abbrev qD:=@List.length_append
abbrev qE:=@PySem.wpAny_bind
abbrev qF:=@Bool.false_ne_true
abbrev qG:=@List.getElem?_eq_getElem
abbrev qH:=@PySem.F.plainAttrs_list
abbrev qI:=@List.getElem?_eq_some_iff
abbrev qJ:=@PySem.F.slot_list_append
abbrev qK:=@PySem.F.type_list_append
abbrev qL:=@PySem.Heap.get?_push_of_some
abbrev qM:=@List.mem_cons_self
abbrev qN:=@Nat.le_refl
abbrev qO:=@List.eq_nil_of_length_eq_zero
abbrev qP:=@List.mem_of_getElem?
abbrev qQ:=@List.mem_cons_of_mem
abbrev qR:=@List.getElem?_map
abbrev qS:=@Nat.le_trans
abbrev qT:=@List.map_append
abbrev qU:=@PySem.wpAny_pure
abbrev qV:=@List.mem_cons
abbrev qW:=@PySem.Heap.lt_size
abbrev qX:=@List.append_nil
abbrev qY:=@List.mem_append
abbrev qZ:=@List.size_toArray
abbrev rA:=@decide_eq_true_iff
abbrev rB:=@Nat.lt_of_lt_of_le
abbrev rC:=@List.length_cons
abbrev rD:=@Option.some.inj
abbrev rE:=@PySem.Heap.get?_push_size
abbrev rF:=@List.mem_append_right
abbrev rG:=@List.mem_map
abbrev rH:=@Bool.and_eq_true
abbrev rJ:=@Nat.ne_of_lt
abbrev rK:=@List.length_take
abbrev rL:=@of_decide_eq_true
abbrev rM:=@List.take_length
abbrev rN:=@List.replicate_succ
abbrev rO:=@List.take_succ
abbrev rP:=@Int.toNat_natCast
abbrev rQ:=@List.getElem?_append_left
abbrev rR:=@PySem.PassesOwn.never
abbrev rS:=@Nat.zero_le
abbrev rT:=@List.getElem?_append_right
abbrev rV:=@List.length_drop
abbrev rW:=@Nat.lt_irrefl
abbrev rX:=@PySem.Heap.size_push
abbrev rY:=@List.getElem?_eq_none
abbrev rZ:=@List.take_of_length_le
abbrev r8:=@List.map_cons
abbrev r9:=@Bool.eq_iff_iff
abbrev xA:=@List.mem_filter
abbrev xB:=@Option.toList_some
abbrev xC:=@PySem.wpAny_mono
abbrev xD:=@PyProof.Rows.callWith_type1
abbrev xE:=@List.map_map
abbrev xF:=@List.getD_eq_getElem?_getD
abbrev xG:=@Bool.true_and
abbrev xH:=@PySem.F.plainAttrs_str
abbrev xI:=@List.nodup_cons
abbrev xJ:=@List.any_cons
abbrev xK:=@Nat.lt_succ_self
abbrev xL:=@List.length_filter_le
abbrev xM:=@List.length_replicate
abbrev xN:=@congrArg
abbrev xO:=@PySem.wpAny_setState_of
abbrev xP:=@PySem.wpAny_truthy_bool
abbrev xQ:=@List.filter_append
abbrev xS:=@PySem.W.kia_one
abbrev xT:=@List.append_assoc
abbrev xU:=@List.length_singleton
abbrev xV:=@PySem.builtinLookup_eq_fast
abbrev xW:=@PySem.F.slot_list_extend
abbrev xX:=@PySem.F.type_list_extend
abbrev xY:=@Nat.le_of_lt
abbrev xZ:=@PySem.W.mg_none_of
abbrev yA:=@List.cons_append
abbrev yB:=@PySem.wpAny_askSetting
abbrev yC:=@Bool.false_and
abbrev yD:=@List.filterMap_cons
abbrev yE:=@Array.getElem?_eq_getElem
abbrev yF:=@PySem.Heap.get?_update_self
abbrev yG:=@Array.all_eq_true'
abbrev yH:=@List.all_eq_true
abbrev yI:=@List.eq_of_mem_replicate
abbrev yJ:=@PySem.wpAny_holding
abbrev yK:=@List.mem_append_left
abbrev yL:=@PySem.wpAny_setField
abbrev yM:=@List.ext_getElem?
abbrev yN:=@PySem.wpAny_newObj_type
abbrev yO:=@List.foldl_cons
abbrev yP:=@List.nil_append
abbrev yQ:=@Nat.min_le_left
abbrev yR:=@Nat.not_lt_zero
abbrev yS:=@Array.length_toList
abbrev yT:=@PyProof.Rows.F.plain_set_update_loop
abbrev yU:=@List.drop_of_length_le
abbrev yV:=@List.getElem_mem
abbrev yW:=@List.lookup_cons
abbrev yX:=@List.mem_filterMap
abbrev yY:=@Nat.lt_of_le_of_lt
abbrev yZ:=@PySem.wpAny_Call_Name_kw
abbrev y3:=@PySem.typeLookup_type
abbrev y4:=@PySem.wpAny_ite_split
abbrev y7:=@PySem.wpAny_passesOwn
abbrev y8:=@PySem.Around.under_plainId
abbrev y9:=@List.mem_of_mem_drop
abbrev uA:=@List.mem_of_mem_take
abbrev uB:=@Nat.le_succ
abbrev uC:=@Nat.ne_of_gt
abbrev uD:=@List.dropWhile_cons
abbrev uE:=@PySem.mem_of_lookup
abbrev uF:=@PySem.wpAny_getItem_str_slice
abbrev uG:=@PySem.Heap.get?_update_other
abbrev uH:=@PySem.call_meets
abbrev uI:=@Nat.min_eq_left
abbrev uJ:=@PySem.codeAny_builtin
abbrev uK:=@Array.getElem?_toList
abbrev uL:=@Nat.lt_succ_of_lt
abbrev uM:=@PySem.F.slot_str_startswith
abbrev uN:=@PySem.F.type_str_startswith
abbrev uO:=@PySem.typeIs_str
abbrev uP:=@Nat.le_of_not_lt
abbrev uQ:=@Nat.lt_trans
abbrev uR:=@PySem.codeAny_mono
abbrev uS:=@List.drop_eq_getElem_cons
abbrev uT:=@Bool.false_or
abbrev uU:=@PySem.plainId_quiet
abbrev uV:=@List.length_eq_zero_iff
abbrev uW:=@Array.getElem?_eq_none
abbrev uX:=@PySem.isSubtype_type
abbrev uY:=@PyProof.Rows.subscriptTail_builtinR
abbrev uZ:=@List.dropWhile_suffix
abbrev u4:=@List.getElem?_reverse
abbrev u5:=@Nat.succ_le_succ
abbrev u6:=@PySem.wpAny_call_entry
abbrev u7:=@Nat.mul_le_mul_right
abbrev u8:=@List.forIn_cons
abbrev u9:=@List.range_succ
abbrev vA:=@Option.map_some
abbrev vB:=@PySem.post_val_or_str
abbrev vC:=@PySem.wpAny_execs_nil
abbrev vD:=@PySem.wpAny_specialOf
abbrev vE:=@Array.toList_append
abbrev vF:=@List.getElem?_range
abbrev vG:=@List.length_reverse
abbrev vH:=@List.mem_map_of_mem
abbrev vI:=@List.replicate_zero
abbrev vJ:=@List.takeWhile_cons
abbrev vK:=@PySem.W.hideAll_get
abbrev vL:=@PySem.F.args_str_split_2
abbrev vM:=@Int.emod_lt_of_pos
abbrev vN:=@List.Perm.refl
abbrev vO:=@List.dropWhile_cons_of_neg
abbrev vP:=@List.filterMap_map
abbrev vQ:=@List.nodup_nil
abbrev vR:=@Nat.add_le_add
abbrev vS:=@Bool.eq_false_iff
abbrev vT:=@PySem.F.entry_str_split
abbrev vU:=@List.any_eq_false
abbrev vV:=@List.not_lt
abbrev vW:=@PySem.wpAny_pyIter_list
abbrev vX:=@List.map_drop
abbrev vY:=@PySem.wpAny_standAt
abbrev vZ:=@PySem.F.slot_str_split
abbrev v0:=@PySem.wpAny_isInstance
abbrev wA:=@List.map_nil
abbrev wB:=@PySem.Txt.slice_le
abbrev wC:=@Bool.or_eq_true
abbrev wD:=@Int.emod_nonneg
abbrev wE:=@List.of_mem_zip
abbrev wF:=@PySem.wpAny_updateSeq
abbrev wG:=@Bool.and_false
abbrev wH:=@List.drop_zero
abbrev wI:=@List.mem_range
abbrev wJ:=@PySem.wpAny_seqItems
abbrev wK:=@List.drop_succ_cons
abbrev wL:=@Bool.and_true
abbrev wM:=@List.map_take
noncomputable section
set_option Elab.async false
set_option linter.all false
set_option maxRecDepth 100000
namespace L2
open PySem PySem.Spec PyProof.Rows
abbrev Key:=Sum Int Str
def keyIs:Key->Value->Bool
 | .inl k,v=>Value.isInt k v
 | .inr x,v=>Value.isStrOf x v
def keyH(w:World):Key->Int
 | .inl k=>hashInt k
 | .inr x=>hashStr w x
theorem keyIs_shape:∀{k:Key} {v:Value},keyIs k v=true->(∃i t,k=Sum.inl i/\v=Value.int i t)\/(∃x t,k=Sum.inr x/\v=Value.str x t)
 | .inl i, v, h => by
   obtain⟨t,e⟩:=Value.isInt_shape (k:=i) (v:=v) h
   exact .inl ⟨i,t,rfl,e⟩
 | .inr x, v, h => by
   obtain⟨t,e⟩:=Value.isStrOf_shape (x:=x) (v:=v) h
   exact .inr ⟨x,t,rfl,e⟩
theorem keyIs_int(i:Int)(t:Tok):keyIs (.inl i) (.int i t)=true:=by simp[keyIs,Value.isInt]
theorem keyIs_str(x:Str)(t:Tok):keyIs (.inr x) (.str x t)=true:=by simp[keyIs,Value.isStrOf]
theorem key_ll(a b:Int):decide ((Sum.inl a:Key)=Sum.inl b)=(a == b):=by
 by_cases e:a=b
 ·subst e;simp
 ·have h:¬(Sum.inl a:Key)=Sum.inl b:=λq=>e (Sum.inl.inj q)
  rw[qB h];exact(beq_eq_false_iff_ne.mpr e).symm
theorem key_rr(a b:Str):decide ((Sum.inr a:Key)=Sum.inr b)=decide (a=b):=by
 by_cases e:a=b
 ·subst e;simp
 ·have h:¬(Sum.inr a:Key)=Sum.inr b:=λq=>e (Sum.inr.inj q)
  rw[qB h,qB e]
theorem key_lr(a:Int)(b:Str):decide ((Sum.inl a:Key)=Sum.inr b)=false:=qB (λq=>nomatch q)
theorem key_rl(a:Str)(b:Int):decide ((Sum.inr a:Key)=Sum.inl b)=false:=qB (λq=>nomatch q)
def qbh(prog:Program)(w:World):PySem.KeyKind prog w Key where
 is:=keyIs
 hash:=keyH w
 inj:=λv a b ha hb=>by
  rcases keyIs_shape ha with⟨i,t,rfl,rfl⟩ | ⟨x,t,rfl,rfl⟩
  ·rcases keyIs_shape hb with⟨j,u,rfl,e⟩ | ⟨y,u,rfl,e⟩
   ·injection e with e1 _;rw[e1]
   ·exact nomatch e
  ·rcases keyIs_shape hb with⟨j,u,rfl,e⟩ | ⟨y,u,rfl,e⟩
   ·exact nomatch e
   ·injection e with e1 _;rw[e1]
 byValue:=λk v h=>by
  rcases keyIs_shape h with⟨i,t,rfl,rfl⟩ | ⟨x,t,rfl,rfl⟩<;>rfl
 pyHash:=λhv h=>by
  rcases keyIs_shape hv with⟨i,t,rfl,rfl⟩ | ⟨x,t,rfl,rfl⟩
  ·exact wpAny_pyHash_int h
  ·exact wpAny_pyHash_str h
 eqBool:=λhu hv h=>by
  rcases keyIs_shape hu with⟨i,t,rfl,rfl⟩ | ⟨x,t,rfl,rfl⟩
  ·rcases keyIs_shape hv with⟨j,u,rfl,rfl⟩ | ⟨y,u,rfl,rfl⟩
   ·rw[key_ll]at h;exact wpAny_eqBool_int h
   ·rw[key_lr]at h;exact SeqAt.EqAt.int_str i t y u _ _ _ _ h
  ·rcases keyIs_shape hv with⟨j,u,rfl,rfl⟩ | ⟨y,u,rfl,rfl⟩
   ·rw[key_rl]at h;exact SeqAt.EqAt.str_int x t j u _ _ _ _ h
   ·rw[key_rr]at h;exact wpAny_eqBool_str h
 «strs»:=λk x t v h=>by
  rcases keyIs_shape h with⟨i,u,rfl,e⟩ | ⟨y,u,rfl,e⟩
  ·exact nomatch e
  ·injection e with e1 _
   subst e1;cases v<;>rfl
theorem mixKind_int(prog:Program)(w:World)(i:Int)(t:Tok):(qbh prog w).is (.inl i) (.int i t)=true:=keyIs_int i t
theorem qaT(prog:Program)(w:World)(x:Str)(t:Tok):(qbh prog w).is (.inr x) (.str x t)=true:=keyIs_str x t
inductive V where
 | non | bl (b:Bool) | int (i:Int) | str (x:Str) | byt (b:Array UInt8) | flt (b:UInt64) | ref (a:Addr) | ty (n:String)
 deriving DecidableEq
def RelV:V->Value->Prop
 | .non,u=>u=Value.none
 | .bl b,u=>u=Value.bool b
 | .int i,u=>∃t,u=Value.int i t
 | .str x,u=>∃t,u=Value.str x t
 | .byt b,u=>∃t,u=Value.bytes b t
 | .flt b,u=>∃t,u=Value.float b t
 | .ref a,u=>u=Value.ref a
 | .ty n,u=>u=Value.type n
abbrev Vals:List V->List Value->Prop:=Paired RelV
theorem Vals.length{xs:List V}{us:List Value}(r:Vals xs us):xs.length=us.length:=Paired.length r
theorem Vals.get:∀{xs:List V} {us:List Value} {i:Nat} {x:V},Vals xs us->xs[i]?=some x->∃u,us[i]?=some u/\RelV x u
 | _,_,_,_,.nil,e=>by simp at e
 | _,_,0,_,.cons r _,e=>by simp at e;subst e;exact⟨_,rfl,r⟩
 | _, _, i + 1, x, .cons _ t, e => by
   obtain⟨u,h1,h2⟩:=Vals.get (i:=i) (x:=x) t (by simpa using e)
   exact⟨u,by simpa using h1,h2⟩
theorem Vals.set{x:V}{u:Value}(r:RelV x u):∀{xs:List V} {us:List Value} (i:Nat),Vals xs us->Vals (xs.set i x) (us.set i u)
 | _,_,_,.nil=>.nil
 | _,_,0,.cons _ t=>.cons r t
 | _,_,i+1,.cons q t=>.cons q (Vals.set r i t)
theorem Vals.append:∀{xs ys:List V} {us ws:List Value},Vals xs us->Vals ys ws->Vals (xs++ys) (us++ws)
 | _,_,_,_,.nil,s=>s
 | _,_,_,_,.cons r t,s=>.cons r (Vals.append t s)
theorem Vals.take:∀{xs:List V} {us:List Value} (n:Nat),Vals xs us->Vals (xs.take n) (us.take n)
 | _,_,0,_=>.nil
 | _,_,_+1,.nil=>.nil
 | _,_,n+1,.cons r t=>.cons r (Vals.take n t)
theorem Vals.drop:∀{xs:List V} {us:List Value} (n:Nat),Vals xs us->Vals (xs.drop n) (us.drop n)
 | _,_,0,r=>r
 | _,_,_+1,.nil=>.nil
 | _,_,n+1,.cons _ t=>Vals.drop n t
def RelO:Option V->Option Value->Prop
 | some v,some u=>RelV v u
 | none,none=>True
 | _,_=>False
def KV{κ:Type}:List (κ×V)->List (κ×Value)->Prop:=Paired λ(p:κ×V) (q:κ×Value)=>p.1=q.1/\RelV p.2 q.2
def kV:Key->V
 | .inl i=>.int i
 | .inr x=>.str x
inductive HO where
 | lst (xs:List V)
 | tup (xs:List V)
 | dK (kvs:List (Key×V)) | dT (kvs:List (List Key×V))
 | set (S:Int->Bool) (n:Nat)
 | ins (C dx:Addr) (fs:List (Str×V))
 | own (x:Addr)
 | xd (fs:List (Str×V))
 | met (f x:Addr)
 | rng (lo hi:Int)
 | frz (o:Obj) (u:HO)
 | tbl (ps:Array Value)
 | ext (φ:Heap->Prop)
abbrev Hp:=Addr->Option HO
def upd(H:Hp)(a:Addr)(o:HO):Hp:=λb=>if b=a then some o else H b
theorem qac{H:Hp}{a:Addr}{o:HO}:upd H a o a=some o:=by unfold upd;rw[if_pos rfl]
theorem qal{H:Hp}{a b:Addr}{o:HO}(h:b≠a):upd H a o b=H b:=by unfold upd;rw[if_neg h]
theorem upd_upd{H:Hp}{a:Addr}{o u:HO}:upd (upd H a o) a u=upd H a u:=by
 funext b;unfold upd;split<;>rfl
theorem qgb{H:Hp}{a b:Addr}{o u:HO}(h:H a=some o)(h':H b=some u)(d:o≠u):a≠b:=by
 intro e;subst e;rw[h]at h';exact d (rD h')
theorem qar{H:Hp}{a b:Addr}{o:HO}(h:H a=some o)(h':H b=none):a≠b:=by
 intro e;subst e;rw[h]at h';cases h'
section
variable(P:Program)(w:World)
def ObjOk(H:Hp)(h:Heap)(a:Addr):HO->Prop
 | .lst xs=>xs.length<=sizeLine/\∃(its:List Value) (n:Nat),Vals xs its/\h.get? a=some {cls:=.type "list",data:=.seq its.toArray n}
 | .tup xs=>xs.length<=sizeLine/\∃its:List Value,Vals xs its/\IsTup h a its.toArray
 | .dK kvs=>kvs.length<=sizeLine/\(a == sysModules)=false/\∃vs,KV kvs vs/\h.DictOf (qbh P w) a vs
 | .dT kvs=>kvs.length<=sizeLine/\(a == sysModules)=false/\∃xs:List (List Key×Addr×Value),
   Paired (λ(p:List Key×V) (q:List Key×Addr×Value)=>p.1=q.1/\H q.2.1=some (.tup (p.1.map kV))/\RelV p.2 q.2.2) kvs xs /\
   ∃o es ep,h.get? a=some o/\o.ExactDict/\o.data=.dict es ep/\es.toList=xs.map (entryOfKey (tupleKind (qbh P w)))/\(xs.map (·.1)).Nodup
 | .set S n=>h.SetOf (intKind P w) a S n
 | .ins C dx fs=>H dx=some (.own a)/\fs.length<=1000/\dx≠a/\h.get? a=some (PySem.W.instObj C dx) /\
   ∃mA,h.Ns1 dx mA/\(∀f,RelO (fs.lookup f) (mA f))/\PySem.Within mA (fs.map (·.1))
 | .own _=>∃o,h.get? a=some o
 | .xd fs=>∃mA,h.Ns1 a mA/\∀f,RelO (fs.lookup f) (mA f)
 | .rng lo hi=>∃t u v,h.get? a=some {cls:=.type "range",data:=.fields #[.int lo t,.int hi u,.int 1 v]}
 | .frz o u=>h.get? a=some o/\ObjOk H h a u
 | .tbl ps=>h.get? a=some {cls:=.none,data:=.fields ps}
 | .met f x=>h.get? a=some (PySem.W.methodObj (.ref f) (.ref x))
 | .ext φ=>φ h/\(∃o,h.get? a=some o)/\∀h1 h2:Heap,φ h1->(∀o,h1.get? a=some o->h2.get? a=some o)->φ h2
def HOk(H:Hp)(h:Heap):Prop:=∀a o,H a=some o->ObjOk P w H h a o
end
section
variable{P:Program}{w:World}{H H':Hp}{h h':Heap}{a:Addr}{o:HO}
theorem ObjOk.lt(x:ObjOk P w H h a o):a<h.objs.size:=by
 cases o with
 | lst xs=>obtain⟨_,_,_,_,e⟩:=x;exact qW e
 | tup xs=>obtain⟨_,_,_,p⟩:=x;exact p.lt
 | dK kvs=>obtain⟨_,_,_,_,o,_,_,e,_⟩:=x;exact qW e
 | dT kvs=>obtain⟨_,_,_,_,o,_,_,e,_⟩:=x;exact qW e
 | set S n=>obtain⟨o,_,_,_,e,_⟩:=x;exact qW e
 | ins C dx fs=>obtain⟨_,_,_,e,_⟩:=x;exact qW e
 | own y=>obtain⟨_,e⟩:=x;exact qW e
 | xd fs=>obtain⟨_,⟨_,_,_,e,_⟩,_⟩:=x;exact qW e
 | rng lo hi=>obtain⟨_,_,_,e⟩:=x;exact qW e
 | frz ob u=>obtain⟨e,_⟩:=x;exact qW e
 | tbl ps=>exact qW (show h.get? a=some _ from x)
 | met f y=>exact qW (show h.get? a=some _ from x)
 | ext φ=>obtain⟨_,⟨_,e⟩,_⟩:=x;exact qW e
theorem Paired.mapP{α β:Type}{F G:α->β->Prop}:∀{l₁:List α} {l₂:List β},Paired F l₁ l₂->(∀a b,F a b->G a b)->Paired G l₁ l₂
 | _,_,.nil,_=>.nil
 | _,_,.cons r t,f=>.cons (f _ _ r) (Paired.mapP t f)
theorem ObjOk.stay(x:ObjOk P w H h a o)(k:∀b u,(b=a\/H b=some (.own a))->h.get? b=some u->h'.get? b=some u)(ho:∀b,H b=some (.own a)->H' b=some (.own a))(ht:∀b xs,H b=some (.tup xs)->H' b=some (.tup xs)):ObjOk P w H' h' a o:=by
 induction o with
 | lst xs=>obtain⟨z,its,n,r,e⟩:=x;exact⟨z,its,n,r,k _ _ (.inl rfl) e⟩
 | tup xs=>obtain⟨z,its,r,ob,e,c⟩:=x;exact⟨z,its,r,ob,k _ _ (.inl rfl) e,c⟩
 | dK kvs=>obtain⟨z,y,vs,r,ob,es,ep,e,c⟩:=x;exact⟨z,y,vs,r,ob,es,ep,k _ _ (.inl rfl) e,c⟩
 | dT kvs =>
   obtain⟨z,y,xs,r,ob,es,ep,e,c⟩:=x
   exact⟨z,y,xs,Paired.mapP r λp q z=>⟨z.1,ht _ _ z.2.1,z.2.2⟩,ob,es,ep,k _ _ (.inl rfl) e,c⟩
 | set S n=>obtain⟨ob,es,ep,t,e,c⟩:=x;exact⟨ob,es,ep,t,k _ _ (.inl rfl) e,c⟩
 | ins C dx fs =>
   obtain⟨d,z,ne,e,mA,⟨od,es,ep,e2,c⟩,r⟩:=x
   exact⟨ho _ d,z,ne,k _ _ (.inl rfl) e,mA,⟨od,es,ep,k _ _ (.inr d) e2,c⟩,r⟩
 | own y=>obtain⟨ob,e⟩:=x;exact⟨ob,k _ _ (.inl rfl) e⟩
 | xd fs=>obtain⟨mA,⟨od,es,ep,e,c⟩,r⟩:=x;exact⟨mA,⟨od,es,ep,k _ _ (.inl rfl) e,c⟩,r⟩
 | rng lo hi=>obtain⟨t,u,v,e⟩:=x;exact⟨t,u,v,k _ _ (.inl rfl) e⟩
 | frz ob u ih=>obtain⟨e,q⟩:=x;exact⟨k _ _ (.inl rfl) e,ih q⟩
 | tbl ps =>
   have e:h.get? a=some {cls:=.none,data:=.fields ps}:=x
   show h'.get? a=some {cls:=.none,data:=.fields ps}
   exact k a _ (.inl rfl) e
 | met f y =>
   have e:h.get? a=some (PySem.W.methodObj (.ref f) (.ref y)):=x
   show h'.get? a=some (PySem.W.methodObj (.ref f) (.ref y))
   exact k a _ (.inl rfl) e
 | ext φ=>obtain⟨p,⟨o,e⟩,st⟩:=x;exact⟨st _ _ p λo q=>k _ _ (.inl rfl) q,⟨o,k _ _ (.inl rfl) e⟩,st⟩
theorem HOk.lt(x:HOk P w H h)(e:H a=some o):a<h.objs.size:=(x a o e).lt
theorem HOk.fresh(x:HOk P w H h)(e:h.objs.size<=a):H a=none:=by
 cases q:H a with
 | none=>rfl
 | some u=>exact absurd (rB (x.lt q) e) (rW _)
theorem HOk.kept(x:HOk P w H h)(k:∀b u,h.get? b=some u->h'.get? b=some u):HOk P w H h':=λa o e =>
 (x a o e).stay (λb u _ q=>k b u q) (λ_ q=>q) λ_ _ q=>q
theorem HOk.laid(x:HOk P w H h)(k:∀b u,h.get? b=some u->h'.get? b=some u)(hp:h.objs.size<=a)(new:ObjOk P w (upd H a o) h' a o):HOk P w (upd H a o) h':=λb u e=>by
 have hn:=x.fresh hp
 by_cases hb:b=a
 ·subst hb;rw[qac]at e;cases e;exact new
 ·rw[qal hb]at e;exact(x b u e).stay (λc v _ q=>k c v q) (λc q=>by rw[qal (qar q hn)];exact q) λc xs q=>by rw[qal (qar q hn)];exact q
end
def Rd(H:Hp)(a:Addr)(u:HO):Prop:=H a=some u\/∃o,H a=some (.frz o u)
theorem Rd.ok{P:Program}{w:World}{H:Hp}{h:Heap}{a:Addr}{u:HO}(r:Rd H a u)(x:HOk P w H h):ObjOk P w H h a u:=by
 rcases r with r | ⟨o,r⟩
 ·exact x a u r
 ·obtain⟨_,q⟩:=x a _ r;exact q
def Mut:Option HO->Prop
 | some (.lst _)=>True
 | some (.dK _)=>True
 | some (.dT _)=>True
 | some (.set _ _)=>True
 | some (.ins _ _ _)=>True
 | some (.ext _)=>True
 | _=>False
section
variable{P:Program}{w:World}{H:Hp}{h h':Heap}{x e:Addr}{o':HO}
theorem HOk.write(ok:HOk P w H h)(mu:Mut (H x))(he:e=x\/H e=some (.own x))(k:∀b u,b≠e->h.get? b=some u->h'.get? b=some u)(heo:∃u,h'.get? e=some u)(new:ObjOk P w (upd H x o') h' x o'):HOk P w (upd H x o') h':=λb u q=>by
 have nown:∀c y,H c=some (.own y)->c≠x:=λc y r z=>by subst z;rw[r]at mu;exact mu
 have ntup:∀c xs,H c=some (.tup xs)->c≠x:=λc xs r z=>by subst z;rw[r]at mu;exact mu
 by_cases hb:b=x
 ·subst hb;rw[qac]at q;cases q;exact new
 ·rw[qal hb]at q
  by_cases hbe:b=e
  ·have q':H b=some (.own x):=by
    rcases he with z | z
    ·exact absurd (hbe.trans z) hb
    ·rw[hbe];exact z
   rw[q]at q';cases q';obtain⟨v,hv⟩:=heo;exact⟨v,by rw[hbe];exact hv⟩
  ·refine(ok b u q).stay (λc v hc r=>k c v ?_ r) (λc r=>by rw[qal (nown c b r)];exact r) λc xs r=>by rw[qal (ntup c xs r)];exact r
   rcases hc with rfl | hc
   ·exact hbe
   ·rintro rfl;rcases he with z | z
    ·exact nown c b hc z
    ·rw[hc]at z;cases z;exact hb rfl
end
structure Un(fs ex:List Addr)(H H':Hp)(h h':Heap):Prop where
 keep:∀b o,h.get? b=some o->H b=none->b∉fs->b∉ex->h'.get? b=some o
 slot:∀b o,h.get? b=some o->H b=none->b∈fs->b∉ex->∃sl,h'.get? b=some {o with slots:=sl}
 free:∀b o,h.get? b=some o->H b=none->b∉ex->H' b=none
 there:∀b o,h.get? b=some o->b∉ex->∃o',h'.get? b=some o'
 tups:∀b xs,H b=some (.tup xs)->H' b=some (.tup xs)
 frzs:∀b o u,H b=some (.frz o u)->H' b=some (.frz o u)
 tbls:∀b ps,H b=some (.tbl ps)->∃more,H' b=some (.tbl (ps++more))
section
variable{fs fs' ex ex':List Addr}{H H1 H2:Hp}{h h1 h2 h':Heap}{a x e:Addr}{o:HO}
theorem Un.any(u:Un fs ex H H1 h h1){b:Addr}{ob:Obj}(q:h.get? b=some ob)(n:H b=none)(hx:b∉ex):∃sl,h1.get? b=some {ob with slots:=sl}:=by
 by_cases hb:b∈fs
 ·exact u.slot b ob q n hb hx
 ·exact⟨ob.slots,u.keep b ob q n hb hx⟩
theorem Un.kept(k:∀b u,h.get? b=some u->h'.get? b=some u):Un fs ex H H h h' :=
 ⟨λb ob q _ _ _=>k b ob q,λb ob q _ _ _=>⟨ob.slots,k b ob q⟩,λ_ _ _ n _=>n,λb ob q _=>⟨ob,k b ob q⟩,λ_ _ q=>q,λ_ _ _ q=>q,λ_ ps q=>⟨#[],by rw[q];simp⟩⟩
theorem Un.refl:Un fs ex H H h h:=Un.kept λ_ _ q=>q
theorem Un.laid(k:∀b u,h.get? b=some u->h'.get? b=some u)(hp:h.objs.size<=a)(hn:H a=none):Un fs ex H (upd H a o) h h' where
 keep:=λb u q _ _ _=>k b u q
 slot:=λb u q _ _ _=>⟨u.slots,k b u q⟩
 free:=λb u q n _=>by rw[qal (rJ (rB (qW q) hp))];exact n
 there:=λb u q _=>⟨u,k b u q⟩
 tups:=λb xs q=>by rw[qal (qar q hn)];exact q
 frzs:=λb u xs q=>by rw[qal (qar q hn)];exact q
 tbls:=λb ps q=>⟨#[],by rw[qal (qar q hn),q];simp⟩
theorem Un.write(mu:Mut (H x))(he:e=x\/H e=some (.own x))(k:∀b u,b≠e->h.get? b=some u->h'.get? b=some u)(heo:∃u,h'.get? e=some u):Un fs ex H (upd H x o) h h':=by
 have hx:∀b,H b=none->b≠x:=λb n z=>by subst z;rw[n]at mu;exact mu
 have hb:∀b,H b=none->b≠e:=λb n z=>by
  subst z;rcases he with r | r
  ·exact hx b n r
  ·rw[n]at r;cases r
 have hm:∀b u,H b=some u->¬Mut (some u)->b≠x:=λb u q nm z=>by subst z;rw[q]at mu;exact nm mu
 refine⟨λb u q n _ _=>k b u (hb b n) q,λb u q n _ _=>⟨u.slots,k b u (hb b n) q⟩,λb u q n _=>by rw[qal (hx b n)];exact n,λb u q _=>?_,
  λb xs q=>by rw[qal (hm b _ q λz=>z)];exact q,λb u xs q=>by rw[qal (hm b _ q λz=>z)];exact q,λb ps q=>⟨#[],by rw[qal (hm b _ q λz=>z),q];simp⟩⟩
 by_cases hbe:b=e
 ·subst hbe;exact heo
 ·exact⟨u,k b u hbe q⟩
end
def trk(h:Heap)(H:Hp):List Addr:=(List.range h.objs.size).filter λa=>(H a).isSome
def hidT(h:Heap)(H:Hp):Heap:=PySem.W.hideAll h (trk h H)
theorem hidT_size(h:Heap)(H:Hp):(hidT h H).objs.size=h.objs.size:=PySem.W.hideAll_size _ _
theorem hidT_get{h:Heap}{H:Hp}{b:Addr}{o:Obj}(e:h.get? b=some o)(n:H b=none):(hidT h H).get? b=some o :=
 vK _ e λhm=>by
  have q:(H b).isSome=true:=(xA.mp hm).2;rw[n]at q;simp at q
theorem of_hidT{h:Heap}{H:Hp}{b:Addr}{o:Obj}(e:(hidT h H).get? b=some o):h.get? b=some o/\H b=none:=by
 have e':h.get? b=some o:=PySem.W.of_hideAll (trk h H) e;refine⟨e',?_⟩;cases q:H b with
 | none=>rfl
 | some x =>
   have hm:b∈trk h H:=xA.mpr ⟨wI.mpr (qW e'),by simp[q]⟩
   have z:(hidT h H).get? b=none:=PySem.W.hideAll_none (trk h H) hm
   rw[z]at e;cases e
structure Mod(K:W.Frag)(mg:Str->Option Value)(base:Heap):Prop where
 kin:K.In base
 glob:base.Ns mainGlobals mg
 blt:∃mb,base.Ns builtinsNs mb/\∀x:Str,x ≠ "__name__" -> mb x=bootBuiltins x
 nolimit:base.NoLimit
structure Cx where
 prog:Program
 w:World
 K:W.Frag
 mg:Str->Option Value
 base:Heap
 A:Around
 N:List Str
 s₀:Shared
 H₀:Hp
 env:Env
 outer:List Env
 stack:List Env
 ex:List Addr
 fn:Str->Bool
 calm:Bool
 pn:List (Addr×Obj)
 xe:Value->Shared->Prop
def frs(l:List Env):List Addr:=l.filterMap (·.frame)
abbrev Cx.fs(X:Cx):List Addr:=frs X.outer
def Vis(sc:Scope)(x:Str):Prop:=sc.names.lookup x=some .local\/sc.names.lookup x=some .cell\/sc.names.lookup x=some .free
def Loc(sc:Scope)(x:Str):Prop:=sc.names.lookup x=some .local\/sc.names.lookup x=some .cell
def Look(env:Env)(h:Heap)(m:Str->Option Value)(x:Str)(u:Value):Prop :=
 (env.kindOf x=some .local/\m x=some u)\/((env.kindOf x=some .cell\/env.kindOf x=some .free)/\∃c,env.cells.lookup x=some c/\h.IsCell c (some u))
structure Cx.Ok(X:Cx):Prop where
 mod:Mod X.K X.mg X.base
 kind:X.env.scope.kind=.function
 glob:X.env.globals=mainGlobals
 blt:X.env.builtins=builtinsNs
 above:X.s₀.heap.objs.size<=X.env.locals
 inj:∀x y c,X.env.cells.lookup x=some c->X.env.cells.lookup y=some c->x=y
 has:∀x,(X.env.kindOf x=some .cell\/X.env.kindOf x=some .free)->∃c,X.env.cells.lookup x=some c
 cab:∀x c,X.fn x=true->X.env.cells.lookup x=some c->X.s₀.heap.objs.size<=c
 hd:X.calm=true->X.A.handled=none
 frames:X.A.frames=some X.stack
 stk:X.stack=X.outer\/(X.stack=X.env::X.outer/\X.env.frame=some X.env.locals)
 exf:∀b∈X.ex,b≠X.env.locals/\∀x c,X.env.cells.lookup x=some c->c≠b
 bs:∀b o,X.base.get? b=some o->X.s₀.heap.get? b=some o/\X.H₀ b=none
 bsz:X.base.objs.size<=X.s₀.heap.objs.size
 noex:∀b o,X.base.get? b=some o->b∉X.ex
 exfs:∀b∈X.ex,b∉X.fs
 funs:X.s₀.heap.FunFrames X.base X.outer
 frf:∀b∈X.fs,X.H₀ b=none
structure Inv(X:Cx)(pins:List (Addr×Obj))(σ:List (Option V))(H:Hp)(s:Shared):Prop where
 ok:X.Ok
 os:s.os=X.s₀.os
 bare:AllBare s.gens
 base:Un X.fs X.ex X.H₀ H X.s₀.heap s.heap
 loc:∃m,s.heap.Ns X.env.locals m/\∀(i:Nat) (x:Str) (v:V),X.N[i]?=some x->σ[i]?=some (some v)->Vis X.env.scope x->∃u,RelV v u/\Look X.env s.heap m x u
 cell:∀x c,X.env.cells.lookup x=some c->∃v,s.heap.IsCell c v
 free:H X.env.locals=none
 freeC:∀x c,X.env.cells.lookup x=some c->H c=none
 pin:∀p∈X.pn++pins,s.heap.get? p.1=some p.2/\H p.1=none/\p.1≠X.env.locals/\p.1∉X.fs/\∀v,p.2.data≠.cell v
 hok:HOk X.prog X.w H s.heap
 len:σ.length=X.N.length
section
variable{X:Cx}{pins:List (Addr×Obj)}{σ:List (Option V)}{H H':Hp}{s:Shared}{h':Heap}
theorem Cx.Ok.nofr(ok:X.Ok){b:Addr}{o:Obj}(e:X.base.get? b=some o):b∉X.fs:=λhb=>by
 have:=(ok.funs.mem hb).1;rw[e]at this;cases this
theorem Inv.bs(I:Inv X pins σ H s):∀b o,X.base.get? b=some o->s.heap.get? b=some o/\H b=none:=λb o e =>
 ⟨I.base.keep b o (I.ok.bs b o e).1 (I.ok.bs b o e).2 (I.ok.nofr e) (I.ok.noex b o e),I.base.free b o (I.ok.bs b o e).1 (I.ok.bs b o e).2 (I.ok.noex b o e)⟩
theorem Inv.bk(I:Inv X pins σ H s):∀b o,X.base.get? b=some o->s.heap.get? b=some o:=λb o e=>(I.bs b o e).1
theorem Inv.mod(I:Inv X pins σ H s):Mod X.K X.mg X.base:=I.ok.mod
theorem Inv.kIn(I:Inv X pins σ H s):X.K.In s.heap:=I.ok.mod.kin.keeps I.bk
theorem Inv.lt(I:Inv X pins σ H s):X.env.locals<s.heap.objs.size:=let⟨_,hn,_⟩:=I.loc;hn.lt
theorem Inv.sz(I:Inv X pins σ H s):X.s₀.heap.objs.size<=s.heap.objs.size:=qS I.ok.above (xY I.lt)
theorem Inv.nofs(I:Inv X pins σ H s){a:Addr}(h:s.heap.objs.size<=a):a∉X.fs:=λhb=>by
 obtain⟨_,o,ho,_⟩:=I.ok.funs.mem hb;exact absurd (rB (qW ho) (qS I.sz h)) (rW _)
theorem Inv.cne(I:Inv X pins σ H s):∀x c,X.env.cells.lookup x=some c->c≠X.env.locals:=λx c e z=>by
 obtain⟨v,o,ho,hd⟩:=I.cell x c e;obtain⟨m,⟨o',es,ep,ho',hd',_⟩,_⟩:=I.loc;rw[z,ho']at ho;cases ho;rw[hd']at hd;cases hd
theorem Inv.funs(I:Inv X pins σ H s):s.heap.FunFrames X.base X.outer:=by
 have all:∀(l:List Env),(∀b∈frs l,b∈X.fs)->X.s₀.heap.FunFrames X.base l->s.heap.FunFrames X.base l:=by
  intro l
  induction l with
  | nil=>intro _ _;trivial
  | cons env r ih =>
    intro hs hl
    obtain⟨hk,⟨L,o,hf,hn,ho,hd⟩,hr⟩:=hl
    have hL:L∈X.fs:=hs L (by unfold frs;rw[yD,hf];exact qM)
    obtain⟨sl,e⟩:=I.base.slot L o ho (I.ok.frf L hL) hL λz=>I.ok.exfs L z hL
    exact⟨hk,⟨L,_,hf,hn,e,hd⟩,ih (λb hb=>hs b (by unfold frs;rw[yD,hf];exact qQ _ hb)) hr⟩
 exact all X.outer (λ_ hb=>hb) I.ok.funs
theorem Inv.stack(I:Inv X pins σ H s):s.heap.FunFrames X.base X.stack:=by
 rcases I.ok.stk with e | ⟨e,hf⟩
 ·rw[e];exact I.funs
 ·rw[e];obtain⟨m,hn,_⟩:=I.loc;refine .cons (by rw[I.ok.kind];decide) hf hn ?_ I.funs;exact Heap.get?_none_of_le (qS I.ok.bsz I.ok.above)
theorem Inv.stkSub(I:Inv X pins σ H s):∀b∈frs X.stack,b∈X.env.locals::X.fs:=λb hb=>by
 rcases I.ok.stk with e | ⟨e,hf⟩
 ·rw[e]at hb;exact qQ _ hb
 ·rw[e]at hb;unfold frs at hb;rw[yD,hf]at hb;exact hb
theorem Inv.stkFree(I:Inv X pins σ H s):∀b∈frs X.stack,H b=none:=λb hb=>by
 rcases qV.mp (I.stkSub b hb)with e | hb
 ·rw[e];exact I.free
 ·obtain⟨_,o,ho,_⟩:=I.ok.funs.mem hb;exact I.base.free b o ho (I.ok.frf b hb) λz=>I.ok.exfs b z hb
theorem Inv.step{g':Array GenState}{t':Nat}{d':Drawn}{ch:List Addr}(I:Inv X pins σ H s)(hch:∀b∈ch,(b∈X.ex\/X.s₀.heap.objs.size<=b)/\b≠X.env.locals/\(∀x c,X.env.cells.lookup x=some c->c≠b)/\∀p∈X.pn++pins,p.1≠b)(keep:∀b o,b≠X.env.locals->b∉X.fs->b∉ch->s.heap.get? b=some o->H b=none->h'.get? b=some o)(slot:∀b o,b≠X.env.locals->b∈X.fs->b∉ch->s.heap.get? b=some o->H b=none->∃sl,h'.get? b=some {o with slots:=sl})(free:∀b o,b∉ch->s.heap.get? b=some o->H b=none->H' b=none)(there:∀b o,b∉ch->s.heap.get? b=some o->∃o',h'.get? b=some o')(tups:∀b xs,H b=some (.tup xs)->H' b=some (.tup xs))(frzs:∀b o u,H b=some (.frz o u)->H' b=some (.frz o u))(tbls:∀b ps,H b=some (.tbl ps)->∃more,H' b=some (.tbl (ps++more)))(ns:∀m,s.heap.Ns X.env.locals m->h'.Ns X.env.locals m)(hok:HOk X.prog X.w H' h')(hg:AllBare g') :
  Inv X pins σ H' {s with heap:=h',gens:=g',drawn:=d',toks:=t'}:=by
 have neL:∀b o,X.s₀.heap.get? b=some o->b≠X.env.locals:=λb o e=>rJ (rB (qW e) I.ok.above)
 have neC:∀b o,X.s₀.heap.get? b=some o->b∉X.ex->b∉ch:=λb o e hx hb=>by
  rcases(hch b hb).1 with z | z
  ·exact hx z
  ·exact absurd (rB (qW e) z) (rW _)
 have cellK:∀x c,X.env.cells.lookup x=some c->∀v,s.heap.IsCell c v->h'.IsCell c v:=λx c e v ⟨o,ho,hd⟩=>by
  have nch:c∉ch:=λz=>(hch c z).2.2.1 x c e rfl
  by_cases hc:c∈X.fs
  ·obtain⟨sl,q⟩:=slot c o (I.cne x c e) hc nch ho (I.freeC x c e);exact⟨_,q,hd⟩
  ·exact⟨o,keep c o (I.cne x c e) hc nch ho (I.freeC x c e),hd⟩
 refine⟨I.ok,I.os,hg,⟨λb o e n hb hx=>?_,λb o e n hb hx=>?_,λb o e n hx=>?_,λb o e hx=>?_,λb xs e=>tups b xs (I.base.tups b xs e),λb o xs e=>frzs b o xs (I.base.frzs b o xs e),λb ps e=>?_⟩,?_,λx c e=>?_,?_,λx c e=>?_,λp hp=>?_,hok,I.len⟩
 ·exact keep b o (neL b o e) hb (neC b o e hx) (I.base.keep b o e n hb hx) (I.base.free b o e n hx)
 ·obtain⟨sl,e1⟩:=I.base.slot b o e n hb hx;obtain⟨sl',e2⟩:=slot b _ (neL b o e) hb (neC b o e hx) e1 (I.base.free b o e n hx);exact⟨sl',e2⟩
 ·obtain⟨o',e1⟩:=I.base.there b o e hx;exact free b o' (neC b o e hx) e1 (I.base.free b o e n hx)
 ·obtain⟨o',e1⟩:=I.base.there b o e hx;exact there b o' (neC b o e hx) e1
 ·obtain⟨m1,e1⟩:=I.base.tbls b ps e;obtain⟨m2,e2⟩:=tbls b _ e1;exact⟨m1++m2,by rw[e2,Array.append_assoc]⟩
 ·obtain⟨m,hn,hl⟩:=I.loc;refine⟨m,ns m hn,λi x v e1 e2 e3=>?_⟩;obtain⟨u,r,l⟩:=hl i x v e1 e2 e3;refine⟨u,r,?_⟩;rcases l with l | ⟨k,c,e,z⟩
  ·exact .inl l
  ·exact .inr ⟨k,c,e,cellK x c e _ z⟩
 ·obtain⟨v,z⟩:=I.cell x c e;exact⟨v,cellK x c e v z⟩
 ·obtain⟨m,⟨o,_,_,ho,_⟩,_⟩:=I.loc;exact free _ o (λz=>(hch _ z).2.1 rfl) ho I.free
 ·obtain⟨v,o,ho,hd⟩:=I.cell x c e;exact free c o (λz=>(hch c z).2.2.1 x c e rfl) ho (I.freeC x c e)
 ·obtain⟨e,n,ne,nf,d⟩:=I.pin p hp;have nch:p.1∉ch:=λz=>(hch p.1 z).2.2.2 p hp rfl
  exact⟨keep p.1 p.2 ne nf nch e n,free p.1 p.2 nch e n,ne,nf,d⟩
theorem Inv.un{t':Nat}(I:Inv X pins σ H s)(u:Un X.fs [] H H' s.heap h')(hok:HOk X.prog X.w H' h'):Inv X pins σ H' {s with heap:=h',toks:=t'}:=by
 obtain⟨m,⟨o,es,ep,ho,r⟩,_⟩:=id I.loc;obtain⟨sl,hL⟩:=u.any ho I.free (by simp);exact I.step (g':=s.gens) (d':=s.drawn) (ch:=[]) (λ_ z=>nomatch z) (λb o _ hb _ e n=>u.keep b o e n hb (by simp)) (λb o _ hb _ e n=>u.slot b o e n hb (by simp)) (λb o _ e n=>u.free b o e n (by simp)) (λb o _ e=>u.there b o e (by simp)) u.tups u.frzs u.tbls (λm' hm=>by
  obtain⟨o',es',ep',ho',r'⟩:=hm;rw[ho]at ho';cases ho';exact⟨_,es',ep',hL,r'⟩) hok I.bare
theorem Inv.call{g':Array GenState}{t':Nat}{d':Drawn}{ch:List Addr}(I:Inv X pins σ H s)(u:Un (frs X.stack) ch H H' s.heap h')(hok:HOk X.prog X.w H' h')(hg:AllBare g')(hch:∀b∈ch,(b∈X.ex\/X.s₀.heap.objs.size<=b)/\b≠X.env.locals/\(∀x c,X.env.cells.lookup x=some c->c≠b)/\∀p∈X.pn++pins,p.1≠b) :
  Inv X pins σ H' {s with heap:=h',gens:=g',drawn:=d',toks:=t'}:=by
 obtain⟨m,⟨o,es,ep,ho,r⟩,_⟩:=id I.loc;obtain⟨sl,hL⟩:=u.any ho I.free λz=>(hch _ z).2.1 rfl
 exact I.step (ch:=ch) hch (λb o hL hb hc e n=>u.keep b o e n (λz=>(qV.mp (I.stkSub b z)).elim hL hb) hc) (λb o _ _ hc e n=>u.any e n hc) (λb o hc e n=>u.free b o e n hc) (λb o hc e=>u.there b o e hc) u.tups u.frzs u.tbls (λm' hm=>by
  obtain⟨o',es',ep',ho',r'⟩:=hm;rw[ho]at ho';cases ho';exact⟨_,es',ep',hL,r'⟩) hok hg
theorem Inv.turned{t':Nat}{it:Addr}(I:Inv X pins σ H s)(k:∀b o,b≠it->s.heap.get? b=some o->h'.get? b=some o)(hn:H it=none)(hL:it≠X.env.locals)(h1:it∈X.ex\/X.s₀.heap.objs.size<=it)(h2:∀x c,X.env.cells.lookup x=some c->c≠it)(h3:∀p∈X.pn++pins,p.1≠it):Inv X pins σ H {s with heap:=h',toks:=t'}:=by
 have nit:∀b u,H b=some u->b≠it:=λb u e z=>by rw[z,hn]at e;cases e
 refine I.step (g':=s.gens) (d':=s.drawn) (ch:=[it]) (λb hb=>?_) (λb o _ _ hc e _=>k b o (λz=>hc (by simp[z])) e) (λb o _ _ hc e _=>⟨o.slots,k b o (λz=>hc (by simp[z])) e⟩) (λ_ _ _ _ n=>n)
  (λb o hc e=>⟨o,k b o (λz=>hc (by simp[z])) e⟩) (λ_ _ e=>e) (λ_ _ _ e=>e) (λb ps e=>⟨#[],by rw[e];simp⟩) (λm hm=>?_) (λb u e=>?_) I.bare
 ·have e:b=it:=by simpa using hb
  subst e;exact⟨h1,hL,h2,h3⟩
 ·obtain⟨o,es,ep,ho,r⟩:=hm;exact⟨o,es,ep,k _ o (Ne.symm hL) ho,r⟩
 ·refine(I.hok b u e).stay (λc v hc q=>k c v ?_ q) (λ_ q=>q) λ_ _ q=>q
  rcases hc with z | z
  ·rw[z];exact nit b u e
  ·exact nit c _ z
theorem Inv.tok(I:Inv X pins σ H s)(t:Nat):Inv X pins σ H {s with toks:=t}:=I.un (h':=s.heap) (t':=t) Un.refl I.hok
theorem Inv.kept{t':Nat}(I:Inv X pins σ H s)(k:∀b u,s.heap.get? b=some u->h'.get? b=some u):Inv X pins σ H {s with heap:=h',toks:=t'}:=I.un (Un.kept k) (I.hok.kept k)
theorem Inv.laid{a:Addr}{o:HO}{t':Nat}(I:Inv X pins σ H s)(k:∀b u,s.heap.get? b=some u->h'.get? b=some u)(hp:s.heap.objs.size<=a)(new:ObjOk X.prog X.w (upd H a o) h' a o) :
  Inv X pins σ (upd H a o) {s with heap:=h',toks:=t'}:=I.un (Un.laid k hp (I.hok.fresh hp)) (I.hok.laid k hp new)
theorem Inv.write{x e:Addr}{o:HO}{t':Nat}(I:Inv X pins σ H s)(mu:Mut (H x))(he:e=x\/H e=some (.own x))(k:∀b u,b≠e->s.heap.get? b=some u->h'.get? b=some u)(heo:∃u,h'.get? e=some u)(new:ObjOk X.prog X.w (upd H x o) h' x o):Inv X pins σ (upd H x o) {s with heap:=h',toks:=t'}:=I.un (Un.write mu he k heo) (I.hok.write mu he k heo new)
theorem Inv.pins_of{pins':List (Addr×Obj)}(I:Inv X pins σ H s)(h:∀p∈pins',s.heap.get? p.1=some p.2/\H p.1=none/\p.1≠X.env.locals/\p.1∉X.fs/\∀v,p.2.data≠.cell v):Inv X pins' σ H s :=
 ⟨I.ok,I.os,I.bare,I.base,I.loc,I.cell,I.free,I.freeC,λp hp=>(qY.mp hp).elim (λz=>I.pin p (yK _ z)) (h p),I.hok,I.len⟩
theorem qgA{N:List Str}(hN:N.Nodup){i j:Nat}{x:Str}(a:N[i]?=some x)(b:N[j]?=some x):i=j:=by
 obtain⟨h1,e1⟩:=qI.mp a;obtain⟨h2,e2⟩:=qI.mp b;exact(List.getElem_inj hN).mp (e1.trans e2.symm)
theorem qfT{M:Model}{A:Around}{E:Value->Shared->Prop}{i:Nat}{x:Str}{v:V}{u:Value}{Q:Unit->Shared->Prop}(I:Inv X pins σ H s)(hN:X.N.Nodup)(hi:X.N[i]?=some x)(hx:Loc X.env.scope x)(r:RelV v u)(h:∀s',Inv X pins (σ.set i (some v)) H s'->(∃a,Heap.SameBut a s.heap s'.heap/\(a=X.env.locals\/X.env.cells.lookup x=some a))->Q () s')(hf:X.fn x=true\/X.env.scope.names.lookup x=some .local:=by first | exact .inl rfl | exact .inr rfl | assumption):wpAny M A (storeName X.env x u) Q E s:=by
 obtain⟨m,hn,hl⟩:=id I.loc;have hcls:(X.env.scope.kind == .class || (X.env.scope.kind == .module && X.env.locals != X.env.globals))=false:=by rw[I.ok.kind];rfl
 have hiσ:i<σ.length:=by rw[I.len];exact(qI.mp hi).1
 have cne:=I.cne;have tracked:∀{a:Addr} {h':Heap},(∃o,s.heap.get? a=some o/\H a=none)->Heap.SameBut a s.heap h'->HOk X.prog X.w H h':=λ{a h'} ha hs b ob e=>by
  obtain⟨_,_,hfree⟩:=ha;refine(I.hok b ob e).stay (λc w' hc q=>(hs.2 c ?_).trans q) (λ_ q=>q) λ_ _ q=>q
  rintro rfl;rcases hc with rfl | hc
  ·rw[hfree]at e;cases e
  ·rw[hfree]at hc;cases hc
 rcases hx with hk | hk
 ·refine wpAny_storeName_local hk hn (λh' hn' hs=>?_) hcls;obtain⟨oL,_,_,hoL,_⟩:=id hn;refine h _ ⟨I.ok,I.os,I.bare,⟨λb o e n hb hx=>?_,λb o e n hb hx=>?_,I.base.free,λb o e hx=>?_,I.base.tups,I.base.frzs,I.base.tbls⟩,⟨_,hn',λj y v' e1 e2 e3=>?_⟩,λy c e=>?_,I.free,I.freeC,λp hp=>?_,tracked ⟨oL,hoL,I.free⟩ hs,by simpa using I.len⟩ ⟨_,hs,.inl rfl⟩
  ·exact(hs.2 b (rJ (rB (qW e) I.ok.above))).trans (I.base.keep b o e n hb hx)
  ·obtain⟨sl,e1⟩:=I.base.slot b o e n hb hx;exact⟨sl,(hs.2 b (rJ (rB (qW e) I.ok.above))).trans e1⟩
  ·obtain⟨o',e1⟩:=I.base.there b o e hx;exact⟨o',(hs.2 b (rJ (rB (qW e) I.ok.above))).trans e1⟩
  ·by_cases hj:j=i
   ·subst hj;rw[hi]at e1;cases e1;rw[List.getElem?_set_self hiσ]at e2;cases e2;exact⟨u,r,.inl ⟨hk,by simp⟩⟩
   ·rw[List.getElem?_set_ne (Ne.symm hj)]at e2;obtain⟨u',r',q⟩:=hl j y v' e1 e2 e3;refine⟨u',r',?_⟩;rcases q with⟨k,e⟩ | ⟨k,c,e,z⟩
    ·refine .inl ⟨k,?_⟩;have:y≠x:=λe=>hj (qgA hN e1 (e ▸ hi))
     simp[this,e]
    ·exact .inr ⟨k,c,e,z.sameBut hs (cne y c e)⟩
  ·obtain⟨w',z⟩:=I.cell y c e;exact⟨w',z.sameBut hs (cne y c e)⟩
  ·obtain⟨e,n,ne,nf,d⟩:=I.pin p hp;exact⟨(hs.2 p.1 ne).trans e,n,ne,nf,d⟩
 ·have hfn:X.fn x=true:=by
   rcases hf with z | z
   ·exact z
   ·rw[z]at hk;cases hk
  obtain⟨c,hc⟩:=I.ok.has x (.inl hk);obtain⟨w',z⟩:=I.cell x c hc;refine wpAny_storeName_cell I.ok.kind hk hc z (λh' hc' hs=>?_);obtain⟨oc,hoc,hocd⟩:=id z;refine h {s with heap:=h'} ⟨I.ok,I.os,I.bare,⟨λb o e n hb hx=>?_,λb o e n hb hx=>?_,I.base.free,λb o e hx=>?_,I.base.tups,I.base.frzs,I.base.tbls⟩,⟨m,hn.sameBut hs (Ne.symm (cne x c hc)),λj y v' e1 e2 e3=>?_⟩,λy c' e=>?_,I.free,I.freeC,λp hp=>?_,tracked ⟨oc,hoc,I.freeC x c hc⟩ hs,by simpa using I.len⟩ ⟨c,hs,.inr hc⟩
  ·exact(hs.2 b (rJ (rB (qW e) (I.ok.cab x c hfn hc)))).trans (I.base.keep b o e n hb hx)
  ·obtain⟨sl,e1⟩:=I.base.slot b o e n hb hx;exact⟨sl,(hs.2 b (rJ (rB (qW e) (I.ok.cab x c hfn hc)))).trans e1⟩
  ·obtain⟨o',e1⟩:=I.base.there b o e hx;exact⟨o',(hs.2 b (rJ (rB (qW e) (I.ok.cab x c hfn hc)))).trans e1⟩
  ·by_cases hj:j=i
   ·subst hj;rw[hi]at e1;cases e1;rw[List.getElem?_set_self hiσ]at e2;cases e2;exact⟨u,r,.inr ⟨.inl hk,c,hc,hc'⟩⟩
   ·rw[List.getElem?_set_ne (Ne.symm hj)]at e2;obtain⟨u',r',q⟩:=hl j y v' e1 e2 e3;refine⟨u',r',?_⟩;rcases q with q | ⟨k,c',e,z'⟩
    ·exact .inl q
    ·refine .inr ⟨k,c',e,z'.sameBut hs ?_⟩;rintro rfl;exact hj (qgA hN e1 (I.ok.inj _ _ _ e hc ▸ hi))
  ·by_cases hcc:c'=c
   ·subst hcc;exact⟨_,hc'⟩
   ·obtain⟨w2,z2⟩:=I.cell y c' e;exact⟨w2,z2.sameBut hs hcc⟩
  ·obtain⟨e,n,ne,nf,d⟩:=I.pin p hp;refine⟨(hs.2 p.1 ?_).trans e,n,ne,nf,d⟩;intro q;rw[q,hoc]at e;have q':oc=p.2:=rD e;exact d w' (by rw[<-q'];exact hocd)
theorem qfo{M:Model}{A:Around}{E:Value->Shared->Prop}{i:Nat}{x:Str}{v:V}{u:Value}{Q:Unit->Shared->Prop}(I:Inv X pins σ H s)(hN:X.N.Nodup)(hi:X.N[i]?=some x)(hx:Loc X.env.scope x)(r:RelV v u)(h:∀s',Inv X pins (σ.set i (some v)) H s'->Q () s')(hf:X.fn x=true\/X.env.scope.names.lookup x=some .local:=by first | exact .inl rfl | exact .inr rfl | assumption):wpAny M A (storeName X.env x u) Q E s :=
 qfT I hN hi hx r (λs' I' _=>h s' I') hf
theorem Inv.call'{s':Shared}{ch:List Addr}(I:Inv X pins σ H s)(ho:s'.os=s.os)(u:Un (frs X.stack) ch H H' s.heap s'.heap)(hok:HOk X.prog X.w H' s'.heap)(hg:AllBare s'.gens)(hch:∀b∈ch,(b∈X.ex\/X.s₀.heap.objs.size<=b)/\b≠X.env.locals/\(∀x c,X.env.cells.lookup x=some c->c≠b)/\∀p∈X.pn++pins,p.1≠b):Inv X pins σ H' s':=by
 obtain⟨h',g',d',t',o'⟩:=s';have e:o'=s.os:=ho;subst e;exact I.call (g':=g') (t':=t') (d':=d') u hok hg hch
end
abbrev XK:=Value->Option Addr->Hp->Prop
abbrev St:=List (Option V)
abbrev VK:=V->Hp->Prop
abbrev TE:=St->Hp->VK->Prop
abbrev TT:=St->Hp->(Bool->Hp->Prop)->Prop
abbrev TA:=St->Hp->(List V->Hp->Prop)->Prop
structure Ends where
 nx:St->Hp->Prop
 rt:VK
 bk:St->Hp->Prop:=λ_ _=>False
 ct:St->Hp->Prop:=λ_ _=>False
abbrev TS:=Ends->St->Hp->Prop
def EP(X:Cx)(pins:List (Addr×Obj))(σ:St)(Q:VK)(u:Value)(s':Shared):Prop:=∃v H',Inv X pins σ H' s'/\RelV v u/\Q v H'
def TP(X:Cx)(pins:List (Addr×Obj))(σ:St)(Q:Bool->Hp->Prop)(b:Bool)(s':Shared):Prop:=∃H',Inv X pins σ H' s'/\Q b H'
def AP(X:Cx)(pins:List (Addr×Obj))(σ:St)(Q:List V->Hp->Prop)(us:List Value)(s':Shared):Prop:=∃vs H',Inv X pins σ H' s'/\Vals vs us/\Q vs H'
def SP(X:Cx)(pins:List (Addr×Obj))(D:Ends)(f:Flow)(s':Shared):Prop :=
 match f with
 | .next=>∃σ' H',Inv X pins σ' H' s'/\D.nx σ' H'
 | .brk=>∃σ' H',Inv X pins σ' H' s'/\D.bk σ' H'
 | .cont=>∃σ' H',Inv X pins σ' H' s'/\D.ct σ' H'
 | .ret u=>∃v σ' H',Inv X pins σ' H' s'/\RelV v u/\D.rt v H'
def PE(X:Cx)(e:Expr)(t:TE):Prop :=
 ∀(pins:List (Addr×Obj)) (s:Shared) (σ:St) (H:Hp) (Q:VK),Inv X pins σ H s->t σ H Q->wpAny (model X.prog X.w) X.A (eval e X.env) (EP X pins σ Q) X.xe s
def PT(X:Cx)(e:Expr)(t:TT):Prop :=
 ∀(pins:List (Addr×Obj)) (s:Shared) (σ:St) (H:Hp) (Q:Bool->Hp->Prop),Inv X pins σ H s->t σ H Q->wpAny (model X.prog X.w) X.A (isTrue e X.env (eval e X.env)) (TP X pins σ Q) X.xe s
def PW(X:Cx)(e:Expr)(t:TT):Prop :=
 ∀(whole:Sem Value) (pins:List (Addr×Obj)) (s:Shared) (σ:St) (H:Hp) (Q:Bool->Hp->Prop),Inv X pins σ H s->t σ H Q->wpAny (model X.prog X.w) X.A (isTrue e X.env whole) (TP X pins σ Q) X.xe s
theorem PW.pt{X:Cx}{e:Expr}{t:TT}(h:PW X e t):PT X e t:=h _
def PA(X:Cx)(es:List Expr)(t:TA):Prop :=
 ∀(pos:Pos) (pins:List (Addr×Obj)) (s:Shared) (σ:St) (H:Hp) (Q:List V->Hp->Prop),Inv X pins σ H s->t σ H Q->wpAny (model X.prog X.w) X.A (spliced (backTo pos (starEach es X.env))) (AP X pins σ Q) X.xe s
def PS(X:Cx)(st:Stmt)(t:TS):Prop :=
 ∀(pins:List (Addr×Obj)) (s:Shared) (σ:St) (H:Hp) (D:Ends),Inv X pins σ H s->t D σ H->wpAny (model X.prog X.w) X.A (exec st X.env) (SP X pins D) X.xe s
def PSs(X:Cx)(st:List Stmt)(t:TS):Prop :=
 ∀(pins:List (Addr×Obj)) (s:Shared) (σ:St) (H:Hp) (D:Ends),Inv X pins σ H s->t D σ H->wpAny (model X.prog X.w) X.A (execs st X.env) (SP X pins D) X.xe s
theorem thn{α:Type}{t:Sem α}{Q Q':α->Shared->Prop}{M:Model}{A:Around}{E:Value->Shared->Prop}{s:Shared}(h:wpAny M A t Q E s)(hQ:∀a s,Q a s->Q' a s):wpAny M A t Q' E s:=xC h hQ λ_ _ x=>x
section
variable{X:Cx}
def tVar(i:Nat):TE:=λσ H Q=>∃v,σ[i]?=some (some v)/\Q v H
def tC(v:V):TE:=λ_ H Q=>Q v H
theorem pe_var{i:Nat}{x:Str}{pos:Pos}(hN:X.N[i]?=some x)(hv:Vis X.env.scope x)(hd:(x == ("__debug__" : Str))=false:=by decide)(hcd:(x == ("__classdict__" : Str))=false:=by decide):PE X (.Name x pos) (tVar i):=by
 intro pins s σ H Q I h;obtain⟨v,e,h⟩:=h;obtain⟨m,hn,hl⟩:=I.loc;obtain⟨u,r,l⟩:=hl i x v hN e hv;have fin:EP X pins σ Q u s:=⟨v,H,I,r,h⟩;rcases l with⟨hk,hm⟩ | ⟨hk,c,hc,hcell⟩
 ·exact wpAny_Name (wpAny_loadName_local I.ok.kind hk hn hm fin) hd
 ·rcases hk with hk | hk
  ·exact wpAny_Name (wpAny_loadName_cell I.ok.kind hk hc hcell fin) hd
  ·exact wpAny_Name (wpAny_loadName_free I.ok.kind hk hc hcell fin hcd) hd
theorem qaf{i j pos}:PE X (.Constant (.int i) j pos) (tC (.int i)):=λ_ _ _ H _ I h=>wpAny_Constant_int ⟨.int i,H,I.tok _,⟨_,rfl⟩,h⟩
theorem qeN{b j pos}:PE X (.Constant (.bool b) j pos) (tC (.bl b)):=λ_ _ _ H _ I h=>Constant_bool ⟨.bl b,H,I,rfl,h⟩
theorem qdc{j pos}:PE X (.Constant .none j pos) (tC .non):=λ_ _ _ H _ I h=>Constant_none ⟨.non,H,I,rfl,h⟩
theorem qag{x j pos}:PE X (.Constant (.str x) j pos) (tC (.str x)):=λ_ _ _ H _ I h=>Calls.Constant_str ⟨.str x,H,I.tok _,⟨_,rfl⟩,h⟩
def Gl(X:Cx)(x:Str):Prop:=X.env.kindOf x=some .globalImplicit
theorem qfk{E:Value->Shared->Prop}{pins:List (Addr×Obj)}{s:Shared}{σ:St}{H:Hp}{x:Str}{u:Value}{pos:Pos}{Q:Value->Shared->Prop}(I:Inv X pins σ H s)(hg:Gl X x)(hm:X.mg x=some u)(h:Q u s)(hd:(x == ("__debug__" : Str))=false:=by decide):wpAny (model X.prog X.w) X.A (eval (.Name x pos) X.env) Q E s :=
 Calls.Name_function_global I.ok.kind hg (Calls.loadGlobal_global (by rw[I.ok.glob];exact I.mod.glob.keeps I.bk) hm h) hd
theorem qdz{E:Value->Shared->Prop}{pins:List (Addr×Obj)}{s:Shared}{σ:St}{H:Hp}{x:Str}{u:Value}{pos:Pos}{Q:Value->Shared->Prop}(I:Inv X pins σ H s)(hg:Gl X x)(hm:X.mg x=none)(hv:bootBuiltins x=some u)(h:Q u s)(hn:x ≠ "__name__":=by decide)(hd:(x == ("__debug__" : Str))=false:=by decide):wpAny (model X.prog X.w) X.A (eval (.Name x pos) X.env) Q E s:=by
 obtain⟨mb,h1,h2⟩:=I.mod.blt;exact Calls.Name_function_global I.ok.kind hg (Calls.loadGlobal_builtin (by rw[I.ok.glob];exact I.mod.glob.keeps I.bk) hm (by rw[I.ok.blt];exact h1.keeps I.bk) ((h2 x hn).trans hv) h) hd
theorem qak{x:Str}{v:V}{u:Value}{pos:Pos}(hg:Gl X x)(hm:X.mg x=some u)(r:RelV v u)(hd:(x == ("__debug__" : Str))=false:=by decide):PE X (.Name x pos) (tC v) :=
 λ_ _ _ H _ I h=>qfk I hg hm ⟨v,H,I,r,h⟩ hd
theorem pe_bltn{x:Str}{v:V}{u:Value}{pos:Pos}(hg:Gl X x)(hm:X.mg x=none)(hv:bootBuiltins x=some u)(r:RelV v u)(hn:x ≠ "__name__":=by decide)(hd:(x == ("__debug__" : Str))=false:=by decide):PE X (.Name x pos) (tC v) :=
 λ_ _ _ H _ I h=>qdz I hg hm hv ⟨v,H,I,r,h⟩ hn hd
variable{a b:Expr}{ta tb:TE}{pos:Pos}
def PC(X:Cx)(op:CmpOp)(a b:Expr)(t:TE):Prop :=
 ∀(pins:List (Addr×Obj)) (s:Shared) (σ:St) (H:Hp) (Q:VK),Inv X pins σ H s->t σ H Q ->
  wpAny (model X.prog X.w) X.A (eval a X.env) (λv s₁=>wpAny (model X.prog X.w) X.A (eval b X.env) (λu s₂=>wpAny (model X.prog X.w) X.A (compareOp op v u) (EP X pins σ Q) X.xe s₂) X.xe s₁) X.xe s
theorem nobehind(b:Expr){op:CmpOp}(h:op≠.In)(h2:op≠.NotIn):behindInMarks op b=false:=by
 have e1:(op == CmpOp.In)=false:=by cases op<;>first | rfl | exact absurd rfl h
 have e2:(op == CmpOp.NotIn)=false:=by cases op<;>first | rfl | exact absurd rfl h2
 cases b<;>simp[behindInMarks,e1,e2]
def tIsN(ta:TE):TE:=λσ H Q=>ta σ H λx H1=>Q (.bl (decide (x=.non))) H1
def tNotN(ta:TE):TE:=λσ H Q=>ta σ H λx H1=>Q (.bl (!decide (x=.non))) H1
theorem RelV.none_iff{x:V}{v:Value}(r:RelV x v):(v == Value.none)=decide (x=.non):=by
 cases x with
 | non=>cases r;rfl
 | bl _=>cases r;rfl
 | int _=>obtain⟨t,rfl⟩:=r;rfl
 | str _=>obtain⟨t,rfl⟩:=r;rfl
 | byt _=>obtain⟨t,rfl⟩:=r;rfl
 | flt _=>obtain⟨t,rfl⟩:=r;rfl
 | ref _=>cases r;rfl
 | ty _=>cases r;rfl
theorem qhQ{j pos'}(ha:PE X a ta):PC X .Is a (.Constant .none j pos') (tIsN ta):=by
 intro pins s σ H Q I h;refine thn (ha pins s σ H _ I h) λv s1 ⟨x,H1,I1,r1,q1⟩=>?_
 exact Constant_none (is_none_gen ⟨.bl _,H1,I1,by rw[r1.none_iff];rfl,q1⟩)
theorem pc_notN{j pos'}(ha:PE X a ta):PC X .IsNot a (.Constant .none j pos') (tNotN ta):=by
 intro pins s σ H Q I h;refine thn (ha pins s σ H _ I h) λv s1 ⟨x,H1,I1,r1,q1⟩=>?_
 exact Constant_none (isnot_none_gen ⟨.bl _,H1,I1,by rw[r1.none_iff];rfl,q1⟩)
def tB(t:TE):TT:=λσ H Q=>t σ H λx H1=>∃c,x=.bl c/\Q c H1
theorem qgX{op:CmpOp}{t:TE}(h:PC X op a b t)(h1:behindInMarks op b=false:=by first | exact nobehind _ (by decide) (by decide) | rfl):PT X (.Compare a [op] [b] pos) (tB t):=by
 intro pins s σ H Q I hw;refine wpAny_isTrue_Compare1 (thn (h pins s σ H _ I hw) λv s1 h1=>thn h1 λu s2 h2=>thn h2 λc s3 ⟨x,H1,I1,r1,q1⟩=>?_) h1;obtain⟨d,rfl,q⟩:=q1;cases r1;exact xP ⟨H1,I1,q⟩
theorem qbk{e:Expr}{t:TE}(h:PE X e t)(he:∀ whole,isTrue e X.env whole=(do let v <- whole; standAt e.pos; holding [v] (truthy v)):=by intro _; rfl):PT X e (tB t):=by
 intro pins s σ H Q I hw
 refine isTrue_plain (thn (h pins s σ H _ I hw) λv s1 ⟨x,H1,I1,r1,q1⟩=>?_) (he _)
 obtain ⟨d,rfl,q⟩:=q1
 cases r1
 exact xP ⟨H1,I1,q⟩
variable{tA tB':TT}{rest:List Expr}
def tAnd(t u:TT):TT:=λσ H Q=>t σ H λc H1=>if c=true then u σ H1 Q else Q false H1
def tOr(t u:TT):TT:=λσ H Q=>t σ H λc H1=>if c=true then Q true H1 else u σ H1 Q
def tNot(t:TT):TT:=λσ H Q=>t σ H λc H1=>Q (!c) H1
theorem qbD(ha:PT X a tA):PW X (.BoolOp .And [a] pos) tA:=by
 intro wh pins s σ H Q I h;refine isTrue_and (thn (ha pins s σ H Q I h) λc s1 e=>?_);cases c with
 | true=>exact isTrue_and_nil e
 | false=>exact e
theorem qcg(ha:PT X a tA):PW X (.BoolOp .Or [a] pos) tA:=by
 intro wh pins s σ H Q I h;refine isTrue_or (thn (ha pins s σ H Q I h) λc s1 e=>?_);cases c with
 | false=>exact isTrue_or_nil e
 | true=>exact e
theorem qcb(ha:PT X a tA)(hb:PW X (.BoolOp .And (b::rest) pos) tB'):PW X (.BoolOp .And (a::b::rest) pos) (tAnd tA tB'):=by
 intro wh pins s σ H Q I h;refine isTrue_and (thn (ha pins s σ H _ I h) λc s1 ⟨H1,I1,q1⟩=>?_);cases c with
 | true=>exact hb wh pins s1 σ H1 Q I1 q1
 | false=>exact⟨H1,I1,q1⟩
theorem qdi(ha:PT X a tA)(hb:PW X (.BoolOp .Or (b::rest) pos) tB'):PW X (.BoolOp .Or (a::b::rest) pos) (tOr tA tB'):=by
 intro wh pins s σ H Q I h;refine isTrue_or (thn (ha pins s σ H _ I h) λc s1 ⟨H1,I1,q1⟩=>?_);cases c with
 | true=>exact⟨H1,I1,q1⟩
 | false=>exact hb wh pins s1 σ H1 Q I1 q1
theorem qb0(ha:PT X a tA):PT X (.UnaryOp .Not a pos) (tNot tA):=by
 intro pins s σ H Q I h;exact isTrue_not (ha pins s σ H (λc H1=>Q (!c) H1) I h)
def tAndV(ta tb:TE):TE:=λσ H Q=>ta σ H λx H1=>∃c,x=.bl c/\if c=true then tb σ H1 Q else Q (.bl false) H1
def tOrV(ta tb:TE):TE:=λσ H Q=>ta σ H λx H1=>∃c,x=.bl c/\if c=true then Q (.bl true) H1 else tb σ H1 Q
def tNotV(ta:TE):TE:=λσ H Q=>ta σ H λx H1=>∃c,x=.bl c/\Q (.bl (!c)) H1
theorem qdb{op}{t:TE}(h:PE X a t):PE X (.BoolOp op [a] pos) t:=λpins s σ H Q I hw=>BoolOp_one (h pins s σ H Q I hw)
theorem qdr(ha:PE X a ta)(hb:PE X (.BoolOp .And (b::rest) pos) tb):PE X (.BoolOp .And (a::b::rest) pos) (tAndV ta tb):=by
 intro pins s σ H Q I h;refine BoolOp_and (thn (ha pins s σ H _ I h) λv s1 ⟨x,H1,I1,r1,q1⟩=>?_);obtain⟨c,rfl,q1⟩:=q1;cases r1;refine xP ?_;cases c with
 | true=>exact hb pins s1 σ H1 Q I1 q1
 | false=>exact⟨.bl false,H1,I1,rfl,q1⟩
theorem qh0(ha:PE X a ta)(hb:PE X (.BoolOp .Or (b::rest) pos) tb):PE X (.BoolOp .Or (a::b::rest) pos) (tOrV ta tb):=by
 intro pins s σ H Q I h;refine BoolOp_or (thn (ha pins s σ H _ I h) λv s1 ⟨x,H1,I1,r1,q1⟩=>?_);obtain⟨c,rfl,q1⟩:=q1;cases r1;refine xP ?_;cases c with
 | false=>exact hb pins s1 σ H1 Q I1 q1
 | true=>exact⟨.bl true,H1,I1,rfl,q1⟩
theorem pe_not(ha:PE X a ta):PE X (.UnaryOp .Not a pos) (tNotV ta):=by
 intro pins s σ H Q I h;refine UnaryOp_ (thn (ha pins s σ H _ I h) λv s1 ⟨x,H1,I1,r1,q1⟩=>?_);obtain⟨c,rfl,q1⟩:=q1;cases r1;exact not_of (xP ⟨.bl (!c),H1,I1,rfl,q1⟩)
def tIf(t:TT)(ta tb:TE):TE:=λσ H Q=>t σ H λc H1=>if c=true then ta σ H1 Q else tb σ H1 Q
theorem qcd{c:Expr}(hc:PT X c tA)(ha:PE X a ta)(hb:PE X b tb):PE X (.IfExp c a b pos) (tIf tA ta tb):=by
 intro pins s σ H Q I h;refine wpAny_IfExp (thn (hc pins s σ H _ I h) λd s1 ⟨H1,I1,q1⟩=>?_);cases d with
 | true=>exact ha pins s1 σ H1 Q I1 q1
 | false=>exact hb pins s1 σ H1 Q I1 q1
end
def SqL(K:W.Frag)(H:Hp)(a:Addr)(xs:List V):Prop :=
 Rd H a (.lst xs) \/
  ∃(o:Obj) (its:Array Value) (n:Nat),K.lookup a=some o/\o.cls=.type "list" /\ o.dict=none/\o.data=.seq its n/\its.size<=sizeLine/\Vals xs its.toList
def SqT(K:W.Frag)(H:Hp)(a:Addr)(xs:List V):Prop :=
 Rd H a (.tup xs) \/
  ∃(o:Obj) (its:Array Value) (n:Nat),K.lookup a=some o/\o.cls=.type "tuple" /\ o.data=.seq its n/\its.size<=sizeLine/\Vals xs its.toList
def absV:Value->Option V
 | .none=>some .non
 | .bool b=>some (.bl b)
 | .int i _=>some (.int i)
 | .str x _=>some (.str x)
 | .bytes b _=>some (.byt b)
 | .float b _=>some (.flt b)
 | .ref a=>some (.ref a)
 | .type n=>some (.ty n)
 | _=>none
theorem RelV.abs{x:V}{u:Value}(r:RelV x u):absV u=some x:=by
 cases x with
 | non=>cases r;rfl
 | bl _=>cases r;rfl
 | int _=>obtain⟨t,rfl⟩:=r;rfl
 | str _=>obtain⟨t,rfl⟩:=r;rfl
 | byt _=>obtain⟨t,rfl⟩:=r;rfl
 | flt _=>obtain⟨t,rfl⟩:=r;rfl
 | ref _=>cases r;rfl
 | ty _=>cases r;rfl
theorem RelV.inj{x y:V}{u:Value}(r:RelV x u)(q:RelV y u):x=y:=rD (r.abs.symm.trans q.abs)
theorem Vals.inj:∀{xs ys:List V} {us:List Value},Vals xs us->Vals ys us->xs=ys
 | _,_,_,.nil,.nil=>rfl
 | _,_,_,.cons r t,.cons r' t'=>by rw[r.inj r',Vals.inj t t']
section
variable{X:Cx}{pins:List (Addr×Obj)}{σ:St}{H:Hp}{s:Shared}{a:Addr}{xs ys:List V}
theorem SqL.of{K:W.Frag}(h:H a=some (.lst xs)):SqL K H a xs:=.inl (.inl h)
theorem SqT.of{K:W.Frag}(h:H a=some (.tup xs)):SqT K H a xs:=.inl (.inl h)
theorem Inv.list(I:Inv X pins σ H s)(h:SqL X.K H a xs):∃its:List Value,Vals xs its/\PlainL s.heap a its.toArray/\xs.length<=sizeLine:=by
 rcases h with h | ⟨o,its,n,hk,hc,hd,hs,hz,r⟩
 ·obtain⟨z,its,n,r,e⟩:=h.ok I.hok;exact⟨its,r,⟨_,n,e,rfl,rfl,rfl⟩,z⟩
 ·refine⟨its.toList,r,⟨o,n,I.kIn a o hk,hc,hd,by simpa using hs⟩,?_⟩;have e:=r.length;simp only[Array.length_toList]at e;omega
theorem Inv.tuple(I:Inv X pins σ H s)(h:SqT X.K H a xs):∃its:List Value,Vals xs its/\IsTup s.heap a its.toArray/\xs.length<=sizeLine:=by
 rcases h with h | ⟨o,its,n,hk,hc,hs,hz,r⟩
 ·obtain⟨z,its,r,p⟩:=h.ok I.hok;exact⟨its,r,p,z⟩
 ·refine⟨its.toList,r,⟨o,I.kIn a o hk,hc,n,by simpa using hs⟩,?_⟩;have e:=r.length;simp only[Array.length_toList]at e;omega
theorem Inv.list_inj(I:Inv X pins σ H s)(h:SqL X.K H a xs)(h':SqL X.K H a ys):xs=ys:=by
 obtain⟨its,r,⟨o,n,e,_,_,d⟩,_⟩:=I.list h;obtain⟨its',r',⟨o',n',e',_,_,d'⟩,_⟩:=I.list h';rw[e]at e';cases e';rw[d]at d';injection d' with d1 _
 have:its=its':=by simpa using xN Array.toList d1
 subst this;exact r.inj r'
end
abbrev Cx.wish(X:Cx)(E:Value->Shared->Prop):Cx:={X with xe:=E}
abbrev Cx.nox(X:Cx):Cx:=X.wish λ_ _=>False
theorem Cx.Ok.wish{X:Cx}(ok:X.Ok)(E:Value->Shared->Prop):(X.wish E).Ok :=
 ⟨ok.mod,ok.kind,ok.glob,ok.blt,ok.above,ok.inj,ok.has,ok.cab,ok.hd,ok.frames,ok.stk,ok.exf,ok.bs,ok.bsz,ok.noex,ok.exfs,ok.funs,ok.frf⟩
theorem Cx.Ok.unwish{X:Cx}{E:Value->Shared->Prop}(ok:(X.wish E).Ok):X.Ok :=
 ⟨ok.mod,ok.kind,ok.glob,ok.blt,ok.above,ok.inj,ok.has,ok.cab,ok.hd,ok.frames,ok.stk,ok.exf,ok.bs,ok.bsz,ok.noex,ok.exfs,ok.funs,ok.frf⟩
section
variable{X:Cx}{pins:List (Addr×Obj)}{σ:St}{H:Hp}{s:Shared}{E:Value->Shared->Prop}
theorem Inv.wish(I:Inv X pins σ H s)(E:Value->Shared->Prop):Inv (X.wish E) pins σ H s:=⟨I.ok.wish E,I.os,I.bare,I.base,I.loc,I.cell,I.free,I.freeC,I.pin,I.hok,I.len⟩
theorem Inv.unwish(I:Inv (X.wish E) pins σ H s):Inv X pins σ H s:=⟨I.ok.unwish,I.os,I.bare,I.base,I.loc,I.cell,I.free,I.freeC,I.pin,I.hok,I.len⟩
theorem SP.unwish{D:Ends}{f:Flow}{s':Shared}(h:SP (X.wish E) pins D f s'):SP X pins D f s':=by
 cases f with
 | next=>obtain⟨σ',H',I,q⟩:=h;exact⟨σ',H',I.unwish,q⟩
 | brk=>obtain⟨σ',H',I,q⟩:=h;exact⟨σ',H',I.unwish,q⟩
 | cont=>obtain⟨σ',H',I,q⟩:=h;exact⟨σ',H',I.unwish,q⟩
 | ret u=>obtain⟨v,σ',H',I,r,q⟩:=h;exact⟨v,σ',H',I.unwish,r,q⟩
theorem PSs.nox{st:List Stmt}{t:TS}(h:PSs X.nox st t):PSs X st t:=λpins s σ H D I hw =>
 xC (h pins s σ H D (I.wish _) hw) (λ_ _ q=>q.unwish) λ_ _ z=>False.elim z
end
section
variable{X:Cx}{st:Stmt}{rest:List Stmt}{t u:TS}{e:Expr}{te:TE}{pos:Pos}
def tNext:TS:=λD σ H=>D.nx σ H
def tSeq(t u:TS):TS:=λD σ H=>t {D with nx:=u D} σ H
theorem pss_nil:PSs X [] tNext:=λ_ _ σ H _ I h=>vC ⟨σ,H,I,h⟩
theorem qad(h1:PS X st t)(h2:PSs X rest u):PSs X (st::rest) (tSeq t u):=by
 intro pins s σ H D I h;refine wpAny_execs_cons (thn (h1 pins s σ H {D with nx:=u D} I h) λf s1 q=>?_);cases f with
 | next =>
   obtain⟨σ',H',I',q⟩:=q
   exact h2 pins s1 σ' H' D I' q
 | ret v=>exact q
 | brk=>exact q
 | cont=>exact q
theorem qae(h1:PS X st t):PSs X [st] t:=by
 intro pins s σ H D I h;refine wpAny_execs_cons (thn (h1 pins s σ H D I h) λf s1 q=>?_);cases f with
 | next=>exact vC q
 | ret v=>exact q
 | brk=>exact q
 | cont=>exact q
theorem Inv.quiet{pins:List (Addr×Obj)}{σ:St}{H:Hp}{s:Shared}(I:Inv X pins σ H s):interactive X.env=false:=by simp[interactive,I.ok.kind]
def tDrop(te:TE):TS:=λD σ H=>te σ H λ_ H1=>D.nx σ H1
theorem qaC(he:PE X e te)(hs:swapsWith e none pos.line X.env=pure false:=by rfl):PS X (.Expr e pos) (tDrop te):=by
 intro pins s σ H D I h;exact wpAny_Expr_any (thn (he pins s σ H _ I h) λv s1 ⟨x,H1,I1,r1,q1⟩=>⟨σ,H1,I1,q1⟩) I.quiet hs
def tRet(te:TE):TS:=λD σ H=>te σ H D.rt
theorem qap(he:PE X e te):PS X (.Return (some e) pos) (tRet te):=by
 intro pins s σ H D I h;exact wpAny_Return_some (thn (he pins s σ H _ I h) λv s1 ⟨x,H1,I1,r1,q1⟩=>⟨x,σ,H1,I1,r1,q1⟩)
def tRetN:TS:=λD _ H=>D.rt .non H
theorem ps_retN:PS X (.Return none pos) tRetN:=λ_ _ σ H _ I h=>wpAny_Return_none ⟨.non,σ,H,I,rfl,h⟩
def tIfS(c:TT)(t u:TS):TS:=λD σ H=>c σ H λb H1=>if b=true then t D σ H1 else u D σ H1
theorem qaH{c:Expr}{a b:List Stmt}{tc:TT}(hc:PT X c tc)(ha:PSs X a t)(hb:PSs X b u):PS X (.If c a b pos) (tIfS tc t u):=by
 intro pins s σ H D I h;refine wpAny_If (thn (hc pins s σ H _ I h) λd s1 ⟨H1,I1,q1⟩=>?_);cases d with
 | true=>exact ha pins s1 σ H1 D I1 q1
 | false=>exact hb pins s1 σ H1 D I1 q1
end
abbrev TG:=V->St->Hp->(St->Hp->Prop)->Prop
abbrev TGs:=List V->St->Hp->(St->Hp->Prop)->Prop
def PG(X:Cx)(target:Expr)(t:TG):Prop :=
 ∀(pins:List (Addr×Obj)) (s:Shared) (σ:St) (H:Hp) (v:V) (u:Value) (Q:St->Hp->Prop),Inv X pins σ H s->RelV v u->t v σ H Q ->
  wpAny (model X.prog X.w) X.A (assign target X.env u) (λ_ s'=>∃σ' H',Inv X pins σ' H' s'/\Q σ' H') X.xe s
def PGs(X:Cx)(ts:List Expr)(t:TGs):Prop :=
 ∀(pins:List (Addr×Obj)) (s:Shared) (σ:St) (H:Hp) (vs:List V) (us:List Value) (Q:St->Hp->Prop),Inv X pins σ H s->Vals vs us->t vs σ H Q ->
  wpAny (model X.prog X.w) X.A (assignInOrder ((assignEach ts X.env).map (·.2)) us) (λ_ s'=>∃σ' H',Inv X pins σ' H' s'/\Q σ' H') X.xe s
abbrev TSet:=V->V->V->Hp->(Hp->Prop)->Prop
def PSet(X:Cx)(t:TSet):Prop :=
 ∀(pins:List (Addr×Obj)) (s:Shared) (σ:St) (H:Hp) (o i v:V) (ov iv u:Value) (Q:Hp->Prop),Inv X pins σ H s->RelV o ov->RelV i iv->RelV v u->t o i v H Q ->
  wpAny (model X.prog X.w) X.A (setItem ov iv u) (λ_ s'=>∃H',Inv X pins σ H' s'/\Q H') X.xe s
abbrev TIp:=V->V->Hp->VK->Prop
def PIp(X:Cx)(op:Operator)(t:TIp):Prop :=
 ∀(pins:List (Addr×Obj)) (s:Shared) (σ:St) (H:Hp) (x y:V) (v u:Value) (Q:VK),Inv X pins σ H s->RelV x v->RelV y u->t x y H Q ->
  wpAny (model X.prog X.w) X.A (inplaceOp op v u) (EP X pins σ Q) X.xe s
section
variable{X:Cx}{pos:Pos}
def qbu(i:Nat):TG:=λv σ H Q=>Q (σ.set i (some v)) H
theorem qas{i:Nat}{x:Str}(hN:X.N.Nodup)(hi:X.N[i]?=some x)(hx:Loc X.env.scope x)(hf:X.fn x=true\/X.env.scope.names.lookup x=some .local:=by first | exact .inl rfl | exact .inr rfl | assumption):PG X (.Name x pos) (qbu i):=by
 intro pins s σ H v u Q I r h;exact wpAny_assign_Name (qfo I hN hi hx r (λs' I'=>⟨_,H,I',h⟩) hf)
def gNil:TGs:=λvs σ H Q=>vs=[]/\Q σ H
def gCons(t:TG)(u:TGs):TGs:=λvs σ H Q=>∃v r,vs=v::r/\t v σ H λσ' H'=>u r σ' H' Q
theorem pgs_nil:PGs X [] gNil:=by
 intro pins s σ H vs us Q I r h;obtain⟨e,h⟩:=h;subst e;cases r;exact assignInOrder_nil ⟨σ,H,I,h⟩
theorem qaL{e:Expr}{es:List Expr}{t:TG}{u:TGs}(h1:PG X e t)(h2:PGs X es u)(hs:(assignEach (e::es) X.env).map (·.2)=assign e X.env::(assignEach es X.env).map (·.2):=by rfl):PGs X (e::es) (gCons t u):=by
 intro pins s σ H vs us Q I r h;obtain⟨v,vr,e1,h⟩:=h;subst e1;cases r with
 | cons r rr =>
   rw[hs]
   refine assignInOrder_cons (thn (h1 pins s σ H _ _ _ I r h) λ_ s1 ⟨σ1,H1,I1,q1⟩=>?_)
   exact h2 pins s1 σ1 H1 _ _ Q I1 rr q1
def gTup(K:W.Frag)(n:Nat)(t:TGs):TG:=λv σ H Q=>∃a xs,v=.ref a/\SqT K H a xs/\xs.length=n/\t xs σ H Q
theorem qes{es:List Expr}{k:Nat}{t:TGs}{n:Nat}(hc:X.calm=true)(h:PGs X es t)(hn:(assignEach es X.env).length=n:=by rfl)(hst:(assignEach es X.env).findIdx? (·.1)=none:=by rfl):PG X (.Tuple es k pos) (gTup X.K n t):=by
 intro pins s σ H v u Q I r hw;obtain⟨a,xs,e1,hq,hl,hw⟩:=hw;subst e1;cases r;obtain⟨its,rv,ht,hz⟩:=I.tuple hq;refine assign_Tuple_tuple (I.ok.hd hc) ht (by simp[hn,<-hl,rv.length]) hst λh' hx=>?_
 have I1:Inv X pins σ H {s with heap:=h'}:=I.kept (t':=s.toks) λb o e=>hx b o (rJ (qW e)) e
 exact h pins _ σ H xs _ Q I1 (by simpa using rv) hw
def gSub(to ti:TE)(t:TSet):TG:=λv σ H Q=>to σ H λo H1=>ti σ H1 λi H2=>t o i v H2 λH3=>Q σ H3
theorem qf3{o i:Expr}{to ti:TE}{t:TSet}(ho:PE X o to)(hi:PE X i ti)(hs:PSet X t)(ha:∀ v,assign (.Subscript o i pos) X.env v=(do
   let ov <- holding [v] (eval o X.env)
   let iv <- holding [v,ov] (eval i X.env)
   standAt pos
   holding [v,ov,iv] (setItem ov iv v)
   release [v,ov,iv] []):=by intro _; rfl):PG X (.Subscript o i pos) (gSub to ti t):=by
 intro pins s σ H v u Q I r h
 rw [ha]
 refine qE (yJ (thn (ho pins s σ H _ I h) λov s1 ⟨x,H1,I1,r1,q1⟩=>?_))
 refine qE (yJ (thn (hi pins s1 σ H1 _ I1 q1) λiv s2 ⟨y,H2,I2,r2,q2⟩=>?_))
 refine qE (vY (qE (yJ (thn (hs pins s2 σ H2 x y v ov iv u _ I2 r1 r2 r q2) λ_ s3 ⟨H3,I3,q3⟩=>?_))))
 exact wpAny_release ⟨σ,H3,I3,q3⟩
def tAsg(te:TE)(g:TG):TS:=λD σ H=>te σ H λx H1=>g x σ H1 D.nx
theorem qer{tg e:Expr}{te:TE}{g:TG}(he:PE X e te)(hg:PG X tg g)(hs:swapsWithSole [tg] e pos.line X.env=pure false:=by rfl)(hw:swappedStores [tg] e X.env=pure none:=by rfl)(h1:(assignEach [tg] X.env).map (·.2)=[assign tg X.env]:=by rfl):PS X (.Assign [tg] e pos) (tAsg te g):=by
 intro pins s σ H D I h;refine wpAny_Assign_stores (thn (he pins s σ H _ I h) λv s1 ⟨x,H1,I1,r1,q1⟩=>?_) hs hw;rw[h1];exact thn (hg pins s1 σ H1 x v _ I1 r1 q1) λ_ s2 q=>q
theorem qaq{i:Nat}{x:Str}{e:Expr}{te:TE}{pos':Pos}(hN:X.N.Nodup)(hi:X.N[i]?=some x)(hx:Loc X.env.scope x)(he:PE X e te)(hs:swapsWith e (some (.Name x pos')) pos.line X.env=pure false:=by rfl)(hf:X.fn x=true\/X.env.scope.names.lookup x=some .local:=by first | exact .inl rfl | exact .inr rfl | assumption) :
  PS X (.Assign [.Name x pos'] e pos) (tAsg te (qbu i)):=by
 intro pins s σ H D I h;refine wpAny_Assign_Name (thn (he pins s σ H _ I h) λv s1 ⟨y,H1,I1,r1,q1⟩=>?_) hs;exact qfo I1 hN hi hx r1 (λs2 I2=>⟨_,H1,I2,q1⟩) hf
def tAug(i:Nat)(te:TE)(ti:TIp):TS:=λD σ H=>∃x,σ[i]?=some (some x)/\te σ H λy H1=>ti x y H1 λz H2=>D.nx (σ.set i (some z)) H2
theorem qhq{i:Nat}{x:Str}{e:Expr}{te:TE}{op:Operator}{ti:TIp}{pos':Pos}(hN:X.N.Nodup)(hi:X.N[i]?=some x)(hx:Loc X.env.scope x)(he:PE X e te)(ho:PIp X op ti)(hf:X.fn x=true\/X.env.scope.names.lookup x=some .local:=by first | exact .inl rfl | exact .inr rfl | assumption) :
  PS X (.AugAssign (.Name x pos') op e pos) (tAug i te ti):=by
 intro pins s σ H D I h;obtain⟨v,e1,h⟩:=h;obtain⟨m,hn,hl⟩:=I.loc;have vis:Vis X.env.scope x:=by rcases hx with k | k;exact .inl k;exact .inr (.inl k)
 obtain⟨u,r,l⟩:=hl i x v hi e1 vis;refine wpAny_AugAssign_Name ?_;have go:wpAny (model X.prog X.w) X.A (eval e X.env) (λw s₂=>wpAny (model X.prog X.w) X.A (inplaceOp op u w) (λr s₃=>wpAny (model X.prog X.w) X.A (storeName X.env x r) (λ_=>SP X pins D .next) X.xe s₃) X.xe s₂) X.xe s:=by
  refine thn (he pins s σ H _ I h) λw s1 ⟨y,H1,I1,r1,q1⟩=>?_
  refine thn (ho pins s1 σ H1 v y u w _ I1 r r1 q1) λz s2 ⟨zv,H2,I2,r2,q2⟩=>?_
  exact qfo I2 hN hi hx r2 (λs3 I3=>⟨_,H2,I3,q2⟩) hf
 rcases l with⟨hk,hm⟩ | ⟨hk,c,hc,hcell⟩
 ·exact wpAny_loadName_local I.ok.kind hk hn hm go
 ·rcases hk with hk | hk
  ·exact wpAny_loadName_cell I.ok.kind hk hc hcell go
  ·rcases hx with k | k
   ·have:X.env.scope.names.lookup x=some .free:=hk;rw[k]at this;cases this
   ·have:X.env.scope.names.lookup x=some .free:=hk;rw[k]at this;cases this
def ipI(f:Int->Int->Int):TIp:=λx y H Q=>∃i j,x=.int i/\y=.int j/\Q (.int (f i j)) H
theorem ip_add:PIp X .Add (ipI λi j=>i+j):=by
 intro pins s σ H x y v u Q I r1 r2 h;obtain⟨i,j,e1,e2,q⟩:=h;subst e1;subst e2;obtain⟨t,rfl⟩:=r1;obtain⟨t',rfl⟩:=r2;exact iadd_int ⟨.int _,H,I.tok _,⟨_,rfl⟩,q⟩
def tWhile(c:TT)(tb:TS):TS:=λD σ H=>∃W:Nat->St->Hp->Prop,(∃m,W m σ H)/\∀m σ H,W m σ H ->
 c σ H λb H1=>if b=true then∃N:St->Hp->Prop,(∀σ' H',N σ' H'->∃m',m'<m/\W m' σ' H')/\tb {D with nx:=N,ct:=N,bk:=D.nx} σ H1 else D.nx σ H1
theorem qd7{c:Expr}{body:List Stmt}{tc:TT}{tb:TS}(hp:PassesOwn (model X.prog X.w) X.A X.env X.xe)(hc:PT X c tc)(hb:PSs X body tb):PS X (.While c body [] pos) (tWhile tc tb):=by
 intro pins s σ H D I h;obtain⟨W,⟨m0,w0⟩,turn⟩:=h;refine wpAny_While (codeAny_whileLoop (λn s'=>∃σ' H',Inv X pins σ' H' s'/\W n σ' H') ?_ m0 ⟨σ,H,I,w0⟩);rintro n s1 ⟨σ1,H1,I1,w1⟩;refine y7 hp (thn (hc pins s1 σ1 H1 _ I1 (turn n σ1 H1 w1)) λb s2 ⟨H2,I2,q2⟩=>?_);cases b with
 | true =>
   obtain⟨N,hN,q2⟩:=q2
   rw[if_pos rfl]
   refine y7 hp (thn (hb pins s2 σ1 H2 _ I2 q2) λf s3 q3=>?_)
   cases f with
   | next =>
     obtain⟨σ3,H3,I3,n3⟩:=q3
     obtain⟨m',hm,w3⟩:=hN σ3 H3 n3
     exact⟨m',hm,σ3,H3,I3,w3⟩
   | cont =>
     obtain⟨σ3,H3,I3,n3⟩:=q3
     obtain⟨m',hm,w3⟩:=hN σ3 H3 n3
     exact⟨m',hm,σ3,H3,I3,w3⟩
   | brk=>exact q3
   | ret v=>exact q3
 | false =>
   rw[if_neg qF]
   exact vC ⟨σ1,H2,I2,q2⟩
end
structure It where
 go:Nat->Hp->Prop
 yld:Nat->Hp->V->Hp->Prop
 stop:Nat->Hp->Prop
def FpOk(X:Cx)(pins:List (Addr×Obj))(H:Hp)(b:Addr):Prop :=
 H b=none/\b≠X.env.locals/\b∉X.fs/\(b∈X.ex\/X.s₀.heap.objs.size<=b)/\(∀x c,X.env.cells.lookup x=some c->c≠b)/\∀p∈X.pn++pins,p.1≠b
theorem Inv.fpOk{X:Cx}{pins:List (Addr×Obj)}{σ:St}{H H':Hp}{s:Shared}{b:Addr}(I:Inv X pins σ H s)(hb:s.heap.objs.size<=b)(hn:H' b=none):FpOk X pins H' b:=by
 refine⟨hn,uC (rB I.lt hb),I.nofs hb,.inr (qS I.sz hb),λx c e z=>?_,λp hp z=>?_⟩
 ·obtain⟨v,q⟩:=I.cell x c e;exact absurd (rB q.lt (by rw[z];exact hb)) (rW _)
 ·exact absurd (rB (qW (I.pin p hp).1) (by rw[z];exact hb)) (rW _)
structure Turn(P:Program)(w:World)(K:W.Frag)(tg:Expr)(J:It)(fp:List Addr)(it:Addr)(tn:Nat->Heap->Prop):Prop where
 mem:it∈fp
 obj:∀i h,tn i h->∀b∈fp,∃o,h.get? b=some o/\∀v,o.data≠.cell v
 keep:∀i h h',tn i h->(∀b∈fp,∀o,h.get? b=some o->h'.get? b=some o)->tn i h'
 item:∀(X:Cx),X.prog=P->X.w=w->X.K=K->X.calm=true->∀(i:Nat) (pins:List (Addr×Obj)) (s:Shared) (σ:St) (H:Hp) (E:Value->Shared->Prop),Inv X pins σ H s->(∀b∈fp,FpOk X pins H b)->tn i s.heap->J.go i H ->
  wpAny (model P w) X.A (pyNext (.ref it)) (λr s1=>∃u,r=some u /\
   wpAny (model P w) X.A (letOwnedTupleGo tg (.ref it) u) (λ_ s2=>∃x H',Inv X pins σ H' s2/\RelV x u/\J.yld i H x H'/\tn (i+1) s2.heap/\∀b∈fp,H' b=none) E s1) E s
 done:∀(X:Cx),X.prog=P->X.w=w->X.K=K->X.calm=true->∀(i:Nat) (pins:List (Addr×Obj)) (s:Shared) (σ:St) (H:Hp) (E:Value->Shared->Prop),Inv X pins σ H s->(∀b∈fp,FpOk X pins H b)->tn i s.heap->J.stop i H ->
  wpAny (model P w) X.A (pyNext (.ref it)) (λr s1=>r=none/\Inv X pins σ H s1) E s
 self:∀(A:Around) (i:Nat) (s:Shared) (Q:Value->Shared->Prop) (E:Value->Shared->Prop),tn i s.heap->Q (.ref it) s->wpAny (model P w) A (pyIter (.ref it)) Q E s
abbrev TI:=St->Hp->(It->Hp->Prop)->Prop
def PIE(X:Cx)(pins:List (Addr×Obj))(σ:St)(tg:Expr)(R:It->Hp->Prop)(itv:Value)(s2:Shared):Prop :=
 ∃(it:Addr) (fp:List Addr) (tn:Nat->Heap->Prop) (J:It) (H':Hp),itv=.ref it/\Inv X pins σ H' s2/\Turn X.prog X.w X.K tg J fp it tn/\tn 0 s2.heap/\(∀b∈fp,FpOk X pins H' b)/\R J H'
def PI(X:Cx)(tg iter:Expr)(wi:TI):Prop :=
 ∀(pins:List (Addr×Obj)) (s:Shared) (σ:St) (H:Hp) (R:It->Hp->Prop),Inv X pins σ H s->wi σ H R ->
  wpAny (model X.prog X.w) X.A (eval iter X.env) (λv s1=>wpAny (model X.prog X.w) X.A (pyIter v) (PIE X pins σ tg R) X.xe s1) X.xe s
theorem qhY{M:Model}{A:Around}{E:Value->Shared->Prop}{s:Shared}{tg:Expr}{it:Addr}{u:Value}{o:Obj}{n:String}{vs:Array Value}{Q:Unit->Shared->Prop}(ho:s.heap.get? it=some o)(hc:o.cls=.type n)(hd:o.data=.fields vs)(hn:["enumerate", "zip", "dict_itemiterator", "dict_reverseitemiterator", "odict_iterator", "itertools.zip_longest", "itertools.pairwise"].contains n=false)(hQ:Q () s):wpAny M A (letOwnedTupleGo tg (.ref it) u) Q E s:=by
 unfold letOwnedTupleGo;cases tg<;>first
  | exact qU hQ
  | (cases u<;>first
    | exact qU hQ
    | (refine qE (wpAny_load ho ?_)
       rw[hc,hd]
       show wpAny M A (if(["enumerate", "zip", "dict_itemiterator", "dict_reverseitemiterator", "odict_iterator", "itertools.zip_longest", "itertools.pairwise"].contains n && vs[0]? == some (rawInt _))=true then _ else _) Q E s
       rw[if_neg (by intro h;rw[hn,yC]at h;cases h)]
       exact qU hQ))
def Itl(K:W.Frag)(a:Addr):It :=
 ⟨λi H=>∃xs x,SqL K H a xs/\xs[i]?=some x,λi H x H'=>H'=H/\∀xs,SqL K H a xs->xs[i]?=some x,λi H=>∃xs,SqL K H a xs/\xs.length<=i⟩
def Itr(lo:Int)(n:Nat):It:=⟨λi _=>i<n,λi H x H'=>H'=H/\x=.int (lo+i),λi _=>n<=i⟩
theorem turn_list{P:Program}{w:World}{K:W.Frag}{tg:Expr}(a it:Addr):Turn P w K tg (Itl K a) [it] it (λi h=>h.IsListIter it a i) where
 mem:=by simp
 obj:=λi h st b hb=>by
  have e:b=it:=by simpa using hb
  subst e;obtain⟨o,e,c,d⟩:=st;exact⟨o,e,λv z=>by rw[d]at z;cases z⟩
 keep:=λi h h' st k=>st.at λo e=>k it (by simp) o e
 item:=by
  intro X hP hw hK hc i pins s σ H E I hf st hg;subst hP hw hK;obtain⟨xs,x,hq,hx⟩:=hg;obtain⟨its,rv,p,hz⟩:=I.list hq;obtain⟨u,hu,ru⟩:=rv.get hx;obtain⟨f0,f1,f2,f3,f4,f5⟩:=hf it (by simp);refine wpAny_pyNext_list_item st p.isList (x:=u) (by simpa using hu) λh' st' sb=>?_
  have I1:Inv X pins σ H {s with heap:=h'}:=I.turned (t':=s.toks) (λb o hb e=>(sb.2 b hb).trans e) f0 f1 f3 f4 f5;obtain⟨o,e,c,d⟩:=id st';exact⟨u,rfl,qhY (s:={s with heap:=h'}) e c d (by decide) ⟨x,H,I1,ru,⟨rfl,λys hy=>by rw[I.list_inj hy hq];exact hx⟩,st',λb hb=>(hf b hb).1⟩⟩
 done:=by
  intro X hP hw hK hc i pins s σ H E I hf st hg;subst hP hw hK;obtain⟨xs,hq,hx⟩:=hg;obtain⟨its,rv,p,hz⟩:=I.list hq;obtain⟨f0,f1,f2,f3,f4,f5⟩:=hf it (by simp);have hl:=rv.length;exact wpAny_pyNext_list_end (I.ok.hd hc) st p.isList (by simp;omega) λh' eb=>⟨rfl,I.turned (t':=s.toks) (λb o hb e=>eb b o hb e) f0 f1 f3 f4 f5⟩
 self:=λ_ _ _ _ _ st h=>wpAny_pyIter_listiter st h
theorem turn_range{P:Program}{w:World}{K:W.Frag}{tg:Expr}(it:Addr)(lo:Int)(n:Nat):Turn P w K tg (Itr lo n) [it] it (λi h=>IsRangeIter h it (lo+(i:Nat)*1) ((n:Int)-(i:Nat)) 1) where
 mem:=by simp
 obj:=λi h st b hb=>by
  have e:b=it:=by simpa using hb
  subst e;exact⟨_,st,λv z=>by
   have z':Data.fields _=Data.cell v:=z;cases z'⟩
 keep:=λi h h' st k=>k it (by simp) _ st
 item:=by
  intro X hP hw hK hc i pins s σ H E I hf st hg;subst hP hw hK;obtain⟨f0,f1,f2,f3,f4,f5⟩:=hf it (by simp);have W:=Walks.range (prog:=X.prog) (w:=X.w) (I.ok.hd hc) it lo 1 n;refine W.item i s _ _ hg st λv h' tk hv st' kk=>?_
  obtain⟨t,rfl⟩:=hv;have I1:Inv X pins σ H {s with heap:=h',toks:=tk}:=I.turned (λb o hb e=>kk b o (by simpa using hb) e) f0 f1 f3 f4 f5;refine⟨_,rfl,qhY (s:={s with heap:=h',toks:=tk}) (n := "range_iterator") st' rfl rfl (by decide) ⟨.int (lo+i),H,I1,⟨t,?_⟩,⟨rfl,rfl⟩,st',λb hb=>(hf b hb).1⟩⟩;rw[Int.mul_one]
 done:=by
  intro X hP hw hK hc i pins s σ H E I hf st hg;subst hP hw hK;obtain⟨f0,f1,f2,f3,f4,f5⟩:=hf it (by simp);exact wpAny_pyNext_range_end (I.ok.hd hc) st (by have:n<=i:=hg;omega) λh' eb=>⟨rfl,I.turned (t':=s.toks) (λb o hb e=>eb b o hb e) f0 f1 f3 f4 f5⟩
 self:=λ_ _ _ _ _ st h=>wpAny_pyIter_rangeiter st h
section
variable{X:Cx}{tg:Expr}
def iList(K:W.Frag)(tl:TE):TI:=λσ H R=>tl σ H λx H1=>∃a,x=.ref a/\(∃xs,SqL K H1 a xs)/\R (Itl K a) H1
theorem qa1{l:Expr}{tl:TE}(hl:PE X l tl):PI X tg l (iList X.K tl):=by
 intro pins s σ H R I h;refine thn (hl pins s σ H _ I h) λv s1 ⟨x,H1,I1,r1,q1⟩=>?_
 obtain⟨a,e,⟨xs,hq⟩,q⟩:=q1;subst e;cases r1;obtain⟨its,rv,p,hz⟩:=I1.list hq;refine vW p.isList ?_;refine⟨s1.heap.objs.size,[s1.heap.objs.size],_,_,H1,rfl,I1.kept (t':=s1.toks) λb o e=>qL _ e,turn_list a _,⟨_,rE _ rfl,rfl,rfl⟩,λb hb=>?_,q⟩;have e:b=s1.heap.objs.size:=by simpa using hb
 subst e;exact I1.fpOk (qN _) (I1.hok.fresh (qN _))
theorem qgE{pins:List (Addr×Obj)}{σ:St}{H:Hp}{s:Shared}{R:It->Hp->Prop}{E:Value->Shared->Prop}{lo hi:Int}{t u v:Tok}{tk:Nat}(I:Inv X pins σ H s)(h1:-(2 ^ 62)<=lo)(h2:lo<2 ^ 62)(h3:-(2 ^ 62)<=hi)(h4:hi<2 ^ 62)(q:R (Itr lo (hi-lo).toNat) H):wpAny (model X.prog X.w) X.A (pyIter (.ref s.heap.objs.size)) (PIE X pins σ tg R) E {s with heap:=s.heap.push {cls:=.type "range",data:=.fields #[.int lo t,.int hi u,.int 1 v]},toks:=tk}:=by
 refine wpAny_pyIter_range (IsRange.new ..) (small_one h1 h2 h3 h4) ?_;have I1:Inv X pins σ H {s with heap:=s.heap.push {cls:=.type "range",data:=.fields #[.int lo t,.int hi u,.int 1 v]},toks:=tk}:=I.kept λb o e=>qL _ e
 refine⟨(s.heap.push {cls:=.type "range",data:=.fields #[.int lo t,.int hi u,.int 1 v]}).objs.size,[(s.heap.push {cls:=.type "range",data:=.fields #[.int lo t,.int hi u,.int 1 v]}).objs.size],_,_,H,rfl,
  I1.kept (t':=tk) λb o e=>qL _ e,turn_range _ lo (hi-lo).toNat,?_,λb hb=>?_,q⟩
 ·have e1:lo+((0:Nat):Int)*1=lo:=by simp
  have e2:(((hi-lo).toNat:Nat):Int)-((0:Nat):Int)=Builtin.Range.rangeSize lo hi 1:=by rw[rangeSize_one];split<;>omega
  show IsRangeIter _ _ (lo+((0:Nat):Int)*1) ((((hi-lo).toNat:Nat):Int)-((0:Nat):Int)) 1;rw[e1,e2];exact rE _ rfl
 ·have e:b=(s.heap.push {cls:=.type "range",data:=.fields #[.int lo t,.int hi u,.int 1 v]}).objs.size:=by simpa using hb
  subst e;exact I1.fpOk (qN _) (I1.hok.fresh (qN _))
def iRng1(ta:TA):TI:=λσ H R=>ta σ H λvs H1=>∃j:Int,vs=[.int j]/\-(2 ^ 62)<=j/\j<2 ^ 62/\R (Itr 0 j.toNat) H1
def iRng2(ta:TA):TI:=λσ H R=>ta σ H λvs H1=>∃i j:Int,vs=[.int i,.int j]/\(-(2 ^ 62)<=i/\i<2 ^ 62/\-(2 ^ 62)<=j/\j<2 ^ 62)/\R (Itr i (j-i).toNat) H1
theorem qby{a:Expr}{ta:TA}{p pos:Pos}(hg:Gl X "range")(hm:X.mg "range" = none)(ha:PA X [a] ta)(hs:starEach [a] X.env=[(false,eval a X.env)]:=by rfl):PI X tg (.Call (.Name "range" p) [a] [] pos) (iRng1 ta):=by
 intro pins s σ H R I h;refine Call_ (qdz I hg hm boot_range (xD (thn (ha pos pins s σ H _ I h) λus s1 ⟨vs,H1,I1,r1,q1⟩=>?_) hs rfl));obtain⟨j,e,q1,q2,q⟩:=q1;subst e;cases r1 with
 | cons r rr =>
   cases rr
   obtain⟨t,rfl⟩:=r
   exact call_range_1 (qgE I1 (by omega) (by omega) q1 q2 (by simpa using q))
theorem pi_range2{a b:Expr}{ta:TA}{p pos:Pos}(hg:Gl X "range")(hm:X.mg "range" = none)(ha:PA X [a,b] ta)(hs:starEach [a,b] X.env=[(false,eval a X.env),(false,eval b X.env)]:=by rfl)(hs2:starEach [b] X.env=[(false,eval b X.env)]:=by rfl) :
  PI X tg (.Call (.Name "range" p) [a,b] [] pos) (iRng2 ta):=by
 intro pins s σ H R I h;refine Call_ (qdz I hg hm boot_range (xD (thn (ha pos pins s σ H _ I h) λus s1 ⟨vs,H1,I1,r1,q1⟩=>?_) (by rw[hs,hs2]) (by rw[hs2];rfl)));obtain⟨i,j,e,⟨q1,q2,q3,q4⟩,q⟩:=q1;subst e;cases r1 with
 | cons r rr =>
   cases rr with
   | cons r' rr =>
     cases rr
     obtain⟨t,rfl⟩:=r
     obtain⟨t',rfl⟩:=r'
     exact call_range_2 (qgE I1 q1 q2 q3 q4 q)
def tFor(wi:TI)(g:TG)(tb:TS):TS:=λD σ H=>wi σ H λJ H1=>∃W:Nat->Nat->St->Hp->Prop,(∃m,W 0 m σ H1)/\∀i m σ H,W i m σ H ->
 (J.stop i H/\D.nx σ H)\/(J.go i H/\∃N:St->Hp->Prop,(∀σ' H',N σ' H'->∃m',m'<m/\W (i+1) m' σ' H')/\∀x H',J.yld i H x H'->g x σ H' λσ2 H2=>tb {D with nx:=N,ct:=N,bk:=D.nx} σ2 H2)
def qeB(fp:List Addr)(h:Heap):List (Addr×Obj):=fp.filterMap λb=>(h.get? b).map λo=>(b,o)
theorem qb5{fp:List Addr}{h:Heap}{b:Addr}{o:Obj}(hb:b∈fp)(e:h.get? b=some o):(b,o)∈qeB fp h:=yX.mpr ⟨b,hb,by rw[e];rfl⟩
theorem qf0{fp:List Addr}{h:Heap}{p:Addr×Obj}(hp:p∈qeB fp h):p.1∈fp/\h.get? p.1=some p.2:=by
 obtain⟨b,hb,e⟩:=yX.mp hp;cases q:h.get? b with
 | none=>rw[q]at e;cases e
 | some o =>
   rw[q]at e
   have e':(b,o)=p:=rD e
   subst e'
   exact⟨hb,q⟩
theorem Inv.pinned{pins:List (Addr×Obj)}{σ:St}{H:Hp}{s:Shared}{fp:List Addr}(I:Inv X pins σ H s)(hf:∀b∈fp,FpOk X pins H b)(ho:∀b∈fp,∃o,s.heap.get? b=some o/\∀v,o.data≠.cell v):Inv X (pins++qeB fp s.heap) σ H s :=
 I.pins_of λp hp=>(qY.mp hp).elim (λz=>I.pin p (rF _ z)) λz=>by
  obtain⟨hb,e⟩:=qf0 z;obtain⟨f0,f1,f2,_⟩:=hf p.1 hb;obtain⟨o,e',d⟩:=ho p.1 hb;rw[e]at e';cases e';exact⟨e,f0,f1,f2,d⟩
theorem Inv.unpinned{pins pl:List (Addr×Obj)}{σ:St}{H:Hp}{s:Shared}(I:Inv X (pins++pl) σ H s):Inv X pins σ H s:=I.pins_of λp hp=>I.pin p (rF _ (yK _ hp))
theorem qbT{iter:Expr}{body:List Stmt}{wi:TI}{g:TG}{tb:TS}{pos:Pos}(hp:PassesOwn (model X.prog X.w) X.A X.env X.xe)(hc:X.calm=true)(hi:PI X tg iter wi)(hg:PG X tg g)(hb:PSs X body tb)(hs:∀x,foldedSetIterable iter X.env x=pure x:=by intro _;rfl):PS X (.For tg iter body [] pos) (tFor wi g tb):=by
 intro pins s σ H D I h;refine wpAny_For (thn (hi pins s σ H _ I h) λv s1 h1=>thn h1 λitv s2 h2=>?_) hs;obtain⟨it,fp,tn,J,H2,e,I2,T,st2,f2,W,⟨m0,w0⟩,turn⟩:=h2;subst e;have stat:∀{H':Hp},(∀b∈fp,H' b=none)->∀b∈fp,FpOk X pins H' b:=λhn b hb=>⟨hn b hb,(f2 b hb).2⟩
 refine codeAny_forLoop_any (λn s'=>∃i σ' H',Inv X pins σ' H' s'/\tn i s'.heap/\(∀b∈fp,H' b=none)/\W i n σ' H') ?_ m0 ⟨0,σ,H2,I2,st2,λb hb=>(f2 b hb).1,w0⟩;rintro n s3 ⟨i,σ3,H3,I3,st3,fr3,w3⟩;rcases turn i n σ3 H3 w3 with⟨stop,qn⟩ | ⟨go,N,hN,step⟩
 ·refine y7 hp (thn (T.done X rfl rfl rfl hc i pins s3 σ3 H3 X.xe I3 (stat fr3) st3 stop) λr s4 ⟨hr,I4⟩=>?_);subst hr;exact vC ⟨σ3,H3,I4,qn⟩
 ·refine y7 hp (thn (T.item X rfl rfl rfl hc i pins s3 σ3 H3 X.xe I3 (stat fr3) st3 go) λr s4 ⟨u,hr,h4⟩=>?_);subst hr;refine y7 hp (thn h4 λ_ s5 ⟨x,H5,I5,r5,y5,st5,fr5⟩=>?_);have I5':=I5.pinned (stat fr5) (T.obj _ _ st5);refine y7 hp (thn (hg _ s5 σ3 H5 x u _ I5' r5 (step x H5 y5)) λ_ s6 ⟨σ6,H6,I6,q6⟩=>?_);refine y7 hp (thn (hb _ s6 σ6 H6 _ I6 q6) λf s7 q7=>?_);have again:∀{σ7:St} {H7:Hp},Inv X (pins++qeB fp s5.heap) σ7 H7 s7->N σ7 H7->∃m,m<n/\∃i σ' H',Inv X pins σ' H' s7/\tn i s7.heap/\(∀b∈fp,H' b=none)/\W i m σ' H':=λ{σ7 H7} I7 n7=>by
   obtain⟨m',hm,w7⟩:=hN σ7 H7 n7;refine⟨m',hm,i+1,σ7,H7,I7.unpinned,T.keep _ _ _ st5 λb hb o e=>(I7.pin (b,o) (rF _ (rF _ (qb5 hb e)))).1,λb hb=>?_,w7⟩;obtain⟨o,e,d⟩:=T.obj _ _ st5 b hb;exact(I7.pin (b,o) (rF _ (rF _ (qb5 hb e)))).2.1
  cases f with
  | next=>obtain⟨σ7,H7,I7,n7⟩:=q7;exact again I7 n7
  | cont=>obtain⟨σ7,H7,I7,n7⟩:=q7;exact again I7 n7
  | brk=>obtain⟨σ7,H7,I7,q7⟩:=q7;exact⟨σ7,H7,I7.unpinned,q7⟩
  | ret v=>obtain⟨x7,σ7,H7,I7,r7,q7⟩:=q7;exact⟨x7,σ7,H7,I7.unpinned,r7,q7⟩
end
theorem qdy{K:W.Frag}{a:Addr}{xs:List V}{g:TG}{tb:TS}{D:Ends}{σ:St}{H:Hp}(Pv:Nat->St->Hp->Prop)(h0:Pv 0 σ H)(hl:∀i σ H,i<=xs.length->Pv i σ H->SqL K H a xs)(hs:∀i x σ H,xs[i]?=some x->Pv i σ H->g x σ H λσ2 H2=>tb {D with nx:=Pv (i+1),ct:=Pv (i+1),bk:=D.nx} σ2 H2)(hd:∀σ H,Pv xs.length σ H->D.nx σ H) :
  ∃W:Nat->Nat->St->Hp->Prop,(∃m,W 0 m σ H)/\∀i m σ H,W i m σ H ->
   ((Itl K a).stop i H/\D.nx σ H)\/((Itl K a).go i H/\∃N:St->Hp->Prop,(∀σ' H',N σ' H'->∃m',m'<m/\W (i+1) m' σ' H')/\∀x H',(Itl K a).yld i H x H'->g x σ H' λσ2 H2=>tb {D with nx:=N,ct:=N,bk:=D.nx} σ2 H2):=by
 refine⟨λi m σ H=>m=xs.length-i/\i<=xs.length/\Pv i σ H,⟨xs.length,by simp,rS _,h0⟩,?_⟩;rintro i m σ H ⟨rfl,hi,p⟩;have q:=hl i σ H hi p
 by_cases hlt:i<xs.length
 ·refine .inr ⟨⟨xs,xs[i],q,by simp[hlt]⟩,Pv (i+1),λσ' H' p'=>⟨xs.length-(i+1),by omega,rfl,hlt,p'⟩,λx H' y=>?_⟩;obtain⟨e,y⟩:=y;subst e;exact hs i x σ _ (y xs q) p
 ·have e:i=xs.length:=by omega
  subst e;exact .inl ⟨⟨xs,q,qN _⟩,hd σ H p⟩
theorem qcJ{lo:Int}{n:Nat}{g:TG}{tb:TS}{D:Ends}{σ:St}{H:Hp}(Pv:Nat->St->Hp->Prop)(h0:Pv 0 σ H)(hs:∀i σ H,i<n->Pv i σ H->g (.int (lo+i)) σ H λσ2 H2=>tb {D with nx:=Pv (i+1),ct:=Pv (i+1),bk:=D.nx} σ2 H2)(hd:∀σ H,Pv n σ H->D.nx σ H) :
  ∃W:Nat->Nat->St->Hp->Prop,(∃m,W 0 m σ H)/\∀i m σ H,W i m σ H ->
   ((Itr lo n).stop i H/\D.nx σ H)\/((Itr lo n).go i H/\∃N:St->Hp->Prop,(∀σ' H',N σ' H'->∃m',m'<m/\W (i+1) m' σ' H')/\∀x H',(Itr lo n).yld i H x H'->g x σ H' λσ2 H2=>tb {D with nx:=N,ct:=N,bk:=D.nx} σ2 H2):=by
 refine⟨λi m σ H=>m=n-i/\i<=n/\Pv i σ H,⟨n,by simp,rS _,h0⟩,?_⟩;rintro i m σ H ⟨rfl,hi,p⟩
 by_cases hlt:i<n
 ·refine .inr ⟨hlt,Pv (i+1),λσ' H' p'=>⟨n-(i+1),by omega,rfl,hlt,p'⟩,λx H' y=>?_⟩;obtain⟨e,y⟩:=y;subst e y;exact hs i σ _ hlt p
 ·have e:i=n:=by omega
  subst e;exact .inl ⟨qN _,hd σ H p⟩
abbrev R2:=V->V->Hp->VK->Prop
def OpR(X:Cx)(f:Value->Value->Sem Value)(r:R2):Prop :=
 ∀(pins:List (Addr×Obj)) (s:Shared) (σ:St) (H:Hp) (x y:V) (v u:Value) (Q:VK),Inv X pins σ H s->RelV x v->RelV y u->r x y H Q ->
  wpAny (model X.prog X.w) X.A (f v u) (EP X pins σ Q) X.xe s
def UnR(X:Cx)(f:Value->Sem Value)(r:V->Hp->VK->Prop):Prop :=
 ∀(pins:List (Addr×Obj)) (s:Shared) (σ:St) (H:Hp) (x:V) (v:Value) (Q:VK),Inv X pins σ H s->RelV x v->r x H Q ->
  wpAny (model X.prog X.w) X.A (f v) (EP X pins σ Q) X.xe s
def qdT(X:Cx)(f:Value)(r:List V->Hp->VK->Prop):Prop :=
 ∀(pins:List (Addr×Obj)) (s:Shared) (σ:St) (H:Hp) (xs:List V) (us:List Value) (Q:VK),Inv X pins σ H s->Vals xs us->r xs H Q ->
  wpAny (model X.prog X.w) X.A (call f us) (EP X pins σ Q) X.xe s
def tOp(r:R2)(ta tb:TE):TE:=λσ H Q=>ta σ H λx H1=>tb σ H1 λy H2=>r x y H2 Q
def tUn(r:V->Hp->VK->Prop)(ta:TE):TE:=λσ H Q=>ta σ H λx H1=>r x H1 Q
def rI(C:Int->Int->Prop)(g:Int->Int->V):R2:=λx y H Q=>∃i j,x=.int i/\y=.int j/\C i j/\Q (g i j) H
def rI0(g:Int->Int->V):R2:=λx y H Q=>∃i j,x=.int i/\y=.int j/\Q (g i j) H
def rU(g:Int->V):V->Hp->VK->Prop:=λx H Q=>∃i,x=.int i/\Q (g i) H
section
variable{X:Cx}{a b c:Expr}{ta tb tc:TE}{pos:Pos}
theorem binT(ha:PE X a ta)(hb:PE X b tb){pins:List (Addr×Obj)}{s:Shared}{σ:St}{H:Hp}{R:V->V->Hp->Prop}(I:Inv X pins σ H s)(h:ta σ H λx H1=>tb σ H1 λy H2=>R x y H2){Q:Value->Shared->Prop}{f:Value->Value->Sem Value}(hf:∀v u s2 x y H2,Inv X pins σ H2 s2->RelV x v->RelV y u->R x y H2->wpAny (model X.prog X.w) X.A (f v u) Q X.xe s2) :
  wpAny (model X.prog X.w) X.A (eval a X.env) (λv s₁=>wpAny (model X.prog X.w) X.A (eval b X.env) (λu s₂=>wpAny (model X.prog X.w) X.A (f v u) Q X.xe s₂) X.xe s₁) X.xe s:=by
 refine thn (ha pins s σ H _ I h) λv s1 ⟨x,H1,I1,r1,q1⟩=>?_
 refine thn (hb pins s1 σ H1 _ I1 q1) λu s2 ⟨y,H2,I2,r2,q2⟩=>?_
 exact hf v u s2 x y H2 I2 r1 r2 q2
theorem qaO{op:Operator}{r:R2}(ho:OpR X (binaryOp op) r)(ha:PE X a ta)(hb:PE X b tb):PE X (.BinOp a op b pos) (tOp r ta tb):=by
 intro pins s σ H Q I h;exact wpAny_BinOp (binT ha hb I h λv u s2 x y H2 I2 rx ry q=>ho pins s2 σ H2 x y v u Q I2 rx ry q)
theorem qcy{op:UnaryOp}{r:V->Hp->VK->Prop}(ho:UnR X (unaryOp op) r)(ha:PE X a ta):PE X (.UnaryOp op a pos) (tUn r ta):=by
 intro pins s σ H Q I h;exact UnaryOp_ (thn (ha pins s σ H _ I h) λv s1 ⟨x,H1,I1,r1,q1⟩=>ho pins s1 σ H1 x v Q I1 r1 q1)
theorem opI{f:Value->Value->Sem Value}{C:Int->Int->Prop}{g:Int->Int->Int}(rule:∀(i j:Int) (t u:Tok) (s:Shared) (Q:Value->Shared->Prop) (E:Value->Shared->Prop),C i j->Q (.int (g i j) s.toks) {s with toks:=s.toks+1}->wpAny (model X.prog X.w) X.A (f (.int i t) (.int j u)) Q E s) :
  OpR X f (rI C λi j=>.int (g i j)):=by
 intro pins s σ H x y v u Q I rx ry h;obtain⟨i,j,rfl,rfl,hc,q⟩:=h;obtain⟨t,rfl⟩:=rx;obtain⟨t',rfl⟩:=ry;exact rule i j t t' s _ _ hc ⟨.int (g i j),H,I.tok _,⟨_,rfl⟩,q⟩
theorem opI0{f:Value->Value->Sem Value}{g:Int->Int->Int}(rule:∀(i j:Int) (t u:Tok) (s:Shared) (Q:Value->Shared->Prop) (E:Value->Shared->Prop),Q (.int (g i j) s.toks) {s with toks:=s.toks+1}->wpAny (model X.prog X.w) X.A (f (.int i t) (.int j u)) Q E s) :
  OpR X f (rI0 λi j=>.int (g i j)):=by
 intro pins s σ H x y v u Q I rx ry h;obtain⟨i,j,rfl,rfl,q⟩:=h;obtain⟨t,rfl⟩:=rx;obtain⟨t',rfl⟩:=ry;exact rule i j t t' s _ _ ⟨.int (g i j),H,I.tok _,⟨_,rfl⟩,q⟩
theorem opB0{f:Value->Value->Sem Value}{g:Int->Int->Bool}(rule:∀(i j:Int) (t u:Tok) (s:Shared) (Q:Value->Shared->Prop) (E:Value->Shared->Prop),Q (.bool (g i j)) s->wpAny (model X.prog X.w) X.A (f (.int i t) (.int j u)) Q E s) :
  OpR X f (rI0 λi j=>.bl (g i j)):=by
 intro pins s σ H x y v u Q I rx ry h;obtain⟨i,j,rfl,rfl,q⟩:=h;obtain⟨t,rfl⟩:=rx;obtain⟨t',rfl⟩:=ry;exact rule i j t t' s _ _ ⟨.bl (g i j),H,I,rfl,q⟩
def CMul(i j:Int):Prop:=(-(2 ^ 64)<i/\i<2 ^ 64)\/(-(2 ^ 64)<j/\j<2 ^ 64)
theorem CMul.ok{i j:Int}(h:CMul i j):IntMulOk i j:=by
 rcases h with⟨h1,h2⟩ | ⟨h1,h2⟩
 ·exact .of_left (intBits_le_64 h1 h2)
 ·exact .of_right (intBits_le_64 h1 h2)
theorem op_add:OpR X (binaryOp .Add) (rI0 λi j=>.int (i+j)):=opI0 λ_ _ _ _ _ _ _ q=>add_int q
theorem op_sub:OpR X (binaryOp .Sub) (rI0 λi j=>.int (i-j)):=opI0 λ_ _ _ _ _ _ _ q=>sub_int q
theorem op_mul:OpR X (binaryOp .Mult) (rI CMul λi j=>.int (i*j)):=opI λ_ _ _ _ _ _ _ hc q=>mul_int q hc.ok
theorem op_mod:OpR X (binaryOp .Mod) (rI (λ_ j=>0<j) λi j=>.int (i % j)):=opI λi j _ _ _ _ _ hc q=>by
 have h1:(0:Int)<j:=hc;exact mod_int' (by omega) (by rw[Int.fmod_eq_emod_of_nonneg i (by omega)];exact q)
theorem unI{f:Value->Sem Value}{g:Int->Int}(rule:∀(i:Int) (t:Tok) (s:Shared) (Q:Value->Shared->Prop) (E:Value->Shared->Prop),Q (.int (g i) s.toks) {s with toks:=s.toks+1}->wpAny (model X.prog X.w) X.A (f (.int i t)) Q E s) :
  UnR X f (rU λi=>.int (g i)):=by
 intro pins s σ H x v Q I rx h;obtain⟨i,rfl,q⟩:=h;obtain⟨t,rfl⟩:=rx;exact rule i t s _ _ ⟨.int (g i),H,I.tok _,⟨_,rfl⟩,q⟩
theorem un_neg:UnR X (unaryOp .USub) (rU λi=>.int (-i)):=unI λ_ _ _ _ _ q=>neg_int q
def scal:V->V->Bool
 | .non,.non=>true | .non,.int _=>true | .int _,.non=>true | .non,.bl _=>true | .bl _,.non=>true | .non,.str _=>true | .str _,.non=>true
 | .int _,.int _=>true | .bl _,.bl _=>true | .str _,.str _=>true | .byt _,.byt _=>true
 | .int _,.str _=>true | .str _,.int _=>true | .bl _,.str _=>true | .str _,.bl _=>true
 | _,_=>false
def rEq:R2:=λx y H Q=>scal x y=true/\Q (.bl (decide (x=y))) H
def rNe:R2:=λx y H Q=>scal x y=true/\Q (.bl (!decide (x=y))) H
theorem qhn{i j:Int}:decide (V.int i=V.int j)=(i == j):=by
 rw[r9];simp
theorem qii{i j:Bool}:decide (V.bl i=V.bl j)=(i == j):=by
 rw[r9];simp
theorem qhv{i j:Str}:decide (V.str i=V.str j)=(i == j):=by
 rw[r9];simp
theorem qg8{i j:Array UInt8}:decide (V.byt i=V.byt j)=(i.toList == j.toList):=by
 rw[r9];cases i;cases j;simp
theorem qa4{pins:List (Addr×Obj)}{σ:St}{H:Hp}{s:Shared}{Q:VK}{k k':Bool}(I:Inv X pins σ H s)(q:Q (.bl k) H)(e:k=k'):EP X pins σ Q (.bool k') s:=by
 subst e;exact⟨.bl k,H,I,rfl,q⟩
theorem op_eq:OpR X (compareOp .Eq) rEq:=by
 intro pins s σ H x y v u Q I rx ry h;obtain⟨hs,q⟩:=h;cases x with
 | non =>
   cases rx
   cases y with
   | non=>cases ry;exact PySem.EqNone.eq_none_none (qa4 I q (by simp))
   | bl j=>cases ry;exact PySem.EqNone.eq_none_bool (qa4 I q (by simp))
   | int j=>obtain⟨t',rfl⟩:=ry;exact PySem.EqNone.eq_none_int (qa4 I q (by simp))
   | str j=>obtain⟨t',rfl⟩:=ry;exact PySem.EqNone.eq_none_str (qa4 I q (by simp))
   | _=>exact absurd (show false=true from hs) qF
 | bl i =>
   cases rx
   cases y with
   | non=>cases ry;exact PySem.EqNone.eq_bool_none (qa4 I q (by simp))
   | bl j=>cases ry;exact eq_bool (qa4 I q qii)
   | str j=>obtain⟨t',rfl⟩:=ry;exact PySem.EqMixed.eq_bool_str (qa4 I q (by simp))
   | _=>exact absurd (show false=true from hs) qF
 | int i =>
   obtain⟨t,rfl⟩:=rx
   cases y with
   | non=>cases ry;exact PySem.EqNone.eq_int_none (qa4 I q (by simp))
   | int j=>obtain⟨t',rfl⟩:=ry;exact eq_int (qa4 I q qhn)
   | str j=>obtain⟨t',rfl⟩:=ry;exact PySem.EqMixed.eq_int_str (qa4 I q (by simp))
   | _=>exact absurd (show false=true from hs) qF
 | str i =>
   obtain⟨t,rfl⟩:=rx
   cases y with
   | non=>cases ry;exact PySem.EqNone.eq_str_none (qa4 I q (by simp))
   | bl j=>cases ry;exact PySem.EqMixed.eq_str_bool (qa4 I q (by simp))
   | int j=>obtain⟨t',rfl⟩:=ry;exact PySem.EqMixed.eq_str_int (qa4 I q (by simp))
   | str j=>obtain⟨t',rfl⟩:=ry;exact eq_str (qa4 I q qhv)
   | _=>exact absurd (show false=true from hs) qF
 | byt i =>
   obtain⟨t,rfl⟩:=rx
   cases y with
   | byt j=>obtain⟨t',rfl⟩:=ry;exact PySem.W.eq_bytes (qa4 I q qg8)
   | _=>exact absurd (show false=true from hs) qF
 | _=>cases y<;>exact absurd (show false=true from hs) qF
theorem op_ne:OpR X (compareOp .NotEq) rNe:=by
 intro pins s σ H x y v u Q I rx ry h;obtain⟨hs,q⟩:=h;cases x with
 | non =>
   cases rx
   cases y with
   | non=>cases ry;exact PySem.EqNone.ne_none_none (qa4 I q (by simp))
   | bl j=>cases ry;exact PySem.EqNone.ne_none_bool (qa4 I q (by simp))
   | int j=>obtain⟨t',rfl⟩:=ry;exact PySem.EqNone.ne_none_int (qa4 I q (by simp))
   | str j=>obtain⟨t',rfl⟩:=ry;exact PySem.EqNone.ne_none_str (qa4 I q (by simp))
   | _=>exact absurd (show false=true from hs) qF
 | bl i =>
   cases rx
   cases y with
   | non=>cases ry;exact PySem.EqNone.ne_bool_none (qa4 I q (by simp))
   | bl j=>cases ry;exact ne_bool (qa4 I q (xN not qii))
   | str j=>obtain⟨t',rfl⟩:=ry;exact PySem.EqMixed.ne_bool_str (qa4 I q (by simp))
   | _=>exact absurd (show false=true from hs) qF
 | int i =>
   obtain⟨t,rfl⟩:=rx
   cases y with
   | non=>cases ry;exact PySem.EqNone.ne_int_none (qa4 I q (by simp))
   | int j=>obtain⟨t',rfl⟩:=ry;exact ne_int (qa4 I q (xN not qhn))
   | str j=>obtain⟨t',rfl⟩:=ry;exact PySem.EqMixed.ne_int_str (qa4 I q (by simp))
   | _=>exact absurd (show false=true from hs) qF
 | str i =>
   obtain⟨t,rfl⟩:=rx
   cases y with
   | non=>cases ry;exact PySem.EqNone.ne_str_none (qa4 I q (by simp))
   | bl j=>cases ry;exact PySem.EqMixed.ne_str_bool (qa4 I q (by simp))
   | int j=>obtain⟨t',rfl⟩:=ry;exact PySem.EqMixed.ne_str_int (qa4 I q (by simp))
   | str j=>obtain⟨t',rfl⟩:=ry;exact ne_str (qa4 I q (xN not qhv))
   | _=>exact absurd (show false=true from hs) qF
 | byt i =>
   obtain⟨t,rfl⟩:=rx
   cases y with
   | byt j=>obtain⟨t',rfl⟩:=ry;exact PySem.W.ne_bytes (qa4 I q (xN not qg8))
   | _=>exact absurd (show false=true from hs) qF
 | _=>cases y<;>exact absurd (show false=true from hs) qF
theorem op_lt:OpR X (compareOp .Lt) (rI0 λi j=>.bl (decide (i<j))):=opB0 λ_ _ _ _ _ _ _ q=>lt_int q
theorem op_le:OpR X (compareOp .LtE) (rI0 λi j=>.bl (decide (i<=j))):=opB0 λ_ _ _ _ _ _ _ q=>le_int q
theorem op_gt:OpR X (compareOp .Gt) (rI0 λi j=>.bl (decide (j<i))):=opB0 λ_ _ _ _ _ _ _ q=>gt_int q
theorem op_ge:OpR X (compareOp .GtE) (rI0 λi j=>.bl (decide (j<=i))):=opB0 λ_ _ _ _ _ _ _ q=>ge_int q
theorem op_in_str:OpR X (compareOp .In) (λx y H Q=>∃i j,x=.str i/\y=.str j/\Q (.bl (!(Builtin.Str.occurrences j i 0 j.length 1).isEmpty)) H):=by
 intro pins s σ H x y v u Q I rx ry h;obtain⟨i,j,rfl,rfl,q⟩:=h;obtain⟨t,rfl⟩:=rx;obtain⟨t',rfl⟩:=ry;exact in_str (qa4 I q rfl)
theorem qao(b:Expr){op:CmpOp}(h:op≠.In:=by decide)(h2:op≠.NotIn:=by decide):behindInMarks op b=false:=by
 have e1:(op == CmpOp.In)=false:=by cases op<;>first | rfl | exact absurd rfl h
 have e2:(op == CmpOp.NotIn)=false:=by cases op<;>first | rfl | exact absurd rfl h2
 cases b<;>simp[behindInMarks,e1,e2]
theorem qa2{op:CmpOp}{r:R2}(ho:OpR X (compareOp op) r)(ha:PE X a ta)(hb:PE X b tb)(hm:behindInMarks op b=false):PE X (.Compare a [op] [b] pos) (tOp r ta tb):=by
 intro pins s σ H Q I h;exact wpAny_Compare1 (binT ha hb I h λv u s2 x y H2 I2 rx ry q=>ho pins s2 σ H2 x y v u Q I2 rx ry q) hm
def qiD(t:TE):TT:=λσ H Q=>t σ H λx H'=>∃k,x=.bl k/\Q k H'
theorem qah{op:CmpOp}{r:R2}(ho:OpR X (compareOp op) r)(ha:PE X a ta)(hb:PE X b tb)(hm:behindInMarks op b=false):PT X (.Compare a [op] [b] pos) (qiD (tOp r ta tb)):=by
 intro pins s σ H Q I h;refine wpAny_isTrue_Compare1 (thn (ha pins s σ H _ I h) λv s1 ⟨x,H1,I1,r1,q1⟩=>thn (hb pins s1 σ H1 _ I1 q1) λu s2 ⟨y,H2,I2,r2,q2⟩ =>
  thn (ho pins s2 σ H2 x y v u _ I2 r1 r2 q2) λc s3 ⟨z,H3,I3,r3,k,e,q3⟩=>?_) hm
 subst e;cases r3;exact xP ⟨H3,I3,q3⟩
def qid(r r':R2)(ta tb tc:TE):TE:=λσ H Q=>ta σ H λx H1=>tb σ H1 λy H2=>r x y H2 λz H3=>∃k,z=.bl k /\
 (if k=true then tc σ H3 λw' H4=>r' y w' H4 Q else Q (.bl false) H3)
theorem pe_chain{op op':CmpOp}{r r':R2}(ho:OpR X (compareOp op) r)(ho':OpR X (compareOp op') r')(ha:PE X a ta)(hb:PE X b tb)(hc:PE X c tc)(hm:lastMarks [op,op'] [b,c]=false:=by with_unfolding_all rfl):PE X (.Compare a [op,op'] [b,c] pos) (qid r r' ta tb tc):=by
 intro pins s σ H Q I h;refine Compare_chain (thn (ha pins s σ H _ I h) λv s1 ⟨x,H1,I1,r1,q1⟩=>chain_link (thn (hb pins s1 σ H1 _ I1 q1) λu s2 ⟨y,H2,I2,r2,q2⟩ =>
  thn (ho pins s2 σ H2 x y v u _ I2 r1 r2 q2) λd s3 ⟨z,H3,I3,r3,k,e,q3⟩=>?_)) hm
 subst e;cases r3;refine xP ?_;cases k with
 | false=>exact ite_ff ⟨.bl false,H3,I3,rfl,q3⟩
 | true=>exact ite_tt (chain_last (thn (hc pins s3 σ H3 _ I3 q3) λw' s4 ⟨z',H4,I4,r4,q4⟩=>ho' pins s4 σ H4 y z' u w' Q I4 r2 r4 q4))
theorem qdA{op op':CmpOp}{r r':R2}(ho:OpR X (compareOp op) r)(ho':OpR X (compareOp op') r')(ha:PE X a ta)(hb:PE X b tb)(hc:PE X c tc)(hm:lastMarks [op,op'] [b,c]=false:=by with_unfolding_all rfl):PT X (.Compare a [op,op'] [b,c] pos) (qiD (qid r r' ta tb tc)):=by
 intro pins s σ H Q I h;refine isTrue_chain (thn (ha pins s σ H _ I h) λv s1 ⟨x,H1,I1,r1,q1⟩=>test_link (thn (hb pins s1 σ H1 _ I1 q1) λu s2 ⟨y,H2,I2,r2,q2⟩ =>
  thn (ho pins s2 σ H2 x y v u _ I2 r1 r2 q2) λd s3 ⟨z,H3,I3,r3,k,e,q3⟩=>?_)) hm
 subst e;cases r3;refine xP ?_;cases k with
 | false =>
   obtain⟨k',e',q'⟩:=q3
   cases e'
   exact ite_ff ⟨H3,I3,q'⟩
 | true =>
   refine ite_tt (test_last (thn (hc pins s3 σ H3 _ I3 q3) λw' s4 ⟨z',H4,I4,r4,q4⟩=>thn (ho' pins s4 σ H4 y z' u w' _ I4 r2 r4 q4) λd' s5 ⟨z2,H5,I5,r5,k2,e2,q5⟩=>?_))
   subst e2
   cases r5
   exact xP ⟨H5,I5,q5⟩
theorem line63:(sizeLine:Nat)<2 ^ 63:=by rw[sizeLine_eq];decide
theorem op_add_str:OpR X (binaryOp .Add) (λx y H Q=>∃i j,x=.str i/\y=.str j/\i.length+j.length<=sizeLine/\Q (.str (i++j)) H):=by
 intro pins s σ H x y v u Q I rx ry h;obtain⟨i,j,rfl,rfl,hz,q⟩:=h;obtain⟨t,rfl⟩:=rx;obtain⟨t',rfl⟩:=ry;exact add_str (λt' tk=>⟨.str (i++j),H,I.tok _,⟨_,rfl⟩,q⟩) hz
theorem qfx{x:V}{us:List Value}(r:Vals [x] us):∃u,us=[u]/\RelV x u:=by
 cases r with
 | cons r1 r2=>cases r2;exact⟨_,rfl,r1⟩
theorem qiv{x y:V}{us:List Value}(r:Vals [x,y] us):∃u w',us=[u,w']/\RelV x u/\RelV y w':=by
 cases r with
 | cons r1 r2 =>
   cases r2 with
   | cons r3 r4=>cases r4;exact⟨_,_,rfl,r1,r3⟩
theorem qfQ(hc:X.calm=true):qdT X (.builtin "max") (λxs H Q=>∃i j,xs=[.int i,.int j]/\Q (.int (if j>i then j else i)) H):=by
 intro pins s σ H xs us Q I r h;obtain⟨i,j,rfl,q⟩:=h;obtain⟨u,w',rfl,⟨t,rfl⟩,⟨t',rfl⟩⟩:=qiv r;refine max_two_ints (I.ok.hd hc) λh' tk k=>⟨_,H,I.kept k,?_,q⟩
 by_cases hj:j>i
 ·rw[if_pos hj,if_pos hj];exact⟨_,rfl⟩
 ·rw[if_neg hj,if_neg hj];exact⟨_,rfl⟩
theorem qf8(hc:X.calm=true):qdT X (.builtin "min") (λxs H Q=>∃i j,xs=[.int i,.int j]/\Q (.int (if j<i then j else i)) H):=by
 intro pins s σ H xs us Q I r h;obtain⟨i,j,rfl,q⟩:=h;obtain⟨u,w',rfl,⟨t,rfl⟩,⟨t',rfl⟩⟩:=qiv r;refine min_two_ints (I.ok.hd hc) λh' tk k=>⟨_,H,I.kept k,?_,q⟩
 by_cases hj:j<i
 ·rw[if_pos hj,if_pos hj];exact⟨_,rfl⟩
 ·rw[if_neg hj,if_neg hj];exact⟨_,rfl⟩
theorem call_str_int:qdT X (.type "str") (λxs H Q=>∃i,xs=[.int i]/\i.natAbs.log2<1920/\Q (.str (toString i)) H):=by
 intro pins s σ H xs us Q I r h;obtain⟨i,rfl,hz,q⟩:=h;obtain⟨u,rfl,t,rfl⟩:=qfx r;exact PySem.P.str_of_int hz ⟨.str _,H,I.tok _,⟨_,rfl⟩,q⟩
end
structure ObjM(h:Heap)(x dx C:Addr)(mA:Str->Option Value):Prop where
 obj:h.get? x=some (PySem.W.instObj C dx)
 ns:h.Ns1 dx mA
 ne:dx≠x
theorem lookIn_ns{h:Heap}{dx:Addr}{mA:Str->Option Value}(n:h.Ns1 dx mA):∃od,h.get? dx=some od/\∀name,PySem.W.lookIn name od=some (mA name):=by
 obtain⟨o,es,ep,ho,hd,hk,_,hm⟩:=n;refine⟨o,ho,λname=>?_⟩;have e:=hm name;unfold nsFind findBy at e;rw[<-Array.find?_toList]at e;unfold PySem.W.lookIn;rw[hd];dsimp only
 split
 ·rename_i y q;rw[q]at e;exact xN some e
 ·rename_i q;rw[q]at e;have a:es.toList.any (·.refKey)=false:=by
   rw[vU];intro y hy;obtain⟨z,t,hkey⟩:=hk y (Array.mem_toList_iff.mp hy);simp[DictEntry.refKey,hkey]
  have a':¬es.toList.any (·.refKey)=true:=by rw[a];exact qF
  rw[if_neg a'];exact xN some e
theorem ObjM.look{h:Heap}{x dx C:Addr}{mA:Str->Option Value}(I:ObjM h x dx C mA):∃od,PySem.W.InstAt h x (PySem.W.instObj C dx) C (some od)/\∀name,PySem.W.lookIn name od=some (mA name) :=
 let⟨od,ho,hl⟩:=lookIn_ns I.ns
 ⟨od,⟨I.obj,rfl,rfl,ho⟩,hl⟩
theorem RelO.some_of{v:V}{o:Option Value}(r:RelO (some v) o):∃u,o=some u/\RelV v u:=by
 cases o with
 | none=>exact(show False from r).elim
 | some u=>exact⟨u,rfl,r⟩
section
variable{P:Program}{w:World}{H H':Hp}{h h':Heap}{a C dx:Addr}{fs fs':List (Str×V)}
theorem ins_get(hok:HOk P w H h)(e:H a=some (.ins C dx fs)):∃mA,ObjM h a dx C mA/\(∀f,RelO (fs.lookup f) (mA f))/\PySem.Within mA (fs.map (·.1))/\fs.length<=1000/\H dx=some (.own a):=by
 obtain⟨d,z,ne,ob,mA,n,r,q⟩:=(show ObjOk P w H h a (.ins C dx fs)from hok a _ e);exact⟨mA,⟨ob,n,ne⟩,r,q,z,d⟩
end
structure Cls(K:W.Frag)(C:Addr):Prop where
 pg:PySem.W.plainGet K C Str.empty=true
 hd:PySem.W.hasDictIn K C=true
 po:PySem.W.plainOver K C=true
 sa:PySem.W.findIn K (.ref C) "__setattr__" = some (some (.builtin "object.__setattr__"))
theorem Cls.get{K:W.Frag}{C:Addr}(c:Cls K C)(f:Str):PySem.W.plainGet K C f=true:=c.pg
section
variable{X:Cx}{pins:List (Addr×Obj)}{σ:St}{H:Hp}{s:Shared}{A:Around}{E:Value->Shared->Prop}{Q:Value->Shared->Prop}{c:Value}{b:Bool}
inductive TyOf(K:W.Frag)(H:Hp):V->Value->Prop where
 | non:TyOf K H .non (.type "NoneType")
 | bl (x:Bool):TyOf K H (.bl x) (.type "bool")
 | int (i:Int):TyOf K H (.int i) (.type "int")
 | str (x:Str):TyOf K H (.str x) (.type "str")
 | flt (x:UInt64):TyOf K H (.flt x) (.type "float")
 | lst {a:Addr} {xs:List V} (e:H a=some (.lst xs)):TyOf K H (.ref a) (.type "list")
 | frz {a:Addr} {o:Obj} {xs:List V} (e:H a=some (.frz o (.lst xs))):TyOf K H (.ref a) (.type "list")
 | tup {a:Addr} {xs:List V} (e:H a=some (.tup xs)):TyOf K H (.ref a) (.type "tuple")
 | dK {a:Addr} {kvs:List (Key×V)} (e:H a=some (.dK kvs)):TyOf K H (.ref a) (.type "dict")
 | dT {a:Addr} {kvs:List (List Key×V)} (e:H a=some (.dT kvs)):TyOf K H (.ref a) (.type "dict")
 | ins {a C dx:Addr} {fs:List (Str×V)} (e:H a=some (.ins C dx fs)) (cl:Cls K C) (ha:PySem.W.findIn K (.ref C) "__class__" = some (some (.builtin "object.__class__")))
   (hn:PySem.W.specialIn K (.builtin "object.__class__") "__get__" = some (some (.builtin "getset_descriptor.__get__"))) (htk:PySem.W.takesIn K (.builtin "object.__class__")=some true)
   (hm:PySem.W.mroIn K C (.type "object")=some true):TyOf K H (.ref a) (.ref C)
theorem isinst_ok{x:V}{u t:Value}(I:Inv X pins σ H s)(rx:RelV x u)(ty:TyOf X.K H x t)(e:PySem.W.kitOne X.K t c=some b)(h:∀tk,Q (.bool b) {s with toks:=tk}) :
  wpAny (model X.prog X.w) A (call (.builtin "isinstance") [u,c]) Q E s:=by
 cases ty with
 | non=>cases(show u=Value.none from rx);exact xS PySem.W.kitx_none I.kIn True.intro e (λz=>nomatch z) h
 | bl y=>cases(show u=Value.bool y from rx);exact xS PySem.W.kitx_bool I.kIn True.intro e (λz=>nomatch z) h
 | int i=>obtain⟨t,q⟩:=(show∃t,u=Value.int i t from rx);cases q;exact xS PySem.W.kitx_int I.kIn True.intro e (λz=>nomatch z) h
 | str y=>obtain⟨t,q⟩:=(show∃t,u=Value.str y t from rx);cases q;exact xS PySem.W.kitx_str I.kIn True.intro e (λz=>nomatch z) h
 | flt y=>obtain⟨t,q⟩:=(show∃t,u=Value.float y t from rx);cases q;exact xS PySem.W.kitx_float I.kIn True.intro e (λz=>nomatch z) h
 | @lst a xs ea =>
   cases(show u=Value.ref a from rx)
   obtain⟨_,_,n,_,h1⟩:=(show ObjOk X.prog X.w H s.heap a (.lst xs)from I.hok a _ ea)
   exact xS PySem.W.kitx_list I.kIn ⟨_,h1,rfl⟩ e (λz=>nomatch z) h
 | @frz a ob xs ea =>
   cases(show u=Value.ref a from rx)
   obtain⟨_,_,_,n,_,h1⟩:=(show ObjOk X.prog X.w H s.heap a (.frz ob (.lst xs))from I.hok a _ ea)
   exact xS PySem.W.kitx_list I.kIn ⟨_,h1,rfl⟩ e (λz=>nomatch z) h
 | @tup a xs ea =>
   cases(show u=Value.ref a from rx)
   obtain⟨_,_,_,p⟩:=(show ObjOk X.prog X.w H s.heap a (.tup xs)from I.hok a _ ea)
   obtain⟨o,h1,h2,_⟩:=p
   exact xS PySem.W.kitx_tuple I.kIn ⟨o,h1,h2⟩ e (λz=>nomatch z) h
 | @dK a kvs ea =>
   cases(show u=Value.ref a from rx)
   obtain⟨_,_,vs,_,p⟩:=(show ObjOk X.prog X.w H s.heap a (.dK kvs)from I.hok a _ ea)
   obtain⟨o,es,ep,h1,h2,_⟩:=p
   exact xS PySem.W.kitx_dict I.kIn ⟨o,h1,h2.1⟩ e (λz=>nomatch z) h
 | @dT a kvs ea =>
   cases(show u=Value.ref a from rx)
   obtain⟨_,_,xs,_,o,es,ep,h1,h2,_⟩:=(show ObjOk X.prog X.w H s.heap a (.dT kvs)from I.hok a _ ea)
   exact xS PySem.W.kitx_dict I.kIn ⟨o,h1,h2.1⟩ e (λz=>nomatch z) h
 | @ins a C dx fs ea cl ha hn htk hm =>
   cases(show u=Value.ref a from rx)
   obtain⟨mA,O,_⟩:=ins_get I.hok ea
   obtain⟨od,J,_⟩:=O.look
   exact xS (PySem.W.kitx_own (cl.get _) cl.hd ha hn htk hm) I.kIn J e (λz=>nomatch z) h
end
structure Room(k:Nat)(A:Around):Prop where
 hd:A.handled=none
 dp:A.depth+3*k+5<recursionLimit
 un:A.units+16*k+200<cLine
theorem Room.mono{j k:Nat}{A:Around}(r:Room k A)(h:j<=k):Room j A:=⟨r.hd,by have:=r.dp;omega,by have:=r.un;omega⟩
theorem Room.deeper{k:Nat}{A:Around}(r:Room (k+1) A)(env:Env):Room k (A.deeper env) :=
 ⟨r.hd,by have:=r.dp;show A.depth+1+3*k+5<_;omega,by have:=r.un;show A.units+3+16*k+200<_;omega⟩
theorem Room.depth{k:Nat}{A:Around}(r:Room k A):A.depth<recursionLimit:=by have:=r.dp;omega
theorem Room.units{k:Nat}{A:Around}(r:Room k A):A.units+64<cLine:=by have:=r.un;omega
def tNil:TA:=λ_ H Q=>Q [] H
def qfu(ta:TE)(tr:TA):TA:=λσ H Q=>ta σ H λx H1=>tr σ H1 λxs H2=>Q (x::xs) H2
section
variable{X:Cx}{e:Expr}{es:List Expr}{te:TE}{t:TA}{pos:Pos}
theorem pa_nil:PA X [] tNil:=λ_ _ _ _ H Q I h=>Calls.spliced_nil ⟨[],H,I,.nil,h⟩
theorem qaa(ha:PE X e te)(hr:PA X es t)(hs:starEach (e::es) X.env=(false,eval e X.env)::starEach es X.env:=by rfl):PA X (e::es) (qfu te t):=by
 intro pos pins s σ H Q I h;rw[hs];show wpAny _ _ (spliced ((false,eval e X.env)::backTo pos (starEach es X.env))) _ _ s;refine Calls.spliced_cons (thn (ha pins s σ H _ I h) λu s1 ⟨x,H1,I1,r1,q1⟩=>?_);exact thn (hr pos pins s1 σ H1 _ I1 q1) λus s2 ⟨xs,H2,I2,r2,q2⟩=>⟨x::xs,H2,I2,.cons r1 r2,q2⟩
def tTup(t:TA):TE:=λσ H Q=>t σ H λxs H1=>xs.length<=sizeLine/\∀p,H1 p=none->Q (.ref p) (upd H1 p (.tup xs))
def tLst(t:TA):TE:=λσ H Q=>t σ H λxs H1=>xs.length<=sizeLine/\∀p,H1 p=none->Q (.ref p) (upd H1 p (.lst xs))
theorem qaK{x1}(h:PA X es t):PE X (.Tuple es x1 pos) (tTup t):=by
 intro pins s σ H Q I hq;refine wpAny_Tuple_spliced (thn (h pos pins s σ H _ I hq) λus s1 ⟨xs,H1,I1,r,z,q⟩=>⟨by rw[<-r.length];exact z,?_⟩);have hf:H1 s1.heap.objs.size=none:=I1.hok.fresh (qN _);refine⟨.ref s1.heap.objs.size,upd H1 s1.heap.objs.size (.tup xs),I1.laid (t':=s1.toks) (λb u e=>qL _ e) (qN _) ?_,rfl,q _ hf⟩;exact⟨z,us,r,⟨_,rE _ rfl,rfl,_,rfl⟩⟩
theorem qay(h:PA X es t):PE X (.List es pos) (tLst t):=by
 intro pins s σ H Q I hq;refine wpAny_List_spliced (thn (h pos pins s σ H _ I hq) λus s1 ⟨xs,H1,I1,r,z,q⟩=>⟨by rw[<-r.length];exact z,?_⟩);have hf:H1 s1.heap.objs.size=none:=I1.hok.fresh (qN _);refine⟨.ref s1.heap.objs.size,upd H1 s1.heap.objs.size (.lst xs),I1.laid (t':=s1.toks) (λb u e=>qL _ e) (qN _) ?_,rfl,q _ hf⟩;exact⟨z,us,0,r,rE _ rfl⟩
end
abbrev Sp:=List V->Hp->VK->XK->Prop
abbrev CXT:=List Env->Hp->Shared->XK->Value->Shared->Prop
structure Env0(P:Program)(w:World)(K:W.Frag)(mg:Str->Option Value)(base:Heap)(A:Around)(outer:List Env)(s:Shared)(H:Hp):Prop where
 frames:A.frames=some outer
 mod:Mod K mg base
 bs:∀b o,base.get? b=some o->s.heap.get? b=some o/\H b=none
 bsz:base.objs.size<=s.heap.objs.size
 funs:s.heap.FunFrames base outer
 frf:∀b∈frs outer,H b=none
 hok:HOk P w H s.heap
 bare:AllBare s.gens
def CE(outer:List Env)(P:Program)(w:World)(H:Hp)(s:Shared)(Q:VK)(u:Value)(s':Shared):Prop :=
 ∃v H',s'.os=s.os/\AllBare s'.gens/\Un (frs outer) [] H H' s.heap s'.heap/\HOk P w H' s'.heap/\RelV v u/\Q v H'
def CR(CX:CXT)(outer:List Env)(P:Program)(w:World)(H:Hp)(s:Shared)(Q:VK)(E:XK)(r:Result)(s':Shared):Prop :=
 match r with
 | .ok (.ret u)=>CE outer P w H s Q u s'
 | .ok _=>False
 | .error e=>CX outer H s E e s'
structure FnOk(P:Program)(w:World)(K:W.Frag)(mg:Str->Option Value)(base:Heap)(CX:CXT)(k:Nat)(f:Addr)(fd:FuncData)(ps:List Str)(sp:Sp):Prop where
 len:∀vs H Q E,sp vs H Q E->vs.length=ps.length
 run:∀(A:Around) (outer:List Env) (s:Shared) (H:Hp) (args:Args) (us:List Value) (vs:List V) (Q:VK) (E:XK),Room k A->Env0 P w K mg base A outer s H->BindsTo s fd args (ps.zip us)->Vals vs us->sp vs H Q E ->
  codeAny (model P w) A (.call (.ref f) args) (CR CX outer P w H s Q E) s
section
variable{X:Cx}{pins:List (Addr×Obj)}{σ:St}{H:Hp}{s s':Shared}
theorem Inv.env0(I:Inv X pins σ H s):Env0 X.prog X.w X.K X.mg X.base X.A X.stack s H :=
 ⟨I.ok.frames,I.ok.mod,I.bs,qS I.ok.bsz I.sz,I.stack,I.stkFree,I.hok,I.bare⟩
theorem Inv.after{Q:VK}{u:Value}(I:Inv X pins σ H s)(h:CE X.stack X.prog X.w H s Q u s'):EP X pins σ Q u s':=by
 obtain⟨v,H',os,bare,un,hok,r,q⟩:=h;obtain⟨hh,g,d,t,os'⟩:=s';obtain rfl:os'=s.os:=os;exact⟨v,H',I.call (h':=hh) (g':=g) (d':=d) (t':=t) (ch:=[]) un hok bare (λb z=>absurd z (by simp)),r,q⟩
end
def qhZ(sp:Sp)(dvs:List V)(E:XK)(t:TA):TE:=λσ H Q=>t σ H λvs H1=>sp (vs++dvs) H1 Q E
def Binds(K:W.Frag)(fd:FuncData)(ps:List Str)(ds:List Value):Prop :=
 ∀(s:Shared) (us:List Value),K.In s.heap->(us++ds).length=ps.length->BindsTo s fd ⟨us,[]⟩ (ps.zip (us++ds))
theorem Binds.all{K:W.Frag}{fd:FuncData}{ps:List Str}(h:∀us:List Value,us.length=ps.length->bindArgs fd ⟨us,[]⟩=pure (ps.zip us)):Binds K fd ps []:=λs us _ hl=>by
 rw[qX]at hl⊢;exact .of_eq (h us hl)
def qee(CX:CXT)(X:Cx)(E:XK):Prop:=∀(pins:List (Addr×Obj)) (σ:St) (H:Hp) (s:Shared) (e:Value) (s':Shared),Inv X pins σ H s->CX X.stack H s E e s'->X.xe e s'
section
variable{X:Cx}{CX:CXT}{k:Nat}{f C:Addr}{fd:FuncData}{ps:List Str}{sp:Sp}{dvs:List V}{ds:List Value}{E:XK}{x m:Str}{p pos apos:Pos}{e o:Expr}{es:List Expr}{ta:TE}{t:TA}
theorem qij{pins:List (Addr×Obj)}{σ:St}{H:Hp}{s:Shared}{Q:VK}{us:List Value}{vs:List V}(F:FnOk X.prog X.w X.K X.mg X.base CX k f fd ps sp)(hr:Room k X.A)(hb:Binds X.K fd ps ds)(hd:Vals dvs ds)(hx:qee CX X E)(I:Inv X pins σ H s)(r:Vals vs us)(h:sp (vs++dvs) H Q E):wpAny (model X.prog X.w) X.A (call (.ref f) us) (EP X pins σ Q) X.xe s:=by
 have r2:Vals (vs++dvs) (us++ds):=r.append hd;have hl:(us++ds).length=ps.length:=by rw[<-r2.length];exact F.len _ _ _ _ h
 refine wpAny_call (uR (F.run X.A X.stack s H ⟨us,[]⟩ (us++ds) (vs++dvs) Q E hr I.env0 (hb s us I.kIn hl) r2 h) λr s' hq=>?_);cases r with
 | error e=>exact hx pins σ H s e s' I hq
 | ok fl =>
   cases fl with
   | ret u=>exact I.after hq
   | next=>exact False.elim hq
   | brk=>exact False.elim hq
   | cont=>exact False.elim hq
theorem pe_call(F:FnOk X.prog X.w X.K X.mg X.base CX k f fd ps sp)(hr:Room k X.A)(hg:Gl X x)(hm:X.mg x=some (.ref f))(hk:PySem.W.keepIn X.K (.ref f)=true)(hb:Binds X.K fd ps ds)(hd:Vals dvs ds)(hx:qee CX X E)(ha:PA X (e::es) t)(hdb:(x == ("__debug__" : Str))=false:=by decide)(he:starEach (e::es) X.env=(false,eval e X.env)::starEach es X.env:=by rfl)(hpl:(backTo pos (starEach es X.env)).any (·.1)=false:=by rfl) :
  PE X (.Call (.Name x p) (e::es) [] pos) (qhZ sp dvs E t):=by
 intro pins s σ H Q I h;refine yZ (qfk I hg hm ?_ hdb);refine PySem.W.callWith_K (h₀:=X.base) I.ok.mod.kin hk (thn (ha pos pins s σ H _ I h) λus s1 ⟨vs,H1,I1,r,q⟩=>⟨I1.kIn,?_⟩) he hpl;exact qij F hr hb hd hx I1 r q
theorem pe_call0(F:FnOk X.prog X.w X.K X.mg X.base CX k f fd ps sp)(hr:Room k X.A)(hg:Gl X x)(hm:X.mg x=some (.ref f))(hk:PySem.W.keepIn X.K (.ref f)=true)(hb:Binds X.K fd ps ds)(hd:Vals dvs ds)(hx:qee CX X E)(hdb:(x == ("__debug__" : Str))=false:=by decide):PE X (.Call (.Name x p) [] [] pos) (qhZ sp dvs E tNil):=by
 intro pins s σ H Q I h;refine yZ (qfk I hg hm ?_ hdb);exact PySem.W.callWith_K0 I.kIn hk (qij (us:=[]) F hr hb hd hx I .nil h)
end
structure FnScope(N P:List Str)(sc:Scope):Prop where
 kind:sc.kind=.function
 co:sc.isCoroutine=false
 gen:sc.isGenerator=false
 nd:N.Nodup
 pre:N.take P.length=P
 par:∀x∈P,sc.names.lookup x=some .local\/sc.names.lookup x=some .cell
 nofree:∀y∈sc.names,y.2≠.free
theorem qfN{kindOf:Str->Option NameKind}{x:Str}:∀{binds:List (Str×Value)} {m:Str->Option Value},(∀v,(x,v)∉binds)->bindL kindOf binds m x=m x
 | [],_,_=>rfl
 | (n, v) :: r, m, h => by
   unfold bindL
   rw[qfN λw hw=>h w (qQ _ hw)]
   split
   · have:x≠n:=by rintro rfl;exact h v qM
     simp[this]
   · rfl
theorem qf6{kindOf:Str->Option NameKind}{x:Str}:∀{binds:List (Str×Value)} {m:Str->Option Value},(∀v,(x,v)∉binds)->bindC kindOf binds m x=m x
 | [],_,_=>rfl
 | (n, v) :: r, m, h => by
   unfold bindC
   rw[qf6 λw hw=>h w (qQ _ hw)]
   split
   · rfl
   · have:x≠n:=by rintro rfl;exact h v qM
     simp[this]
theorem qf2{kindOf:Str->Option NameKind}{x:Str}{v:Value}:∀{P:List Str} {vs:List Value} {i:Nat} {m:Str->Option Value},P.Nodup->P[i]?=some x->vs[i]?=some v->kindOf x=some .local ->
  bindL kindOf (P.zip vs) m x=some v
 | [],_,_,_,_,h,_,_=>by simp at h
 | _::_,[],_,_,_,_,h,_=>by simp at h
 | p :: P, w :: vs, 0, m, nd, h1, h2, hk => by
   simp at h1 h2;subst h1;subst h2
   show bindL kindOf ((p,w)::P.zip vs) m p=_
   unfold bindL
   rw[qfN λv hv=>(xI.mp nd).1 (wE hv).1,if_pos hk]
   simp
 | p :: P, w :: vs, i + 1, m, nd, h1, h2, hk => by
   show bindL kindOf ((p,w)::P.zip vs) m x=_
   unfold bindL
   exact qf2 (i:=i) (xI.mp nd).2 (by simpa using h1) (by simpa using h2) hk
theorem qf5{kindOf:Str->Option NameKind}{x:Str}{v:Value}:∀{P:List Str} {vs:List Value} {i:Nat} {m:Str->Option Value},P.Nodup->P[i]?=some x->vs[i]?=some v->kindOf x≠some .local ->
  bindC kindOf (P.zip vs) m x=some v
 | [],_,_,_,_,h,_,_=>by simp at h
 | _::_,[],_,_,_,_,h,_=>by simp at h
 | p :: P, w :: vs, 0, m, nd, h1, h2, hk => by
   simp at h1 h2;subst h1;subst h2
   show bindC kindOf ((p,w)::P.zip vs) m p=_
   unfold bindC
   rw[qf6 λv hv=>(xI.mp nd).1 (wE hv).1,if_neg hk]
   simp
 | p :: P, w :: vs, i + 1, m, nd, h1, h2, hk => by
   show bindC kindOf ((p,w)::P.zip vs) m x=_
   unfold bindC
   exact qf5 (i:=i) (xI.mp nd).2 (by simpa using h1) (by simpa using h2) hk
def qfw(N:List Str)(vs:List V):St:=vs.map some++List.replicate (N.length-vs.length) none
def cxOf(CX:CXT)(P:Program)(w:World)(K:W.Frag)(mg:Str->Option Value)(base:Heap)(N:List Str)(qual:Str)(scope:Scope)(f:Addr)(cd:Value)(A:Around)(outer:List Env)(s:Shared)(H:Hp)(E:XK):Cx where
 prog:=P
 w:=w
 K:=K
 mg:=mg
 base:=base
 A:=A.deeper (envOfC qual scope s.heap.objs.size f cd)
 N:=N
 s₀:=s
 H₀:=H
 env:=envOfC qual scope s.heap.objs.size f cd
 outer:=outer
 stack:=envOfC qual scope s.heap.objs.size f cd::outer
 ex:=[]
 calm:=true
 fn:=λ_=>true
 pn:=[]
 xe:=λe s'=>wpAny (model P w) (A.deeper (envOfC qual scope s.heap.objs.size f cd)) (leaving (envOfC qual scope s.heap.objs.size f cd) e) (λ_ s''=>CX outer H s E e s'') (λe' s''=>CX outer H s E e' s'') s'
theorem qgI{sc:Scope}{n:Nat}{x:Str}(h:sc.names.lookup x=some .cell):∃c,(cellsFrom n sc.names []).lookup x=some c:=by
 have q:=PySem.W.cellsFrom_some sc.names n [] (.inl h);exact Option.isSome_iff_exists.mp q
theorem inv_start{CX:CXT}{P:Program}{w:World}{K:W.Frag}{mg:Str->Option Value}{base:Heap}{N ps:List Str}{qual:Str}{scope:Scope}{f:Addr}{cd:Value}{A:Around}{outer:List Env}{s s1:Shared}{H:Hp}{E:XK}{us:List Value}{vs:List V}(S:FnScope N ps scope)(hd:A.handled=none)(e0:Env0 P w K mg base A outer s H)(hl:vs.length=ps.length)(r:Vals vs us)(x:InCallC s s.heap.objs.size (bindL (envOfC qual scope s.heap.objs.size f cd).kindOf (ps.zip us) λ_=>none) (cellsFrom (s.heap.objs.size+1) scope.names []) (bindC (envOfC qual scope s.heap.objs.size f cd).kindOf (ps.zip us) λ_=>none) s1) :
  Inv (cxOf CX P w K mg base N qual scope f cd A outer s H E) [] (qfw N vs) H s1:=by
 have hpl:ps.length<=N.length:=by have:=xN List.length S.pre;rw[rK]at this;omega
 obtain⟨h1,tk,rfl,hk⟩:=x.done;have noA:∀b:Addr,b∉(cxOf CX P w K mg base N qual scope f cd A outer s H E).ex:=λb z=>absurd (show b∈([]:List Addr)from z) (by simp)
 refine⟨⟨e0.mod,S.kind,rfl,rfl,qN _,λy z c h1 h2=>?_,λy hy=>?_,λy c _ h=>?_,λ_=>hd,Around.frames_deeper e0.frames,.inr ⟨rfl,rfl⟩,λb z=>absurd z (noA b),e0.bs,e0.bsz,λb _ _=>noA b,λb z=>absurd z (noA b),e0.funs,e0.frf⟩,
  rfl,e0.bare,Un.kept hk,⟨_,x.toInCall.ns,λi y v h1 h2 h3=>?_⟩,λy c h=>⟨_,x.cell y c h⟩,e0.hok.fresh (qN _),λy c h=>?_,λp hp=>absurd (show p∈([]:List (Addr×Obj))from hp) (by simp),e0.hok.kept hk,?_⟩
 ·exact name_of_addr x.apart (uE h1) (uE h2)
 ·have hy:scope.names.lookup y=some .cell\/scope.names.lookup y=some .free:=hy;rcases hy with hy | hy
  ·exact qgI hy
  ·exact absurd rfl (S.nofree _ (uE hy))
 ·exact xY (x.above y c (uE h))
 ·have hi:i<vs.length:=by
   unfold qfw at h2
   by_cases hi:i<vs.length
   ·exact hi
   ·rw[rT (by simpa using hi)]at h2;rw[List.getElem?_replicate]at h2
    split at h2<;>cases h2
  have ha:vs[i]?=some v:=by
   unfold qfw at h2;rw[rQ (by simpa using hi),qR]at h2;cases e:vs[i]? with
   | none=>rw[e]at h2;cases h2
   | some a=>rw[e]at h2;cases h2;rfl
  obtain⟨u,hu,rv⟩:=r.get ha;have hp:ps[i]?=some y:=by
   rw[<-S.pre,List.getElem?_take_of_lt (by omega)];exact h1
  have ndP:ps.Nodup:=by rw[<-S.pre];exact S.nd.sublist (List.take_sublist _ _)
  refine⟨u,rv,?_⟩;rcases S.par y (qP hp)with k | k
  ·exact .inl ⟨k,qf2 ndP hp hu k⟩
  ·obtain⟨c,e⟩:=qgI (n:=s.heap.objs.size+1) k;refine .inr ⟨.inl k,c,e,?_⟩;have q:=x.cell y c e;rw[qf5 ndP hp hu (by show scope.names.lookup y≠_;rw[k];decide)]at q;exact q
 ·exact e0.hok.fresh (xY (x.above y c (uE h)))
 ·unfold qfw;show _=N.length;rw[qD,qA,xM];omega
theorem qiA{CX:CXT}{P:Program}{w:World}{K:W.Frag}{mg:Str->Option Value}{base:Heap}{k:Nat}{f:Addr}{name qual:Str}{params:Arguments}{body:List Stmt}{scope:Scope}{dV kV doc pm cdv ct oc:Value}{an od:Option Addr}{osl:Array (Option Value)}{N ps:List Str}{sp:Sp}(lk:K.lookup f=some ⟨oc,od,.func (PySem.W.fnOf name qual params body scope dV kV doc pm an cdv ct),osl⟩)(hcd:PySem.W.codeIn K cdv qual=true)(S:FnScope N ps scope)(len:∀vs H Q E,sp vs H Q E->vs.length=ps.length)(hbody:∀(A:Around) (outer:List Env) (s:Shared) (H:Hp) (vs:List V) (Q:VK) (E:XK),Room k (A.deeper (envOfC qual scope s.heap.objs.size f cdv))->sp vs H Q E ->
   ∃t,PSs (cxOf CX P w K mg base N qual scope f cdv A outer s H E) body t/\t {nx:=λ_ H'=>Q .non H',rt:=Q} (qfw N vs) H) :
  FnOk P w K mg base CX (k+1) f (PySem.W.fnOf name qual params body scope dV kV doc pm an cdv ct) ps sp:=by
 refine⟨len,λA outer s H args us vs Q E hr e0 hb r hsp=>?_⟩;have hl:=len _ _ _ _ hsp;have KX:K.In s.heap:=e0.mod.kin.keeps λb o e=>(e0.bs b o e).1
 have lim:s.heap.NoLimit:=e0.mod.nolimit.keeps λb o e=>(e0.bs b o e).1
 have hkind:∀y∈ps.zip us,scope.names.lookup y.1=some .local\/(scope.names.lookup y.1=some .cell/\((cellsFrom (s.heap.objs.size+1) scope.names []).lookup y.1).isSome=true):=λ⟨n,v⟩ hy=>by
  rcases S.par n (wE hy).1 with q | q
  ·exact .inl q
  ·exact .inr ⟨q,PySem.W.cellsFrom_some _ _ _ (.inl q)⟩
 refine codeAny_call_function hr.depth (KX _ _ lk) rfl S.co S.gen rfl (PySem.W.codeRec_of KX hcd) (hb _ _ _ _ ?_);refine wpAny_newFunctionEnv_cells S.kind hkind λenv he s1 x=>?_
 subst he;refine⟨lim.keeps x.toInCall.keep,codeAny_func ?_⟩;obtain⟨t,ht,hq⟩:=hbody A outer s H vs Q E (hr.deeper _) hsp;have I:Inv (cxOf CX P w K mg base N qual scope f cdv A outer s H E) [] (qfw N vs) H s1:=inv_start S hr.hd e0 hl r x;refine xC (ht [] s1 (qfw N vs) H _ I hq) (λfl s' hs=>?_) λe s' hs=>hs
 have fin:∀{σ':St} {H':Hp} {v:V} {u:Value},Inv (cxOf CX P w K mg base N qual scope f cdv A outer s H E) [] σ' H' s'->RelV v u->Q v H'->CE outer P w H s Q u s' :=
  λ{σ' H' v u} J rv q=>⟨v,H',J.os,J.bare,J.base,J.hok,rv,q⟩
 cases fl with
 | ret u =>
   obtain⟨v,σ',H',J,rv,q⟩:=hs
   exact fin J rv q
 | next =>
   obtain⟨σ',H',J,q⟩:=hs
   exact fin (v:=V.non) (u:=Value.none) J rfl q
 | brk =>
   obtain⟨_,_,_,q⟩:=hs
   exact False.elim q
 | cont =>
   obtain⟨_,_,_,q⟩:=hs
   exact False.elim q
section
variable{X:Cx}{x:Str}{p pos:Pos}{e:Expr}{es:List Expr}{t:TA}{id T:String}{r:List V->Hp->VK->Prop}
def tCB(r:List V->Hp->VK->Prop)(t:TA):TE:=λσ H Q=>t σ H λvs H1=>r vs H1 Q
theorem qam(hc:qdT X (.builtin id) r)(hg:Gl X x)(hm:X.mg x=none)(hv:bootBuiltins x=some (.builtin id))(ha:PA X (e::es) t)(hn:x ≠ "__name__":=by decide)(hdb:(x == ("__debug__" : Str))=false:=by decide)(he:starEach (e::es) X.env=(false,eval e X.env)::starEach es X.env:=by rfl)(hpl:(backTo pos (starEach es X.env)).any (·.1)=false:=by rfl):PE X (.Call (.Name x p) (e::es) [] pos) (tCB r t):=by
 intro pins s σ H Q I h;refine yZ (qdz I hg hm hv ?_ hn hdb);exact PyProof.Rows.callWith_builtin1 (thn (ha pos pins s σ H _ I h) λus s1 ⟨vs,H1,I1,r1,q1⟩=>hc pins s1 σ H1 vs us Q I1 r1 q1) he hpl
theorem qcm(hc:qdT X (.type T) r)(hg:Gl X x)(hm:X.mg x=none)(hv:bootBuiltins x=some (.type T))(ha:PA X (e::es) t)(hn:x ≠ "__name__":=by decide)(hdb:(x == ("__debug__" : Str))=false:=by decide)(he:starEach (e::es) X.env=(false,eval e X.env)::starEach es X.env:=by rfl)(hpl:(backTo pos (starEach es X.env)).any (·.1)=false:=by rfl):PE X (.Call (.Name x p) (e::es) [] pos) (tCB r t):=by
 intro pins s σ H Q I h;refine yZ (qdz I hg hm hv ?_ hn hdb);exact xD (thn (ha pos pins s σ H _ I h) λus s1 ⟨vs,H1,I1,r1,q1⟩=>hc pins s1 σ H1 vs us Q I1 r1 q1) he hpl
end
end L2
namespace HT
open PySem PyProof.Rows
section
variable{prog:Program}{w:World}{A:Around}{E:Value->Shared->Prop}{s:Shared}
def sIx(n d:Nat):Option Int->Nat
 | none=>d
 | some v=>if v<0 then(v+(n:Int)).toNat else min v.toNat n
theorem sIx_none(n d:Nat):sIx n d none=d:=rfl
theorem sIx_nat(n d k:Nat):sIx n d (some (k:Int))=min k n:=by
 show(if(k:Int)<0 then((k:Int)+(n:Int)).toNat else min (k:Int).toNat n)=min k n;rw[if_neg (by omega),rP]
end
end HT
namespace L2
open PySem PySem.Spec PyProof.Rows
abbrev TO:=St->Hp->(Option Int->Hp->Prop)->Prop
def PO(X:Cx)(e:Option Expr)(t:TO):Prop :=
 ∀(pins:List (Addr×Obj)) (s:Shared) (σ:St) (H:Hp) (Q:Option Int->Hp->Prop),Inv X pins σ H s->t σ H Q ->
  wpAny (model X.prog X.w) X.A (evalPart e X.env) (λu s'=>∃o H',Inv X pins σ H' s'/\IsPart u o/\Q o H') X.xe s
def tNoPart:TO:=λ_ H Q=>Q none H
def tPart(t:TE):TO:=λσ H Q=>t σ H λx H1=>∃i,x=.int i/\Q (some i) H1
section
variable{X:Cx}{e:Expr}{te:TE}{lo hi:Option Expr}{tl th:TO}{pos p2:Pos}
theorem po_none:PO X none tNoPart:=by
 intro pins s σ H Q I h;rw[evalPart_none];exact qU ⟨none,H,I,.none,h⟩
theorem qbc(h:PE X e te):PO X (some e) (tPart te):=by
 intro pins s σ H Q I hw;rw[evalPart_some];refine thn (h pins s σ H _ I hw) λu s1 ⟨x,H1,I1,r1,q1⟩=>?_
 obtain⟨i,rfl,q⟩:=q1;obtain⟨t,rfl⟩:=r1;exact⟨some i,H1,I1,.int i t,q⟩
def SlR(X:Cx)(r:V->Option Int->Option Int->Hp->VK->Prop):Prop :=
 ∀(pins:List (Addr×Obj)) (s:Shared) (σ:St) (H:Hp) (x:V) (v vl vu:Value) (lo hi:Option Int) (sl:Addr) (Q:VK),Inv X pins σ H s->RelV x v->s.heap.IsSliceOf sl vl vu .none->IsPart vl lo->IsPart vu hi->r x lo hi H Q ->
  ∃T id,typeLookup (.type T) "__getitem__" = pure (some (.builtin id))/\s.TypeIs v T/\wpAny (model X.prog X.w) X.A (getItem v (.ref sl)) (EP X pins σ Q) X.xe s
def tSl(r:V->Option Int->Option Int->Hp->VK->Prop)(te:TE)(tl th:TO):TE:=λσ H Q=>te σ H λx H1=>tl σ H1 λl H2=>th σ H2 λu H3=>r x l u H3 Q
theorem qbd{r:V->Option Int->Option Int->Hp->VK->Prop}(hr:SlR X r)(he:PE X e te)(hl:PO X lo tl)(hu:PO X hi th):PE X (.Subscript e (.Slice lo hi none p2) pos) (tSl r te tl th):=by
 intro pins s σ H Q I h;refine Subscript_ (thn (he pins s σ H _ I h) λv s1 ⟨x,H1,I1,r1,q1⟩=>?_);refine wpAny_Slice (thn (hl pins s1 σ H1 _ I1 q1) λvl s2 ⟨l,H2,I2,pl,q2⟩=>thn (hu pins s2 σ H2 _ I2 q2) λvu s3 ⟨u,H3,I3,pu,q3⟩=>?_);rw[evalPart_none];refine qU ?_;have I4:Inv X pins σ H3 {s3 with heap:=s3.heap.push {cls:=.type "slice",data:=.fields #[vl,vu,.none]}}:=I3.kept (t':=s3.toks) λb ob q=>qL _ q
 obtain⟨T,id,hT,ht,hg⟩:=hr pins {s3 with heap:=s3.heap.push {cls:=.type "slice",data:=.fields #[vl,vu,.none]}} σ H3 x v vl vu l u s3.heap.objs.size Q I4 r1 (Heap.IsSliceOf.new ..) pl pu q3;show wpAny (model X.prog X.w) X.A (subscriptTail e (.Slice lo hi none p2) v (.ref s3.heap.objs.size)) (EP X pins σ Q) X.xe {s3 with heap:=s3.heap.push {cls:=.type "slice",data:=.fields #[vl,vu,.none]}};exact tail_any (ops:=[.ref s3.heap.objs.size,v]) ht hT hg (by with_unfolding_all rfl)
def cutV(xs:List V)(lo hi:Option Int):List V:=(xs.drop (HT.sIx xs.length 0 lo)).take (HT.sIx xs.length xs.length hi-HT.sIx xs.length 0 lo)
theorem cutV_length(xs:List V)(lo hi:Option Int):(cutV xs lo hi).length<=xs.length:=by
 unfold cutV;rw[rK,rV];omega
end
def ixN(n:Nat)(i:Int):Option Nat:=if 0<=i then(if i<n then some i.toNat else none)else if -(n:Int)<=i then some (i+n).toNat else none
def atI{α:Type}(xs:List α)(i:Int):Option α:=(ixN xs.length i).bind λj=>xs[j]?
theorem qhx{n:Nat}{i:Int}{j:Nat}(h:ixN n i=some j):seqIndex? i n=some j/\j<n/\-(n:Int)<=i/\i<n:=by
 unfold ixN at h
 by_cases h0:0<=i
 ·rw[if_pos h0]at h
  by_cases h1:i<n
  ·rw[if_pos h1]at h;have e:i.toNat=j:=rD h;exact⟨by rw[seqIndex_of h0 h1,e],by omega,by omega,h1⟩
  ·rw[if_neg h1]at h;cases h
 ·rw[if_neg h0]at h
  by_cases h1:-(n:Int)<=i
  ·rw[if_pos h1]at h;have e:(i+n).toNat=j:=rD h;exact⟨by rw[seqIndex_neg (by omega) h1,e],by omega,h1,by omega⟩
  ·rw[if_neg h1]at h;cases h
theorem qgh{α:Type}{xs:List α}{i:Int}{v:α}(h:atI xs i=some v):∃j,seqIndex? i xs.length=some j/\xs[j]?=some v/\j<xs.length/\-(xs.length:Int)<=i/\i<xs.length:=by
 unfold atI at h;cases e:ixN xs.length i with
 | none=>rw[e]at h;cases h
 | some j =>
   rw[e]at h
   obtain⟨h1,h2,h3,h4⟩:=qhx e
   exact⟨j,h1,h,h2,h3,h4⟩
theorem qbL{α:Type}{xs:List α}{j:Nat}{v:α}(h:xs[j]?=some v):atI xs (j:Int)=some v:=by
 have hj:j<xs.length:=(qI.mp h).1;have e:ixN xs.length (j:Int)=some j:=by
  unfold ixN;rw[if_pos (by omega),if_pos (by omega)];simp
 unfold atI;rw[e];exact h
def PlainIx(b:Expr):Prop:=∀o i,subscripted b false o i=operate [o,i] (getItem o i)
def IxR(X:Cx)(r:R2):Prop :=
 ∀(value slice:Expr) (pins:List (Addr×Obj)) (s:Shared) (σ:St) (H:Hp) (x y:V) (v u:Value) (Q:VK),Inv X pins σ H s->RelV x v->RelV y u->r x y H Q ->
  subscripted slice false v u=operate [v,u] (getItem v u)->wpAny (model X.prog X.w) X.A (subscriptTail value slice v u) (EP X pins σ Q) X.xe s
def MtR(X:Cx)(id:String)(r:V->List V->Hp->VK->Prop):Prop :=
 ∀(pins:List (Addr×Obj)) (s:Shared) (σ:St) (H:Hp) (x:V) (xs:List V) (v:Value) (us:List Value) (Q:VK),Inv X pins σ H s->RelV x v->Vals xs us->r x xs H Q ->
  wpAny (model X.prog X.w) X.A (call (.builtin id) (v::us)) (EP X pins σ Q) X.xe s
section
variable{X:Cx}{a b:Expr}{ta tb:TE}{pos:Pos}
theorem qan{r:R2}(hr:IxR X r)(ha:PE X a ta)(hb:PE X b tb)(hs:PlainIx b):PE X (.Subscript a b pos) (tOp r ta tb):=by
 intro pins s σ H Q I h;exact Subscript_ (binT ha hb I h λv u s2 x y H2 I2 rx ry q=>hr a b pins s2 σ H2 x y v u Q I2 rx ry q (hs _ _))
def rIxL(K:W.Frag):R2:=λx y H Q=>∃p xs i v,x=.ref p/\y=.int i/\SqL K H p xs/\atI xs i=some v/\Q v H
def rIxT(K:W.Frag):R2:=λx y H Q=>∃p xs i v,x=.ref p/\y=.int i/\SqT K H p xs/\atI xs i=some v/\Q v H
def rIxS:R2:=λx y H Q=>∃z i c,x=.str z/\y=.int i/\z.length<=sizeLine/\atI z.cps.toList i=some c/\Q (.str ⟨#[c]⟩) H
theorem ix_list:IxR X (rIxL X.K):=by
 intro value slice pins s σ H x y v u Q I rx ry h hs;obtain⟨p,xs,i,z,rfl,rfl,hq,he,q⟩:=h;cases rx;obtain⟨t,rfl⟩:=ry;obtain⟨its,r,pl,hz⟩:=I.list hq;obtain⟨j,h1,h2,h3,h4,h5⟩:=qgh he;obtain⟨w,ew,rw'⟩:=r.get h2;have hl:=r.length;have hn:=line63;have fin:EP X pins σ Q w s:=⟨z,H,I,rw',q⟩
 by_cases h0:0<=i
 ·have hj:i.toNat=j:=by
   rw[seqIndex_of h0 h5]at h1;exact rD h1
  exact item_listR pl.isList h0 (by omega) (by rw[hj];simpa using ew) fin hs
 ·have hj:(i+(its.toArray.size:Int)).toNat=j:=by
   rw[seqIndex_neg (by omega) h4]at h1;rw[qZ,<-hl];exact rD h1
  exact uY (x:=w) pl.isList.typeIs slot_list_getitem.lookup
   (wpAny_getItem_list_neg (Q:=λr s'=>r=w/\EP X pins σ Q r s') pl.isList (by omega) (by rw[qZ]<;>omega) (by omega) (by rw[hj];simpa using ew) ⟨rfl,fin⟩) hs
theorem ix_tup:IxR X (rIxT X.K):=by
 intro value slice pins s σ H x y v u Q I rx ry h hs;obtain⟨p,xs,i,z,rfl,rfl,hq,he,q⟩:=h;cases rx;obtain⟨t,rfl⟩:=ry;obtain⟨its,r,pl,hz⟩:=I.tuple hq;obtain⟨j,h1,h2,h3,h4,h5⟩:=qgh he;obtain⟨w,ew,rw'⟩:=r.get h2;have hl:=r.length;have hn:=line63;have fin:EP X pins σ Q w s:=⟨z,H,I,rw',q⟩;exact uY (x:=w) pl.typeIs slot_tuple_getitem.lookup
  (getItem_tuple (j:=j) (Q:=λr s'=>r=w/\EP X pins σ Q r s') pl (by omega) (by omega) (by rw[qZ,<-hl];exact h1) (by simpa using ew) ⟨rfl,fin⟩) hs
theorem ix_str:IxR X rIxS:=by
 intro value slice pins s σ H x y v u Q I rx ry h hs;obtain⟨z,i,c,rfl,rfl,hz,he,q⟩:=h;obtain⟨t,rfl⟩:=rx;obtain⟨t',rfl⟩:=ry;obtain⟨j,h1,h2,h3,h4,h5⟩:=qgh he;have hl:z.cps.toList.length=z.length:=by simp[Str.length]
 rw[hl]at h1 h4 h5;have hn:=line63;exact tail_any (uO s z t) slot_str_getitem.lookup (getItem_str (c:=c) (by
  have e1:decide (i < -(2 ^ 63:Int))=false:=qB (by omega);have e2:decide (i≥2 ^ 63)=false:=qB (by omega);rw[e1,e2,Bool.or_false]) (by rw[h1];simpa using h2) ⟨.str ⟨#[c]⟩,H,I.tok _,⟨_,rfl⟩,q⟩) hs
theorem mapSeq_set(its:List Value)(n j:Nat)(u:Value):Obj.mapSeq (·.setIfInBounds j u) {cls:=.type "list",data:=.seq its.toArray n}={cls:=.type "list",data:=.seq (its.set j u).toArray n}:=by
 simp[Obj.mapSeq]
theorem Inv.lst{pins:List (Addr×Obj)}{σ:St}{H:Hp}{s:Shared}{p:Addr}{xs:List V}(I:Inv X pins σ H s)(h:H p=some (.lst xs)) :
  ∃(its:List Value) (n:Nat),Vals xs its/\s.heap.get? p=some {cls:=.type "list",data:=.seq its.toArray n}/\xs.length<=sizeLine:=by
 obtain⟨z,its,n,r,e⟩:=I.hok p _ h;exact⟨its,n,r,e,z⟩
theorem Inv.lstUpd{pins:List (Addr×Obj)}{σ:St}{H:Hp}{s:Shared}{p:Addr}{xs ys:List V}{its its':List Value}{n n':Nat}{f:Obj->Obj}(I:Inv X pins σ H s)(h:H p=some (.lst xs))(ho:s.heap.get? p=some {cls:=.type "list",data:=.seq its.toArray n})(hf:f {cls:=.type "list",data:=.seq its.toArray n}={cls:=.type "list",data:=.seq its'.toArray n'})(r:Vals ys its')(hz:ys.length<=sizeLine)(t:Nat) :
  Inv X pins σ (upd H p (.lst ys)) {s with heap:=s.heap.update p f,toks:=t}:=by
 have e:(s.heap.update p f).get? p=some {cls:=.type "list",data:=.seq its'.toArray n'}:=by
  rw[yF f ho (by rw[hf]<;>rfl),hf]
 refine I.write (x:=p) (e:=p) (by rw[h];trivial) (.inl rfl) (λb u hb q=>(uG _ _ (Ne.symm hb)).trans q) ⟨_,e⟩ ?_;exact⟨hz,its',n',r,e⟩
def rSetL:V->V->V->Hp->(Hp->Prop)->Prop:=λo i v H Q=>∃p xs k j,o=.ref p/\i=.int k/\H p=some (.lst xs)/\ixN xs.length k=some j/\Q (upd H p (.lst (xs.set j v)))
theorem set_list:PSet X rSetL:=by
 intro pins s σ H o i v ov iv u Q I ro ri rv h;obtain⟨p,xs,k,j,rfl,rfl,hp,hj,q⟩:=h;cases ro;obtain⟨t,rfl⟩:=ri;obtain⟨its,n,r,ho,hz⟩:=I.lst hp;obtain⟨h1,h2,h3,h4⟩:=qhx hj;have hl:=r.length;have hn:=line63;have I':Inv X pins σ (upd H p (.lst (xs.set j v))) {s with heap:=s.heap.update p (Obj.mapSeq (·.setIfInBounds j u))} :=
  I.lstUpd hp ho (mapSeq_set its n j u) (r.set rv j) (by rw[List.length_set];exact hz) s.toks
 by_cases h0:0<=k
 ·have hk:k.toNat=j:=by
   rw[seqIndex_of h0 h4]at h1;exact rD h1
  exact PySem.W.ki_setAt ho h0 (by omega) (by rw[qZ,<-hl];exact h4) (by rw[hk];exact⟨_,I',q⟩)
 ·have hk:(k+(its.toArray.size:Int)).toNat=j:=by
   rw[seqIndex_neg (by omega) h3]at h1;rw[qZ,<-hl];exact rD h1
  exact PySem.W.ki_setBack ho (by omega) (by rw[qZ,<-hl];exact h3) (by omega) (by rw[hk];exact⟨_,I',q⟩)
theorem slice_bounds(lo hi:Option Int)(n:Nat):(sliceBounds lo hi none n).1=((HT.sIx n 0 lo:Nat):Int)/\(sliceBounds lo hi none n).2.1=((HT.sIx n n hi:Nat):Int)/\(sliceBounds lo hi none n).2.2=1:=by
 refine⟨?_,?_,rfl⟩
 ·cases lo with
  | none=>simp[sliceBounds,HT.sIx]
  | some i =>
    simp only[sliceBounds,HT.sIx,Option.getD_none,show(1:Int)>0 by decide,if_true]
    by_cases h:i<0
    · simp only[h,if_true]<;>omega
    · simp only[h,if_false]<;>omega
 ·cases hi with
  | none=>simp[sliceBounds,HT.sIx]
  | some i =>
    simp only[sliceBounds,HT.sIx,Option.getD_none,show(1:Int)>0 by decide,if_true]
    by_cases h:i<0
    · simp only[h,if_true]<;>omega
    · simp only[h,if_false]<;>omega
theorem slicePick_cut(its:List Value)(lo hi:Option Int):slicePick its.toArray lo hi none=((its.drop (HT.sIx its.length 0 lo)).take (HT.sIx its.length its.length hi-HT.sIx its.length 0 lo)).toArray:=by
 obtain⟨h1,h2,h3⟩:=slice_bounds lo hi its.toArray.size;unfold slicePick;rw[h1,h2,h3];simp only[sliceRange_one,pick_run,List.size_toArray]<;>rfl
def rSlL(K:W.Frag):V->Option Int->Option Int->Hp->VK->Prop:=λx lo hi H Q=>∃a xs,x=.ref a/\SqL K H a xs/\∀p,H p=none->Q (.ref p) (upd H p (.lst (cutV xs lo hi)))
theorem sl_list:SlR X (rSlL X.K):=by
 intro pins s σ H x v vl vu lo hi sl Q I rx hs pl pu h;obtain⟨a,xs,rfl,hx,q⟩:=h;cases rx;obtain⟨its,r,ht,hz⟩:=I.list hx;have hlen:=r.length;refine⟨"list",_,slot_list_getitem.lookup,ht.isList.typeIs,?_⟩;refine wpAny_getItem_list_slice ht.isList hs pl pu .none (by simp) ?_ (by rw[List.size_toArray]<;>omega);rw[slicePick_cut,<-hlen];refine⟨.ref s.heap.objs.size,_,I.laid (t':=s.toks) (o:=.lst (cutV xs lo hi)) (λb ob q=>qL _ q) (qN _) ?_,rfl,q _ (I.hok.fresh (qN _))⟩;exact⟨qS (cutV_length xs lo hi) hz,_,0,(r.drop (HT.sIx xs.length 0 lo)).take (HT.sIx xs.length xs.length hi-HT.sIx xs.length 0 lo),rE _ rfl⟩
def flatV:V->Bool
 | .non=>true
 | .bl _=>true
 | .int _=>true
 | .str _=>true
 | _=>false
def eqV:V->V->Bool
 | .non,.non=>true
 | .bl a,.bl b=>a == b
 | .bl a,.int b=>(if a then 1 else 0) == b
 | .int a,.bl b=>a == (if b then 1 else 0)
 | .int a,.int b=>a == b
 | .str a,.str b=>a == b
 | _,_=>false
theorem eqAt_V{A:Around}{s:Shared}{y x:V}{u v:Value}(ry:RelV y u)(rx:RelV x v)(fy:flatV y=true)(fx:flatV x=true):SeqAt.EqAt A s u v (eqV y x):=by
 cases y with
 | non =>
   cases ry
   cases x with
   | non=>cases rx;exact SeqAt.EqAt.same _
   | bl b=>cases rx;exact SeqAt.EqAt.none_bool b
   | int b=>obtain⟨t,rfl⟩:=rx;exact SeqAt.EqAt.none_int b t
   | str b=>obtain⟨t,rfl⟩:=rx;exact SeqAt.EqAt.none_str b t
   | _=>exact absurd (show false=true from fx) qF
 | bl a =>
   cases ry
   cases x with
   | non=>cases rx;exact SeqAt.EqAt.bool_none a
   | bl b=>cases rx;exact SeqAt.EqAt.bool_bool a b
   | int b=>obtain⟨t,rfl⟩:=rx;exact SeqAt.EqAt.bool_int a b t
   | str b=>obtain⟨t,rfl⟩:=rx;exact SeqAt.EqAt.bool_str a b t
   | _=>exact absurd (show false=true from fx) qF
 | int a =>
   obtain⟨t',rfl⟩:=ry
   cases x with
   | non=>cases rx;exact SeqAt.EqAt.int_none a t'
   | bl b=>cases rx;exact SeqAt.EqAt.int_bool a t' b
   | int b=>obtain⟨t,rfl⟩:=rx;exact SeqAt.EqAt.int_int a t' b t
   | str b=>obtain⟨t,rfl⟩:=rx;exact SeqAt.EqAt.int_str a t' b t
   | _=>exact absurd (show false=true from fx) qF
 | str a =>
   obtain⟨t',rfl⟩:=ry
   cases x with
   | non=>cases rx;exact SeqAt.EqAt.str_none a t'
   | bl b=>cases rx;exact SeqAt.EqAt.str_bool a t' b
   | int b=>obtain⟨t,rfl⟩:=rx;exact SeqAt.EqAt.str_int a t' b t
   | str b=>obtain⟨t,rfl⟩:=rx;exact SeqAt.EqAt.str_str a t' b t
   | _=>exact absurd (show false=true from fx) qF
 | _=>exact absurd (show false=true from fy) qF
def eqU(x:V)(u:Value):Bool:=match u with
 | .none=>eqV .non x
 | .bool b=>eqV (.bl b) x
 | .int i _=>eqV (.int i) x
 | .str z _=>eqV (.str z) x
 | _=>false
theorem qh8{x y:V}{u:Value}(r:RelV y u)(f:flatV y=true):eqU x u=eqV y x:=by
 cases y with
 | non=>cases r;rfl
 | bl b=>cases r;rfl
 | int i=>obtain⟨t,rfl⟩:=r;rfl
 | str z=>obtain⟨t,rfl⟩:=r;rfl
 | _=>exact absurd (show false=true from f) qF
theorem qei{x:V}:∀{xs:List V} {us:List Value},Vals xs us->xs.all flatV=true->us.any (eqU x)=xs.any λy=>eqV y x
 | _,_,.nil,_=>rfl
 | y :: xs, u :: us, .cons r t, f => by
   rw[List.all_cons,rH]at f
   rw[xJ,xJ,qh8 r f.1,qei t f.2]
theorem qdE{A:Around}{s:Shared}{x:V}{v:Value}(rx:RelV x v)(fx:flatV x=true):∀{xs:List V} {us:List Value},Vals xs us->xs.all flatV=true->∀u∈us,SeqAt.EqAt A s u v (eqU x u)
 | _,_,.nil,_=>λu hu=>by cases hu
 | y :: xs, u :: us, .cons r t, f => λu' hu => by
   rw[List.all_cons,rH]at f
   rcases qV.mp hu with rfl | hu
   · rw[qh8 r f.1];exact eqAt_V r rx f.1 fx
   · exact qdE rx fx t f.2 u' hu
def inV(x:V)(xs:List V):Bool:=xs.any λy=>eqV y x
def rIn(K:W.Frag)(neg:Bool):R2:=λx y H Q=>∃p xs,y=.ref p/\(SqL K H p xs\/SqT K H p xs)/\flatV x=true/\xs.all flatV=true/\Q (.bl (if neg then !inV x xs else inV x xs)) H
theorem op_in_seq:OpR X (compareOp .In) (rIn X.K false):=by
 intro pins s σ H x y v u Q I rx ry h;obtain⟨p,xs,rfl,hq,fx,fs,q⟩:=h;cases ry;rcases hq with hq | hq
 ·obtain⟨its,r,pl,hz⟩:=I.list hq;refine SeqAt.in_listAt (eqU x) pl.isList (λw hw=>qdE rx fx r fs w (by simpa using hw)) ⟨.bl _,H,I,rfl,?_⟩;rw[show its.toArray.any (eqU x)=its.any (eqU x) by simp,qei r fs];exact q
 ·obtain⟨its,r,pl,hz⟩:=I.tuple hq;refine SeqAt.in_tupleAt (eqU x) pl (λw hw=>qdE rx fx r fs w (by simpa using hw)) ⟨.bl _,H,I,rfl,?_⟩;rw[show its.toArray.any (eqU x)=its.any (eqU x) by simp,qei r fs];exact q
theorem op_notIn_seq:OpR X (compareOp .NotIn) (rIn X.K true):=by
 intro pins s σ H x y v u Q I rx ry h;obtain⟨p,xs,rfl,hq,fx,fs,q⟩:=h;cases ry;rcases hq with hq | hq
 ·obtain⟨its,r,pl,hz⟩:=I.list hq;refine SeqAt.notIn_listAt (eqU x) pl.isList (λw hw=>qdE rx fx r fs w (by simpa using hw)) ⟨.bl _,H,I,rfl,?_⟩;rw[show its.toArray.any (eqU x)=its.any (eqU x) by simp,qei r fs];exact q
 ·obtain⟨its,r,pl,hz⟩:=I.tuple hq;refine SeqAt.notIn_tupleAt (eqU x) pl (λw hw=>qdE rx fx r fs w (by simpa using hw)) ⟨.bl _,H,I,rfl,?_⟩;rw[show its.toArray.any (eqU x)=its.any (eqU x) by simp,qei r fs];exact q
theorem call_len_seq:qdT X (.builtin "len") (λxs H Q=>∃p ys,xs=[.ref p]/\(SqL X.K H p ys\/SqT X.K H p ys)/\Q (.int ys.length) H):=by
 intro pins s σ H xs us Q I r h;obtain⟨p,ys,rfl,hq,q⟩:=h;obtain⟨u,rfl,rx⟩:=qfx r;cases rx;have hn:=line63;rcases hq with hq | hq
 ·obtain⟨its,r',pl,hz⟩:=I.list hq;have hlen:=r'.length;exact Calls.call_len_list pl.isList (by simp only[List.size_toArray]<;>omega) ⟨.int ys.length,H,I.tok _,⟨s.toks+1,by rw[qZ,hlen]⟩,q⟩
 ·obtain⟨its,r',pl,hz⟩:=I.tuple hq;have hlen:=r'.length;exact len_tuple pl (by simp only[List.size_toArray]<;>omega) ⟨.int ys.length,H,I.tok _,⟨s.toks+1,by rw[qZ,hlen]⟩,q⟩
theorem call_len_str:qdT X (.builtin "len") (λxs H Q=>∃z,xs=[.str z]/\z.length<=sizeLine/\Q (.int z.length) H):=by
 intro pins s σ H xs us Q I r h;obtain⟨z,rfl,hz,q⟩:=h;obtain⟨u,rfl,t,rfl⟩:=qfx r;have hn:=line63;exact len_str (by omega) ⟨.int z.length,H,I.tok _,⟨_,rfl⟩,q⟩
theorem call_list_of:qdT X (.type "list") (λxs H Q=>∃p ys,xs=[.ref p]/\(SqL X.K H p ys\/SqT X.K H p ys)/\∀l,H l=none->Q (.ref l) (upd H l (.lst ys))):=by
 intro pins s σ H xs us Q I r h;obtain⟨p,ys,rfl,hq,q⟩:=h;obtain⟨u,rfl,rx⟩:=qfx r;cases rx;have fin:∀(its:List Value),Vals ys its->ys.length<=sizeLine->∀(h':Heap) (c':Nat),(∀b o',s.heap.get? b=some o'->h'.get? b=some o') ->
   h'.get? s.heap.objs.size=some {cls:=.type "list",dict:=none,data:=.seq its.toArray c',slots:=#[]}->EP X pins σ Q (.ref s.heap.objs.size) {s with heap:=h'}:=λits r' hz h' c' kp e =>
  ⟨.ref s.heap.objs.size,_,I.laid (t':=s.toks) kp (qN _) (show ObjOk X.prog X.w _ h' _ (.lst ys)from⟨hz,its,c',r',e⟩),rfl,q _ (I.hok.fresh (qN _))⟩
 rcases hq with hq | hq
 ·obtain⟨its,r',pl,hz⟩:=I.list hq;have hlen:=r'.length;obtain⟨o,ho,hc,n,hd⟩:=pl.isList;exact call_list_seq p (.inl rfl) ho hc hd (λh' c' kp e=>fin its r' hz h' c' kp e) (by simp only[List.size_toArray]<;>omega)
 ·obtain⟨its,r',pl,hz⟩:=I.tuple hq;have hlen:=r'.length;obtain⟨o,ho,hc,n,hd⟩:=pl;exact call_list_seq p (.inr rfl) ho hc hd (λh' c' kp e=>fin its r' hz h' c' kp e) (by simp only[List.size_toArray]<;>omega)
def tyV(K:W.Frag)(T:String)(x:V)(H:Hp):Prop:=match x with
 | .str _=>T = "str"
 | .int _=>T = "int"
 | .ref p=>(T = "list" /\ ∃xs,SqL K H p xs)\/(T = "tuple" /\ ∃o,K.lookup p=some o/\o.cls=.type "tuple" /\ o.dict=none) \/
   (T = "dict" /\ ((∃kvs,H p=some (.dK kvs))\/∃kvs,H p=some (.dT kvs)))\/(T = "set" /\ ∃S n,H p=some (.set S n))
 | _=>False
theorem qh4{pins:List (Addr×Obj)}{σ:St}{H:Hp}{s:Shared}{T:String}{x:V}{v:Value}(I:Inv X pins σ H s)(r:RelV x v)(ty:tyV X.K T x H) :
  s.TypeIs v T/\∀a,v=.ref a->∃ob,s.heap.get? a=some ob/\ob.dict=none:=by
 cases x with
 | str z =>
   obtain⟨t,rfl⟩:=r
   cases(show T = "str" from ty)
   exact⟨uO s z t,λ_ e=>nomatch e⟩
 | int i =>
   obtain⟨t,rfl⟩:=r
   cases(show T = "int" from ty)
   exact⟨typeIs_int s i t,λ_ e=>nomatch e⟩
 | ref p =>
   cases r
   rcases ty with⟨rfl,xs,hq⟩ | ⟨rfl,o,hk,hc,hd⟩ | ⟨rfl,hk⟩ | ⟨rfl,S,n,hk⟩
   · obtain⟨its,_,pl,_⟩:=I.list hq
     refine⟨pl.isList.typeIs,λa e=>?_⟩
     cases e
     obtain⟨o,n,e,c,hd,_⟩:=pl
     exact⟨o,e,hd⟩
   · refine⟨⟨o,I.kIn p o hk,hc⟩,λa e=>?_⟩
     cases e
     exact⟨o,I.kIn _ o hk,hd⟩
   · have z:∃o,s.heap.get? p=some o/\o.ExactDict:=by
       rcases hk with⟨kvs,hk⟩ | ⟨kvs,hk⟩
       · obtain⟨_,_,_,_,o,_,_,e,ex,_⟩:=I.hok p _ hk
         exact⟨o,e,ex⟩
       · obtain⟨_,_,_,_,o,_,_,e,ex,_⟩:=I.hok p _ hk
         exact⟨o,e,ex⟩
     obtain⟨o,e,ex⟩:=z
     refine⟨⟨o,e,ex.1⟩,λa e2=>?_⟩
     cases e2
     exact⟨o,e,ex.2.1⟩
   · obtain⟨o,_,_,_,e,ex,_⟩:=I.hok p _ hk
     refine⟨⟨o,e,ex.1⟩,λa e2=>?_⟩
     cases e2
     exact⟨o,e,ex.2.1⟩
 | _=>exact False.elim ty
def tBM0(K:W.Frag)(T:String)(r:V->List V->Hp->VK->Prop)(to:TE):TE:=λσ H Q=>to σ H λx H1=>tyV K T x H1/\r x [] H1 Q
def tBM(K:W.Frag)(T:String)(r:V->List V->Hp->VK->Prop)(to:TE)(t:TA):TE:=λσ H Q=>to σ H λx H1=>tyV K T x H1/\t σ H1 λxs H2=>r x xs H2 Q
variable{o e:Expr}{es:List Expr}{to:TE}{t:TA}{name:Str}{apos cpos:Pos}{T id:String}{r:V->List V->Hp->VK->Prop}
theorem qic(pa:PlainAttrs T)(slot:Slot T name id)(hty:typeOf (.builtin id)=pure (.type "method_descriptor"))(hm:MtR X id r)(ho:PE X o to)(hbase:attributeBase o name X.env (eval o X.env)=eval o X.env:=by rfl)(hline:(apos.endLine == cpos.line)=true:=by rfl):PE X (.Call (.Attribute o name apos) [] [] cpos) (tBM0 X.K T r to):=by
 intro pins s σ H Q I h;refine wpAny_Call_method0_late hbase hline (thn (ho pins s σ H _ I h) λv s1 ⟨x,H1,I1,r1,ty,q1⟩=>?_);obtain⟨h1,h2⟩:=qh4 I1 r1 ty;exact⟨T,id,pa,slot,hty,h1,h2,Calls.callWith_builtin rfl (PySem.evalArgs_none (hm pins s1 σ H1 x [] v [] Q I1 r1 .nil q1))⟩
theorem qaV(pa:PlainAttrs T)(slot:Slot T name id)(hty:typeOf (.builtin id)=pure (.type "method_descriptor"))(hm:MtR X id r)(ho:PE X o to)(ha:PA X (e::es) t)(hbase:attributeBase o name X.env (eval o X.env)=eval o X.env:=by rfl)(hfew:((backTo cpos (starEach (e::es) X.env)).all (λx=>!x.1) && (backToKw cpos (keywordEach [] X.env)).all (λx=>x.1.isSome)
   && decide ((e::es).length+([]:List Keyword).length+(if([]:List Keyword).isEmpty then 0 else 1)<30))=true:=by rfl)(hline:(apos.endLine == cpos.line)=true:=by rfl)(hs:starEach (e::es) X.env=(false,eval e X.env)::starEach es X.env:=by rfl)(hplain:(backTo cpos (starEach es X.env)).any (·.1)=false:=by rfl) :
  PE X (.Call (.Attribute o name apos) (e::es) [] cpos) (tBM X.K T r to t):=by
 intro pins s σ H Q I h;refine wpAny_Call_method_late hbase hfew hline rfl (thn (ho pins s σ H _ I h) λv s1 ⟨x,H1,I1,r1,ty,q1⟩=>?_);obtain⟨h1,h2⟩:=qh4 I1 r1 ty;refine⟨T,id,pa,slot,hty,h1,h2,?_⟩;have hA:=ha cpos pins s1 σ H1 _ I1 q1;rw[hs]at hA⊢;refine Calls.callWith_builtin (by show(false || (backTo cpos (starEach es X.env)).any (·.1))=false;rw[hplain]<;>rfl) (Calls.evalArgs_plain ?_);exact thn hA λus s2 ⟨vs,H2,I2,r2,q2⟩=>hm pins s2 σ H2 x vs v us Q I2 r1 r2 q2
end
def MtM(X:Cx)(id:String)(r:V->List V->Hp->VK->Prop):Prop :=
 ∀(pins:List (Addr×Obj)) (s:Shared) (σ:St) (H:Hp) (x:V) (xs:List V) (v:Value) (us:List Value) (Q:VK),Inv X pins σ H s->RelV x v->Vals xs us->r x xs H Q ->
  wpAny (model X.prog X.w) X.A (call (.builtin id) (v::us)) (EP X pins σ Q) X.xe s
theorem Vals.one:∀{x:V} {us:List Value},Vals [x] us->∃u,us=[u]/\RelV x u
 | _,_,.cons r .nil=>⟨_,rfl,r⟩
theorem Vals.zero:∀{us:List Value},Vals [] us->us=[]
 | _,.nil=>rfl
theorem Vals.rep{xs:List V}{us:List Value}(h:Vals xs us):∀k:Nat,Vals (List.replicate k xs).flatten (List.replicate k us).flatten
 | 0=>.nil
 | k + 1 => by
   rw[rN,rN,List.flatten_cons,List.flatten_cons]
   exact Vals.append h (Vals.rep h k)
theorem qfI(its:List Value):∀(k:Nat) (acc:List Value),
  List.foldl (λx1 x2=>x1++x2) acc.toArray (List.replicate k its.toArray)=(acc++(List.replicate k its).flatten).toArray
 | 0,acc=>by simp
 | k + 1, acc => by
   have e:acc.toArray++its.toArray=(acc++its).toArray:=by simp
   have e2:(acc++its)++(List.replicate k its).flatten=acc++(List.replicate (k+1) its).flatten:=by
     rw[rN,List.flatten_cons,xT]
   rw[<-e2,<-qfI its k (acc++its),<-e,rN,yO]
section
variable{X:Cx}{pins:List (Addr×Obj)}{σ:St}{H:Hp}{s:Shared}{l b:Addr}{xs ys zs:List V}
theorem Inv.lset{its its':List Value}{n:Nat}{f:Array Value->Array Value}{t':Nat}(I:Inv X pins σ H s)(hH:H l=some (.lst xs))(e:s.heap.get? l=some {cls:=.type "list",data:=.seq its.toArray n})(hf:f its.toArray=its'.toArray)(hv:Vals ys its')(hz:ys.length<=sizeLine) :
  Inv X pins σ (upd H l (.lst ys)) {s with heap:=s.heap.update l (Obj.mapSeq f),toks:=t'}:=by
 have q:=PySem.IsL.update e f;rw[hf]at q;refine I.write (x:=l) (e:=l) (by rw[hH];exact trivial) (.inl rfl) (λb' u hb hu=>(uG s.heap (Obj.mapSeq f) (Ne.symm hb)).trans hu) ⟨_,q⟩ ?_;exact⟨hz,its',_,hv,q⟩
theorem Inv.lnew{its:List Value}{t':Nat}(I:Inv X pins σ H s)(hv:Vals ys its)(hz:ys.length<=sizeLine) :
  Inv X pins σ (upd H s.heap.objs.size (.lst ys)) {s with heap:=s.heap.push {cls:=.type "list",data:=.seq its.toArray},toks:=t'} :=
 I.laid (λ_ _ q=>qL _ q) (qN _) ⟨hz,its,0,hv,rE _ rfl⟩
theorem Inv.fresh(I:Inv X pins σ H s):H s.heap.objs.size=none:=I.hok.fresh (qN _)
theorem Inv.lstM(I:Inv X pins σ H s)(hH:H l=some (.lst xs)):xs.length<=sizeLine/\∃(its:List Value) (n:Nat),Vals xs its/\xs.length=its.length/\s.heap.get? l=some {cls:=.type "list",data:=.seq its.toArray n}:=by
 obtain⟨z,its,n,r,e⟩:=I.hok l _ hH;exact⟨z,its,n,r,r.length,e⟩
theorem qgW{n:Nat}(h:n<=sizeLine):Builtin.List.listTooLong n=false:=by
 unfold Builtin.List.listTooLong;exact qB (by omega)
end
section
variable{X:Cx}
def rAppend:V->List V->Hp->VK->Prop:=λx vs H Q=>∃l xs y,x=.ref l/\vs=[y]/\H l=some (.lst xs)/\xs.length<sizeLine/\Q .non (upd H l (.lst (xs++[y])))
theorem mt_append:MtM X "list.append" rAppend:=by
 intro pins s σ H x vs v us Q I rx rv h;obtain⟨l,xs,y,rfl,rfl,hH,hz,q⟩:=h;cases rx;obtain⟨u,rfl,ru⟩:=rv.one;obtain⟨z,its,n,r,hl,e⟩:=I.lstM hH;refine uH F.slot_list_append ⟨_,e,rfl⟩ F.entry_list_append (F.args_list_append_2 _ _) (PySem.list_append l its.toArray n u (by rw[qZ];omega)) ⟨e,?_⟩;refine⟨.non,_,I.lset (its':=its++[u]) hH e (by simp) (r.append (.cons ru .nil)) ?_,rfl,q⟩;rw[qD,xU];omega
def rExtend:V->List V->Hp->VK->Prop:=λx vs H Q=>∃l b xs zs,x=.ref l/\vs=[.ref b]/\H l=some (.lst xs)/\H b=some (.lst zs)/\xs.length+zs.length<=sizeLine/\Q .non (upd H l (.lst (xs++zs)))
theorem mt_extend:MtM X "list.extend" rExtend:=by
 intro pins s σ H x vs v us Q I rx rv h;obtain⟨l,b,xs,zs,rfl,rfl,hH,hB,hz,q⟩:=h;cases rx;obtain⟨u,rfl,ru⟩:=rv.one;cases ru;obtain⟨z,its,n,r,hl,e⟩:=I.lstM hH;obtain⟨z2,its2,n2,r2,hl2,e2⟩:=I.lstM hB;have hsz:its.toArray.size+its2.toArray.size<=sizeLine:=by rw[qZ,qZ];omega
 have hlong:¬(!its.toArray.isEmpty && Builtin.List.listTooLong (its.toArray.size+its2.toArray.size))=true:=by
  rw[qgW hsz,wG];exact qF
 refine uH F.slot_list_extend ⟨_,e,rfl⟩ F.entry_list_extend (F.args_list_extend_2 _ _)
  (AutoSeq1.list_extend_list_list_0 l its.toArray n b its2.toArray n2 hlong (by rw[qZ];omega) (by omega)) ⟨e,e2,?_⟩
 refine⟨.non,_,I.lset (its':=its++its2) hH e (by simp) (r.append r2) ?_,rfl,q⟩;rw[qD];omega
def rClear:V->List V->Hp->VK->Prop:=λx vs H Q=>∃l xs,x=.ref l/\vs=[]/\H l=some (.lst xs)/\Q .non (upd H l (.lst []))
theorem mt_clear:MtM X "list.clear" rClear:=by
 intro pins s σ H x vs v us Q I rx rv h;obtain⟨l,xs,rfl,rfl,hH,q⟩:=h;cases rx;have hus:=rv.zero;subst hus;obtain⟨z,its,n,r,hl,e⟩:=I.lstM hH;refine uH F.slot_list_clear ⟨_,e,rfl⟩ F.entry_list_clear (F.args_list_clear_1 _) (AutoSeq1.list_clear_list_0 l its.toArray n (by rw[qZ];omega)) ⟨e,?_⟩;exact⟨.non,_,I.lset (its':=[]) (ys:=[]) hH e rfl .nil (rS _),rfl,q⟩
def rCat:R2:=λx y H Q=>∃l b xs zs,x=.ref l/\y=.ref b/\H l=some (.lst xs)/\H b=some (.lst zs)/\xs.length+zs.length<=sizeLine/\∀p,H p=none->Q (.ref p) (upd H p (.lst (xs++zs)))
theorem op_cat:OpR X (binaryOp .Add) rCat:=by
 intro pins s σ H x y v u Q I rx ry h;obtain⟨l,b,xs,zs,rfl,rfl,hH,hB,hz,q⟩:=h;cases rx;cases ry;obtain⟨z,its,n,r,hl,e⟩:=I.lstM hH;obtain⟨z2,its2,n2,r2,hl2,e2⟩:=I.lstM hB;refine PySem.P.add_list e e2 ?_ (by rw[qZ,qZ];omega);have ea:its.toArray++its2.toArray=(its++its2).toArray:=by simp
 rw[ea];exact⟨.ref _,_,I.lnew (t':=s.toks) (r.append r2) (by rw[qD];omega),rfl,q _ I.fresh⟩
def rRep:R2:=λx y H Q=>∃l k xs,x=.ref l/\y=.int k/\H l=some (.lst xs)/\-(2 ^ 63)<=k/\k<2 ^ 63/\xs.length*k.toNat<=sizeLine /\
 ∀p,H p=none->Q (.ref p) (upd H p (.lst (List.replicate k.toNat xs).flatten))
theorem len_rep{α:Type}(xs:List α)(k:Nat):(List.replicate k xs).flatten.length=k*xs.length:=by
 induction k with
 | zero=>simp
 | succ k ih=>rw[rN,List.flatten_cons,qD,ih,Nat.succ_mul,Nat.add_comm]
theorem op_rep:OpR X (binaryOp .Mult) rRep:=by
 intro pins s σ H x y v u Q I rx ry h;obtain⟨l,k,xs,rfl,rfl,hH,h1,h2,hz,q⟩:=h;cases rx;obtain⟨t,rfl⟩:=ry;obtain⟨z,its,n,r,hl,e⟩:=I.lstM hH;have hlen:its.toArray.size*k.toNat<=sizeLine:=by rw[qZ,<-hl];exact hz
 have hcap:¬its.toArray.size*k.toNat>(2 ^ 63-1) / 8:=by
  have:(sizeLine:Nat)<=(2 ^ 63-1) / 8:=by decide
  omega
 have hfit:¬(!Builtin.List.listFitsIndex k)=true:=by
  rw[fitsIndex_both h1 h2];exact qF
 have hlong:¬Builtin.List.listTooLong (its.toArray.size*k.toNat)=true:=by
  rw[qgW hlen];exact qF
 have hnew:List.foldl (λx1 x2=>x1++x2) #[] (List.replicate (if its.toArray.isEmpty=true then 0 else k.toNat) its.toArray)=(List.replicate k.toNat its).flatten.toArray:=by
  have f0:∀m:Nat,List.foldl (λx1 x2=>x1++x2) #[] (List.replicate m its.toArray)=(List.replicate m its).flatten.toArray:=λm=>by
   have:=qfI its m [];rw[yP]at this;exact this
  rw[f0];cases its with
  | nil=>simp
  | cons a r'=>rw[if_neg (by simp)]
 refine wpAny_binaryOp_repeat_ref (T := "list") (U := "int") (by decide) ⟨_,e,rfl⟩ (λs'=>typeIs_int s' k t) noFill_list_mul F.fills_int_mul F.slot_int_rmul repeat_list F.slot_int_index.lookup
  (uH F.slot_int_rmul (typeIs_int s k t) F.entry_int_rmul (F.args_int_rmul_2 _ _) (int___rmul___int_list k t l its.toArray n)
   ⟨e,rfl,⟨_,e,rfl⟩,uH F.slot_list_mul ⟨_,e,rfl⟩ F.entry_list_mul (F.args_list_mul_2 _ _) (AutoListH.list___mul___list_int_3 l its.toArray n k t hfit hcap hlong) ⟨e,?_⟩⟩)
 rw[hnew];exact⟨.ref _,_,I.lnew (t':=s.toks) (r.rep k.toNat) (by rw[len_rep,Nat.mul_comm];exact hz),rfl,q _ I.fresh⟩
end
end L2
namespace Att
open PySem PySem.W PySem.Calls PyProof.Rows
theorem ints_of_wellAll{P:Params}{h:Heap}:∀(ns:List Int) (vs:List Value),WellAll P h vs (ns.map WData.int)->IntsAre vs ns:=by
 intro ns
 induction ns with
 | nil =>
   intro vs w
   rw[wA]at w
   cases w
   exact .nil
 | cons n ns ih =>
   intro vs w
   rw[r8]at w
   cases w with
   | cons a b =>
     cases a
     exact .cons _ _ (ih _ b)
theorem script_of{l:OpenLaw}{n:Nat}(hn:l.most=some n){P:Params}{h:Heap}{args:List WData}{vals:List Value}(hpre:l.row.toRowW.claim.pre args=true)(hwl:WellAll P h vals args) :
  ∃a vs ns,vals=[Value.ref a]/\args=[WData.list (ns.map WData.int)]/\h.get? a=some {cls:=.type "list",data:=.seq vs.toArray}/\IntsAre vs ns/\ns.length<=n:=by
 have hsh:WShape.hasAll [] args [.list .int]=true:=(pre_splitW hpre).1;have hc:l.pre.holds [] {args:=args}=true:=(pre_splitW hpre).2;obtain⟨d,r,rfl,h1,h2⟩:=hasAllW_cons hsh;obtain rfl:=hasAllW_nil h2;obtain⟨xs,rfl,h3⟩:=hasW_list h1;obtain⟨ns,rfl⟩:=items_int h3;have hlen:ns.length<=n:=by
  unfold OpenLaw.pre at hc;have h4:(WTm.not (.lt (.lit (.int (n:Int))) (.len (.arg 0)))).holds [] {args:=[.list (ns.map .int)]}=true:=by
   have h4:=(holds_andW hc).1;rw[hn]at h4;exact h4
  have h5:=condW_of h4 (w_not (w_lt w_lit (w_len_list (w_arg rfl))));rw[qA]at h5;refine uP λq=>?_
  have q':(n:Int)<((ns.length:Nat):Int):=by omega
  first
   | (rw[qC q']at h5;exact absurd h5 (by decide))
   | (simp at h5;omega)
 cases hwl with
 | cons w1 w2 =>
   cases w2
   cases w1 with
   | list ho hall=>exact⟨_,_,ns,rfl,rfl,ho,ints_of_wellAll ns _ hall,hlen⟩
theorem post_true(l:OpenLaw)(args:List WData):l.row.toRowW.claim.post args (.bool true) args=true :=
 postW_of (r:=l.row.toRowW) (X:=(true == true))
  (show WShape.has [] (.bool true) .bool=true by first | rfl | decide | simp[WShape.has,WShape.arms,WShape.armsAll])
  (show(WTm.eq .res (.lit (.bool true))).value [] {args:=args,res:=some (.bool true),after:=args}=some (.bool (true == true))from w_eq_bool (w_res rfl) w_lit) rfl
theorem attach_call{l:OpenLaw}{n:Nat}{q:Program}{loose:List Str}{XP:(Str->Option Value)->Heap->Prop}{YP:World->Heap->Prop}{d:DefRec}(hn:l.most=some n)(hdf:d.params.defaults=[])(call:∀(w:World) (s₀ s₁:Shared) (mg mb:Str->Option Value) (fa:Addr) (o:Obj) (pm cd doc:Value) (a:Addr) (vs:List Value) (ns:List Int),
   Ground q loose [] XP w s₀ mg mb s₁.heap->YP w s₁.heap ->
   s₁.heap.get? fa=some o->o.data=.func (docDef d.name d.params d.body d.scope pm cd doc)->s₁.heap.CodeRec cd d.name->mg d.name=some (.ref fa) ->
   s₁.heap.get? a=some {cls:=.type "list",data:=.seq vs.toArray}->IntsAre vs ns->ns.length<=n->s₁.gens=#[] ->
   codeAny (model l.prog w) callerA (.call (.ref fa) ⟨[.ref a],[]⟩) (λr s'=>r=.ok (.ret (.bool true))/\OldK s₁.heap s'.heap/\s'.os=s₁.os/\AllBare s'.gens) s₁) :
  WalkO q loose XP YP l.row.toRowW d [] (λf vs=>PySem.call f vs):=by
 intro w s₀ s₁ mg mb G Y fa o pm cd doc dV kV ho hd hcd hD hmg hg args vals as hpre hlay hrd hwl hlo;obtain rfl:dV=.none:=Dflts.none hD hdf;obtain rfl:kV=.none:=Dflts.noKw hD;obtain⟨a,vs,ns,rfl,rfl,hobj,hints,hlen⟩:=script_of hn hpre hwl;refine enter_call (uR (call w s₀ s₁ mg mb fa o pm cd doc a vs ns G Y ho (fd_plain hd) hcd hmg hobj hints hlen hg) λr s' hq=>?_);obtain⟨rfl,h2,h3,h4⟩:=hq;exact⟨.inl ⟨.bool true,.bool true,[],rfl,λ_=>rfl,.bool true,post_true l _,λ_=>⟨List.Pairwise.nil,λ_ hm=>(nomatch hm)⟩⟩,h2,h3,h4⟩
end Att
namespace L2
open PySem PySem.Spec PyProof.Rows
theorem vals_ints:∀{vs:List Value} {ns:List Int},IntsAre vs ns->Vals (ns.map V.int) vs
 | _,_,.nil=>.nil
 | _,_,.cons n t h=>.cons ⟨t,rfl⟩ (vals_ints h)
def Only(H:Hp):Prop:=∀b,H b=none\/∃o xs,H b=some (.frz o (.lst xs))
theorem law_call{P:Program}{w:World}{K:W.Frag}{mg mb:Str->Option Value}{CX:CXT}{k:Nat}{fa a:Addr}{fd:FuncData}{x:Str}{sp:Sp}{s₁:Shared}{vs:List Value}{ns:List Int}(KX:K.In s₁.heap)(hns:s₁.heap.Ns mainGlobals mg)(hb:s₁.heap.Ns builtinsNs mb)(hbb:∀x:Str,x ≠ "__name__" -> mb x=bootBuiltins x)(hlim:s₁.heap.NoLimit)(hg:s₁.gens=#[])(ha:s₁.heap.get? a=some {cls:=.type "list",data:=.seq vs.toArray})(hi:IntsAre vs ns)(hl:ns.length<=sizeLine)(hr:Room k callerA)(F:∀base:Heap,K.In base->base.Ns mainGlobals mg->FnOk P w K mg base CX k fa fd [x] sp)(hbind:∀(s:Shared) (u:Value),BindsTo s fd ⟨[u],[]⟩ [(x,u)])(hsp:∀H:Hp,Only H->SqL K H a (ns.map V.int)->sp [.ref a] H (λv _=>v=.bl true) λ_ _ _=>False)(hCX:∀H e s',CX [] H s₁ (λ_ _ _=>False) e s'->False) :
  codeAny (model P w) callerA (.call (.ref fa) ⟨[.ref a],[]⟩) (λr s'=>r=.ok (.ret (.bool true))/\OldK s₁.heap s'.heap/\s'.os=s₁.os/\AllBare s'.gens) s₁:=by
 have rv:=vals_ints hi;have lenV:=hi.length;have core:∀H:Hp,Only H->SqL K H a (ns.map V.int)->HOk P w H s₁.heap->(∀b,H b≠none->b=a)->(H a≠none->K.lookup a=none) ->
   codeAny (model P w) callerA (.call (.ref fa) ⟨[.ref a],[]⟩) (λr s'=>r=.ok (.ret (.bool true))/\OldK s₁.heap s'.heap/\s'.os=s₁.os/\AllBare s'.gens) s₁:=by
  intro H hO hS hok hA hK;have base_of:∀{b:Addr} {o:Obj},s₁.heap.get? b=some o->H b=none->(hidT s₁.heap H).get? b=some o:=λe n=>hidT_get e n
  have noA:∀{b:Addr} {o:Obj} {es:Array DictEntry} {ep:Nat},s₁.heap.get? b=some o->o.data=.dict es ep->H b=none:=λ{b o es ep} e d=>by
   cases q:H b with
   | none=>rfl
   | some u =>
     have e':b=a:=hA b (by rw[q];simp)
     subst e'
     rw[ha]at e;cases e
     have d':Data.seq vs.toArray _=Data.dict es ep:=d
     cases d'
  have nsK:∀{b:Addr} {m:Str->Option Value},s₁.heap.Ns b m->(hidT s₁.heap H).Ns b m:=λ{b m} ⟨o,es,ep,e,d,r⟩=>⟨o,es,ep,base_of e (noA e d),d,r⟩
  have hKb:K.In (hidT s₁.heap H):=λb o e=>base_of (KX b o e) (by
   cases q:H b with
   | none=>rfl
   | some u =>
     have e':b=a:=hA b (by rw[q];simp)
     subst e'
     rw[hK (by rw[q];simp)]at e;cases e)
  have hM:Mod K mg (hidT s₁.heap H):=⟨hKb,nsK hns,⟨mb,nsK hb,hbb⟩,let⟨mc,h1,h2⟩:=hlim;⟨mc,nsK h1,h2⟩⟩;have e0:Env0 P w K mg (hidT s₁.heap H) callerA [] s₁ H:=⟨rfl,hM,λb o e=>of_hidT e,Nat.le_of_eq (hidT_size _ _),trivial,λb hb=>absurd (show b∈([]:List Addr)from hb) (by simp),hok,.of_eq hg⟩;refine uR ((F _ hKb (nsK hns)).run callerA [] s₁ H ⟨[.ref a],[]⟩ [.ref a] [.ref a] _ _ hr e0 (hbind s₁ (.ref a)) (.cons rfl .nil) (hsp H hO hS)) λr s' h=>?_
  cases r with
  | error e=>exact(hCX H e s' h).elim
  | ok fl =>
    cases fl with
    | next=>exact False.elim h
    | brk=>exact False.elim h
    | cont=>exact False.elim h
    | ret u =>
      obtain⟨v,H',os,bare,un,hok',r',q⟩:=h
      have q':v=.bl true:=q
      subst q'
      obtain rfl:u=Value.bool true:=r'
      refine⟨rfl,OldK.of_keep λb o e=>?_,os,bare⟩
      cases q:H b with
      | none=>exact un.keep b o e q (by intro z;exact absurd (show b∈([]:List Addr)from z) (by simp)) (by simp)
      | some u =>
        rcases hO b with z | ⟨ob,xs,z⟩
        · rw[q]at z;cases z
        · have z2:=un.frzs b ob _ z
          obtain⟨e1,_⟩:=hok b _ z
          obtain⟨e2,_⟩:=hok' b _ z2
          rw[e]at e1;cases e1
          exact e2
 cases hk:K.lookup a with
 | some o =>
   have e:=KX a o hk
   rw[ha]at e
   cases e
   refine core (λ_=>none) (λ_=>.inl rfl) (.inr ⟨_,vs.toArray,_,hk,rfl,rfl,rfl,by rw[qZ,lenV];exact hl,by simpa using rv⟩) (λb u z=>by have z':(none:Option HO)=some u:=z;cases z') (λb z=>absurd rfl z) λz=>absurd rfl z
 | none =>
   refine core (λb=>if b=a then some (.frz {cls:=.type "list",data:=.seq vs.toArray} (.lst (ns.map V.int)))else none) (λb=>?_) (.inl (.inr ⟨{cls:=.type "list",data:=.seq vs.toArray},if_pos rfl⟩)) (λb u z=>?_) (λb z=>?_) λ_=>hk
   · by_cases hb:b=a
     · exact .inr ⟨_,_,if_pos hb⟩
     · exact .inl (if_neg hb)
   · by_cases hb:b=a
     · have z':=(if_pos hb).symm.trans z
       cases z'
       subst hb
       exact⟨ha,by rw[qA];exact hl,vs,_,rv,ha⟩
     · have z':=(if_neg hb).symm.trans z
       cases z'
   · by_cases hb:b=a
     · exact hb
     · exact absurd (if_neg hb) z
theorem walk_of{l:PySem.W.OpenLaw}{n k:Nat}{q:Program}{loose:List Str}{XP:(Str->Option Value)->Heap->Prop}{YP:World->Heap->Prop}{d:DefRec}{K:Params->PySem.W.Frag}{CX:World->CXT}{sp:World->Sp}{x:Str}(hn:l.most=some n)(hn2:n<=sizeLine)(hdf:d.params.defaults=[])(hr:Room k callerA)(hY:∀(w:World) (h:Heap),YP w h->(K w.params).In h)(F:∀(w:World) (mg:Str->Option Value) (fa:Addr) (h:Heap),(K w.params).In h->h.Ns mainGlobals mg->mg d.name=some (.ref fa) ->
   ∃fd:FuncData,(∀(s:Shared) (u:Value),BindsTo s fd ⟨[u],[]⟩ [(x,u)]) /\
    ∀base:Heap,(K w.params).In base->base.Ns mainGlobals mg->FnOk l.prog w (K w.params) mg base (CX w) k fa fd [x] (sp w))(hsp:∀(w:World) (H:Hp) (a:Addr) (ns:List Int),ns.length<=n->Only H->SqL (K w.params) H a (ns.map V.int)->sp w [.ref a] H (λv _=>v=.bl true) λ_ _ _=>False)(hCX:∀(w:World) (H:Hp) (s:Shared) (e:Value) (s':Shared),CX w [] H s (λ_ _ _=>False) e s'->False) :
  PySem.W.WalkO q loose XP YP l.row.toRowW d [] (λf vs=>PySem.call f vs):=by
 refine Att.attach_call hn hdf λw s₀ s₁ mg mb fa o pm cd doc a vs ns G Y ho hd hcd hmg hobj hints hlen hg=>?_
 have KX:=hY w _ Y;obtain⟨fd,hb,hF⟩:=F w mg fa _ KX G.T.g hmg;exact law_call KX G.T.g G.T.b G.T.builtins G.T.nolimit hg hobj hints (qS hlen hn2) hr hF hb (λH hO hS=>hsp w H a ns hlen hO hS) λH e s'=>hCX w H s₁ e s'
def qbE(s:Stmt):Arguments:=match s with
 | .FunctionDef _ a _ _ _ _ _ _ _ _=>a
 | _=>{posonlyargs:=[],args:=[],vararg:=none,kwonlyargs:=[],kw_defaults:=[],kwarg:=none,defaults:=[]}
def qbq(s:Stmt):List Stmt:=match s with
 | .FunctionDef _ _ b _ _ _ _ _ _ _=>b
 | _=>[]
def qai(s:Stmt):Scope:=match s with
 | .FunctionDef _ _ _ _ _ _ sc _ _ _=>sc
 | _=>{kind:=.function,names:=[],isGenerator:=false,isCoroutine:=false}
abbrev CX0:CXT:=λ_ _ _ _ _ _=>False
abbrev E0:XK:=λ_ _ _=>False
theorem qaA{X:Cx}:qee CX0 X E0:=λ_ _ _ _ _ _ _ h=>h.elim
structure Fun(K:W.Frag)(x qual:Str)(st:Stmt)(f:Addr)(fd:FuncData):Prop where
 ex:∃(oc:Value) (od:Option Addr) (kV doc pm:Value) (an:Option Addr) (cdv ct:Value) (osl:Array (Option Value)),
  fd=PySem.W.fnOf x qual (qbE st) (qbq st) (qai st) .none kV doc pm an cdv ct/\K.lookup f=some ⟨oc,od,.func fd,osl⟩/\PySem.W.codeIn K cdv qual=true
 kp:PySem.W.keepIn K (.ref f)=true
section
variable{P:Program}{w:World}{K:W.Frag}{mg:Str->Option Value}{base:Heap}
theorem Fun.ok{x qual:Str}{st:Stmt}{f:Addr}{fd:FuncData}{N ps:List Str}{k:Nat}{sp:Sp}(F:Fun K x qual st f fd)(S:FnScope N ps (qai st))(len:∀vs H Q E,sp vs H Q E->vs.length=ps.length)(hbody:∀(cdv:Value) (A:Around) (outer:List Env) (s:Shared) (H:Hp) (vs:List V) (Q:VK) (E:XK),Room k (A.deeper (envOfC qual (qai st) s.heap.objs.size f cdv))->sp vs H Q E ->
   ∃t,PSs (cxOf CX0 P w K mg base N qual (qai st) f cdv A outer s H E).nox (qbq st) t/\t {nx:=λ_ H'=>Q .non H',rt:=Q} (qfw N vs) H):FnOk P w K mg base CX0 (k+1) f fd ps sp:=by
 obtain⟨oc,od,kV,doc,pm,an,cdv,ct,osl,rfl,lk,hcd⟩:=F.ex;refine qiA lk hcd S len λA outer s H vs Q E hr hsp=>?_
 obtain⟨t,h,q⟩:=hbody cdv A outer s H vs Q E hr hsp;exact⟨t,h.nox,q⟩
theorem Fun.binds{x qual:Str}{st:Stmt}{f:Addr}{fd:FuncData}{ps:List Str}(F:Fun K x qual st f fd)(h:∀(kV doc pm:Value) (an:Option Addr) (cdv ct:Value) (us:List Value),us.length=ps.length->bindArgs (PySem.W.fnOf x qual (qbE st) (qbq st) (qai st) .none kV doc pm an cdv ct) ⟨us,[]⟩=pure (ps.zip us)):Binds K fd ps []:=by
 obtain⟨oc,od,kV,doc,pm,an,cdv,ct,osl,rfl,lk,hcd⟩:=F.ex;exact .all (h kV doc pm an cdv ct)
theorem fun_mk{x qual:Str}{st:Stmt}{f:Addr}{oc:Value}{od an:Option Addr}{osl:Array (Option Value)}{kV doc pm cdv ct:Value}(l:K.lookup f=some ⟨oc,od,.func (PySem.W.fnOf x qual (qbE st) (qbq st) (qai st) .none kV doc pm an cdv ct),osl⟩)(c:PySem.W.codeIn K cdv qual=true)(k:PySem.W.keepIn K (.ref f)=true):Fun K x qual st f (PySem.W.fnOf x qual (qbE st) (qbq st) (qai st) .none kV doc pm an cdv ct):=⟨⟨oc,od,kV,doc,pm,an,cdv,ct,osl,rfl,l,c⟩,k⟩
end
theorem hu_of{A:Around}{k:Nat}(hr:Room k A):A.units+1<cLine:=yY (Nat.add_le_add_left (by decide:1<=64) _) hr.units
theorem qaz{n:Nat}(h:n<=1000):n<sizeLine:=yY h (by decide)
section
variable{X:Cx}
theorem pv(i:Nat){x:Str}{pos:Pos}(hN:X.N[i]?=some x:=by rfl)(hv:Vis X.env.scope x:=by first | exact Or.inl rfl | exact Or.inr (Or.inl rfl) | exact Or.inr (Or.inr rfl))(hd:(x == ("__debug__" : Str))=false:=by decide)(hcd:(x == ("__classdict__" : Str))=false:=by decide):PE X (.Name x pos) (tVar i):=pe_var hN hv hd hcd
end
theorem iteF{A B:Prop}(h:B):if false=true then A else B:=by
 rw[if_neg qF];exact h
theorem iteT{A B:Prop}(h:A):if true=true then A else B:=by
 rw[if_pos rfl];exact h
theorem ite2{c A B:Prop}[Decidable c](h1:c->A)(h2:¬c->B):if c then A else B:=by
 by_cases h:c
 ·rw[if_pos h];exact h1 h
 ·rw[if_neg h];exact h2 h
def Same(H H':Hp):Prop:=∀b o,H b=some o->H' b=some o
theorem Same.refl(H:Hp):Same H H:=λ_ _ h=>h
theorem Same.trans{H H1 H2:Hp}(a:Same H H1)(b:Same H1 H2):Same H H2:=λc o h=>b c o (a c o h)
theorem Same.free{H H':Hp}(e:Same H H'){l:Addr}(h:H' l=Option.none):H l=Option.none:=by
 cases q:H l with
 | none=>rfl
 | some o =>
   rw[e l o q]at h
   cases h
end L2
set_option maxHeartbeats 4000000
namespace L2
open PySem PySem.Spec PyProof.Rows
theorem qc1{β:Type}{x:Str}{c:β}:∀{l:List (Str×β)},l.lookup x=some c->(x,c)∈l
 | [],q=>by cases q
 | (k, v) :: r, q => by
   rw[yW]at q
   cases e:x == k with
   | true =>
     rw[e]at q
     have:x=k:=by simpa using e
     cases q
     rw[this]
     exact qM
   | false =>
     rw[e]at q
     exact qQ _ (qc1 q)
theorem qdl{β:Type}{x:Str}{c:β}:∀{l:List (Str×β)},(x,c)∈l->∃c',l.lookup x=some c'
 | [],q=>nomatch q
 | (k, v) :: r, q => by
   rw[yW]
   cases e:x == k with
   | true=>exact⟨v,rfl⟩
   | false =>
     rcases qV.mp q with z | z
     · have:x=k:=xN Prod.fst z
       rw[this]at e
       simp at e
     · exact qdl z
theorem qet{env:Env}{f:Str×NameKind->List (Str×Addr)->Sem (ForInStep (List (Str×Addr)))}:∀(l:List (Str×NameKind)) (acc:List (Str×Addr)),
  (∀x∈l,x.2=.free->∃c,env.cells.lookup x.1=some c/\∀r,f x r=pure (.yield ((x.1,c)::r)))->(∀x∈l,x.2≠.free->∀r,f x r=pure (.yield r)) ->
  ∃cl,forIn l acc f=pure cl/\(∀p∈acc,p∈cl)/\(∀p∈cl,p∈acc\/env.cells.lookup p.1=some p.2)/\∀x,(x,NameKind.free)∈l->∃c,(x,c)∈cl
 | [],acc,_,_=>⟨acc,rfl,λ_ q=>q,λ_ q=>.inl q,λ_ q=>nomatch q⟩
 | x :: l, acc, h1, h2 => by
   by_cases hx:x.2=.free
   · obtain⟨c,e,hf⟩:=h1 x qM hx
     obtain⟨cl,q1,q2,q3,q4⟩:=qet l ((x.1,c)::acc) (λy hy=>h1 y (qQ _ hy)) λy hy=>h2 y (qQ _ hy)
     refine⟨cl,?_,λp hp=>q2 p (qQ _ hp),λp hp=>?_,λy hy=>?_⟩
     · rw[u8,hf,pure_bind]
       exact q1
     · rcases q3 p hp with z | z
       · rcases qV.mp z with z | z
         · subst z;exact .inr e
         · exact .inl z
       · exact .inr z
     · rcases qV.mp hy with z | z
       · exact⟨c,by have:=q2 _ (qM (a:=(x.1,c)) (l:=acc));rw[<-z]at this;exact this⟩
       · exact q4 y z
   · obtain⟨cl,q1,q2,q3,q4⟩:=qet l acc (λy hy=>h1 y (qQ _ hy)) λy hy=>h2 y (qQ _ hy)
     refine⟨cl,?_,q2,q3,λy hy=>?_⟩
     · rw[u8,h2 x qM hx,pure_bind]
       exact q1
     · rcases qV.mp hy with z | z
       · exact absurd (by rw[<-z]) hx
       · exact q4 y z
theorem qhh{scope:Scope}{env:Env}(h:∀ x∈scope.names,x.2=.free->∃ c,env.cells.lookup x.1=some c) :
  ∃ cl,closureFor scope env=pure cl/\(∀ x c,cl.lookup x=some c->env.cells.lookup x=some c)/\∀ x,(x,NameKind.free)∈scope.names->∃ c,cl.lookup x=some c:=by
 have key:∀ f:Str × NameKind->List (Str × Addr)->Sem (ForInStep (List (Str × Addr))),(∀ x∈scope.names,x.2=.free->∃ c,env.cells.lookup x.1=some c/\∀ r,f x r=pure (.yield ((x.1,c) :: r)))->(∀ x∈scope.names,x.2≠.free->∀ r,f x r=pure (.yield r)) ->
   closureFor scope env=forIn scope.names [] f ->
   ∃ cl,closureFor scope env=pure cl/\(∀ x c,cl.lookup x=some c->env.cells.lookup x=some c)/\∀ x,(x,NameKind.free)∈scope.names->∃ c,cl.lookup x=some c:=by
  intro f h1 h2 e
  obtain ⟨cl,q1,_,q3,q4⟩:=qet (env:=env) (f:=f) scope.names [] h1 h2
  refine ⟨cl,e.trans q1,λx c z=>?_,λx hx=>?_⟩
  ·rcases q3 (x,c) (qc1 z) with k | k
   ·exact nomatch k
   ·exact k
  ·obtain ⟨c,z⟩:=q4 x hx
   exact qdl z
 refine key (λx r=>if x.2 == .free then (do let c <- cellOf env x.1; pure (.yield ((x.1,c) :: r))) else pure (.yield r)) (λx hx hf=>?_) (λx hx hf r=>?_) ?_
 ·obtain ⟨c,e⟩:=h x hx hf
  refine ⟨c,e,λr=>?_⟩
  have hk:(x.2 == NameKind.free)=true:=by rw [hf]; rfl
  simp only [hk,if_true,cellOf,e,pure_bind]
 ·have hk:(x.2 == NameKind.free)=false:=by
   cases q:x.2 == NameKind.free with
   | false=>rfl
   | true=>exact absurd (by simpa using q) hf
  simp only [hk,Bool.false_eq_true,if_false]
 ·simp only [closureFor]
  rw [bind_pure]
def qbw(X:Cx)(N':List Str)(scope:Scope)(cl:List (Str×Addr))(C:Addr)(s₂:Shared)(H₂:Hp)(fp:List Addr):Cx :=
 {X with N:=N',s₀:=s₂,H₀:=H₂,env:=compEnvC scope cl C X.env,outer:=X.stack,ex:=fp,fn:=λ_=>false,pn:=[],xe:=λ_ _=>False}
def qcF(own:Nat)(ix:List Nat)(σ:St):St:=List.replicate own none++ix.map λj=>(σ[j]?).join
def qds(own:Nat)(ix:List Nat)(g:TG)(tt:TT)(te:TE)(J:It)(σ:St)(H:Hp)(Q:VK):Prop :=
 ∃W:Nat->Nat->List V->St->Hp->Prop,(∃m,W 0 m [] (qcF own ix σ) H) /\
  ∀i m ys σ' H',W i m ys σ' H'->ys.length<sizeLine /\
   ((J.stop i H'/\∀ D,H' D=none->Q (.ref D) (upd H' D (.lst ys))) \/
    (J.go i H'/\∃N:List V->St->Hp->Prop,(∀zs σ2 H2,N zs σ2 H2->∃m',m'<m/\W (i+1) m' zs σ2 H2)/\∀x H2,J.yld i H' x H2->g x σ' H2 λσ2 H3=>tt σ2 H3 λb H4 =>
       if b=true then te σ2 H4 λv H5=>N (ys++[v]) σ2 H5 else N ys σ2 H4))
def qiF(own:Nat)(ix:List Nat)(wi:TI)(g:TG)(tt:TT)(te:TE):TE:=λσ H Q=>wi σ H λJ H1=>qds own ix g tt te J σ H1 Q
def qiB(ifs:List Expr)(env:Env):Sem Bool :=
 forIn ifs true λc r=>if r=true then do let ok <- isTrue c env (eval c env); pure (ForInStep.yield ok) else pure (ForInStep.yield r)
def PTs(X:Cx)(ifs:List Expr)(t:TT):Prop :=
 ∀(pins:List (Addr×Obj)) (s:Shared) (σ:St) (H:Hp) (Q:Bool->Hp->Prop),Inv X pins σ H s->t σ H Q->wpAny (model X.prog X.w) X.A (qiB ifs X.env) (TP X pins σ Q) X.xe s
def tYes:TT:=λ_ H Q=>Q true H
theorem qbs{X:Cx}:PTs X [] tYes:=λ_ _ _ H _ I h=>wpAny_tests_nil ⟨H,I,h⟩
theorem qbX{X:Cx}{c:Expr}{t:TT}(h:PT X c t):PTs X [c] t:=λpins s σ H Q I q=>wpAny_tests_one (h pins s σ H Q I q)
theorem comp_turns{prog:Program}{w:World}{A:Around}{R:Result->Shared->Prop}{s:Shared}{elt tg iter:Expr}{ifs:List Expr}{scope:Scope}{pos:Pos}{it acc:Value}{env:Env}(J:Nat->Shared->Prop)(turn:∀ n s,J n s->wpAny (model prog w) A (pyNext it) (λr s1=>match r with
   | none=>R (.ok .next) s1
   | some v=>wpAny (model prog w) A (letOwnedTupleGo tg it v) (λ_ s2=>wpAny (model prog w) A (assign tg env v) (λ_ s3=>wpAny (model prog w) A (qiB ifs env) (λok s4 =>
     if ok=true then wpAny (model prog w) A (eval elt env) (λx s5=>wpAny (model prog w) A (call (.builtin "list.append") [acc,x]) (λ_ s6=>∃ m,m < n/\J m s6) (λ_ _=>False) s5) (λ_ _=>False) s4
     else ∃ m,m < n/\J m s4) (λ_ _=>False) s3) (λ_ _=>False) s2) (λ_ _=>False) s1) (λ_ _=>False) s)(n:Nat)(h:J n s):codeAny (model prog w) A (.compLoop (.ListComp elt [⟨tg,iter,ifs,0⟩] scope pos) 0 it acc env) R s:=by
 refine codeAny_loop rfl J (λn s hI=>?_) n h
 show wpAny (model prog w) A ((compTurn (.ListComp elt [⟨tg,iter,ifs,0⟩] scope pos) 0 it acc env).onRaise (λz=>do noteFrame z env; theTreesLotGoes z)) _ _ s
 refine wpAny_noted ?_
 rw [compTurn_list]
 refine qE (vY (qE (xC (turn n s hI) (λr s1 q1=>?_) λ_ _ z=>z.elim)))
 cases r with
 | none=>exact qU q1
 | some v =>
   refine qE (xC q1 (λ_ s2 q2=>?_) λ_ _ z=>z.elim)
   refine qE (xC q2 (λ_ s3 q3=>?_) λ_ _ z=>z.elim)
   refine qE (xC q3 (λok s4 q4=>?_) λ_ _ z=>z.elim)
   cases ok with
   | false=>exact qU ⟨rfl,q4⟩
   | true =>
     refine qE (qE (xC q4 (λx s5 q5=>?_) λ_ _ z=>z.elim))
     exact qE (xC q5 (λ_ s6 q6=>qU (qU ⟨rfl,q6⟩)) λ_ _ z=>z.elim)
section
variable{fs ex:List Addr}{H H1:Hp}{h h1:Heap}{D:Addr}{o:HO}
theorem Un.track(u:Un fs ex H H1 h h1)(hD:h.objs.size<=D)(n0:H D=none):Un fs ex H (upd H1 D o) h h1 where
 keep:=u.keep
 slot:=u.slot
 free:=λb ob q n hx=>by rw[qal (rJ (rB (qW q) hD))];exact u.free b ob q n hx
 there:=u.there
 tups:=λb xs q=>by rw[qal (qar q n0)];exact u.tups b xs q
 frzs:=λb ob xs q=>by rw[qal (qar q n0)];exact u.frzs b ob xs q
 tbls:=λb ps q=>by rw[qal (qar q n0)];exact u.tbls b ps q
theorem HOk.track{P:Program}{w:World}(x:HOk P w H h)(n0:H D=none)(new:ObjOk P w (upd H D o) h D o):HOk P w (upd H D o) h:=λa u e=>by
 by_cases z:a=D
 ·subst z;rw[qac]at e;cases e;exact new
 ·rw[qal z]at e;exact(x a u e).stay (λ_ _ _ q=>q) (λb q=>by rw[qal (qar q n0)];exact q) λb xs q=>by rw[qal (qar q n0)];exact q
end
abbrev lobj(its:List Value)(n:Nat):Obj:={cls:=.type "list",data:=.seq its.toArray n}
theorem Inv.letgo{X:Cx}{pins:List (Addr×Obj)}{σ:St}{H:Hp}{s:Shared}{C:Addr}{h':Heap}(I:Inv X pins σ H s)(f:FpOk X pins H C)(hs:Heap.SameBut C s.heap h'):Inv X pins σ H {s with heap:=h'} :=
 I.turned (t':=s.toks) (it:=C) (λb o hb e=>(hs.2 b hb).trans e) f.1 f.2.1 f.2.2.2.1 f.2.2.2.2.1 f.2.2.2.2.2
theorem qev{scope:Scope}{env:Env}{x:Str}{k:NameKind}(h:(relabel scope env).names.lookup x=some k):∃k0,(x,k0)∈scope.names/\(k0=k\/(k0=.free/\k=.cell)):=by
 have m:=qc1 h;obtain⟨⟨n,k0⟩,h1,h2⟩:=rG.mp (show(x,k)∈scope.names.map _ from m);dsimp only at h2
 by_cases c:(k0 == NameKind.free && env.scope.kind == .function && env.kindOf n == some .cell)=true
 ·rw[if_pos c]at h2;obtain⟨rfl,rfl⟩:=Prod.mk.inj h2;refine⟨k0,h1,.inr ⟨?_,rfl⟩⟩;rw[rH,rH]at c;simpa using c.1.1
 ·rw[if_neg c]at h2;obtain⟨rfl,rfl⟩:=Prod.mk.inj h2;exact⟨k0,h1,.inl rfl⟩
theorem relabel_free{scope:Scope}{env:Env}{x:Str}(h:scope.names.lookup x=some .free):(relabel scope env).names.lookup x=some .free\/(relabel scope env).names.lookup x=some .cell:=by
 have all:∀(l:List (Str×NameKind)),l.lookup x=some .free ->
   (l.map λ(n,k)=>if(k == NameKind.free && env.scope.kind == .function && env.kindOf n == some .cell)then(n,NameKind.cell)else(n,k)).lookup x=some .free \/
   (l.map λ(n,k)=>if(k == NameKind.free && env.scope.kind == .function && env.kindOf n == some .cell)then(n,NameKind.cell)else(n,k)).lookup x=some .cell:=by
  intro l
  induction l with
  | nil=>intro q;cases q
  | cons y r ih =>
    obtain⟨n,k⟩:=y
    intro q
    rw[yW]at q
    rw[r8]
    cases hx:x == n with
    | true =>
      rw[hx]at q
      cases q
      dsimp only
      split
      · right;rw[yW,hx]
      · left;rw[yW,hx]
    | false =>
      rw[hx]at q
      dsimp only
      split
      · rw[yW,hx];exact ih q
      · rw[yW,hx];exact ih q
 exact all scope.names h
section
variable{X:Cx}{elt tg iter:Expr}{ifs:List Expr}{scope:Scope}{pos:Pos}{g:TG}{tt:TT}{te:TE}{N' own frees:List Str}{ix:List Nat}{pins:List (Addr×Obj)}{σ:St}{H2:Hp}{s2:Shared}{it:Addr}{fp:List Addr}{tn:Nat->Heap->Prop}{J:It}{cl:List (Str×Addr)}{E:Value->Shared->Prop}
structure CompScope(X:Cx)(scope:Scope)(own frees:List Str)(ix:List Nat):Prop where
 kind:scope.kind=.function
 nocell:∀y∈scope.names,y.2≠.cell
 loc:∀y∈scope.names,y.2=.local->scope.names.lookup y.1=some .local
 fr:∀y∈scope.names,y.2=.free->X.env.scope.names.lookup y.1=some .cell\/X.env.scope.names.lookup y.1=some .free
 ixs:ix.map (λj=>X.N[j]?)=frees.map some
 isf:∀x∈frees,scope.names.lookup x=some .free
theorem comp_ok(S:CompScope X scope own frees ix)(I:Inv X pins σ H2 s2)(hcl1:∀x c,cl.lookup x=some c->X.env.cells.lookup x=some c)(hcl2:∀x,(x,NameKind.free)∈scope.names->∃c,cl.lookup x=some c)(T:Turn X.prog X.w X.K tg J fp it tn)(st:tn 0 s2.heap)(f2:∀b∈fp,FpOk X pins H2 b){C:Addr}(hC:s2.heap.objs.size<=C):(qbw X N' scope cl C s2 H2 fp).Ok:=by
 have lt:∀b∈fp,b<s2.heap.objs.size:=λb hb=>by
  obtain⟨o,e,_⟩:=T.obj 0 _ st b hb;exact qW e
 refine⟨I.ok.mod,S.kind,I.ok.glob,I.ok.blt,hC,λx y c h1 h2=>I.ok.inj x y c (hcl1 x c h1) (hcl1 y c h2),λx hx=>?_,(λx c q=>nomatch q),I.ok.hd,I.ok.frames,.inl rfl,λb hb=>?_,I.bs,qS I.ok.bsz I.sz,λb o e hb=>?_,λb hb z=>?_,I.stack,I.stkFree⟩
 ·have hx':(relabel scope X.env).names.lookup x=some .cell\/(relabel scope X.env).names.lookup x=some .free:=hx;have fin:(x,NameKind.free)∈scope.names:=by
   rcases hx' with q | q
   ·obtain⟨k0,m,z | ⟨z,_⟩⟩:=qev q
    ·exact absurd z (S.nocell _ m)
    ·rw[<-z];exact m
   ·obtain⟨k0,m,z | ⟨_,z⟩⟩:=qev q
    ·rw[<-z];exact m
    ·cases z
  exact hcl2 x fin
 ·refine⟨rJ (rB (lt b hb) hC),λx c e=>(f2 b hb).2.2.2.2.1 x c (hcl1 x c e)⟩
 ·have q:=(f2 b hb).2.2.2.1;rcases q with q | q
  ·exact I.ok.noex b o e q
  ·exact absurd (rB (rB (qW e) I.ok.bsz) q) (rW _)
 ·rcases qV.mp (I.stkSub b z)with q | q
  ·exact(f2 b hb).2.1 q
  ·exact(f2 b hb).2.2.1 q
theorem qeT(hc:X.calm=true)(S:CompScope X scope own frees ix)(I:Inv X pins σ H2 s2)(hcl1:∀x c,cl.lookup x=some c->X.env.cells.lookup x=some c)(hcl2:∀x,(x,NameKind.free)∈scope.names->∃c,cl.lookup x=some c)(T:Turn X.prog X.w X.K tg J fp it tn)(st:tn 0 s2.heap)(f2:∀b∈fp,FpOk X pins H2 b)(hg:∀C,PG (qbw X (own++frees) scope cl C s2 H2 fp) tg g)(ht:∀C,PTs (qbw X (own++frees) scope cl C s2 H2 fp) ifs tt)(he:∀C,PE (qbw X (own++frees) scope cl C s2 H2 fp) elt te){Q:VK}{W:Nat->Nat->List V->St->Hp->Prop}(w0:∃m,W 0 m [] (qcF own.length ix σ) H2)(turn:∀i m ys σ' H',W i m ys σ' H'->ys.length<sizeLine /\
   ((J.stop i H'/\∀ D,H' D=none->Q (.ref D) (upd H' D (.lst ys))) \/
    (J.go i H'/\∃N:List V->St->Hp->Prop,(∀zs σ2 H2,N zs σ2 H2->∃m',m'<m/\W (i+1) m' zs σ2 H2)/\∀x H2,J.yld i H' x H2->g x σ' H2 λσ2 H3=>tt σ2 H3 λb H4 =>
       if b=true then te σ2 H4 λv H5=>N (ys++[v]) σ2 H5 else N ys σ2 H4))){RR:Value->Addr->Result->Shared->Prop}(hRR:∀D C H' s' m,Inv X pins σ H' s'->FpOk X pins H' C->s'.heap.Ns C m->Q (.ref D) H'->RR (.ref D) C (.ok .next) s') :
  wpAny (model X.prog X.w) X.A (newList []) (λacc s3=>wpAny (model X.prog X.w) X.A (newFunctionEnv scope X.env.globals cl [] X.env.qual none .none (some X.env)) (λcenv s4 =>
   codeAny (model X.prog X.w) X.A (.compStart (.ListComp elt [⟨tg,iter,ifs,0⟩] scope pos) 0 (.ref it) acc {cenv with scope:=relabel scope X.env}) (RR acc cenv.locals) s4) E s3) E s2:=by
 obtain⟨m0,w0⟩:=w0;refine yN (wpAny_newFunctionEnv S.nocell (by intro y hy;simp at hy) (λh1 ns1 sb1=>?_) S.kind);dsimp only at ns1 sb1⊢;generalize eH:s2.heap.push {cls:=.type "list",dict:=none,data:=.seq ([]:List Value).toArray}=G at ns1 sb1⊢;have szG:G.objs.size=s2.heap.objs.size+1:=by rw[<-eH,rX]
 have hC:s2.heap.objs.size<=G.objs.size:=by rw[szG];exact uB _
 have hDC:s2.heap.objs.size≠G.objs.size:=by rw[szG];exact rJ (xK _)
 have below:∀b,b<s2.heap.objs.size->b≠G.objs.size/\b≠s2.heap.objs.size:=λb hb=>⟨rJ (rB hb hC),rJ hb⟩
 have old:∀b o,s2.heap.get? b=some o->h1.get? b=some o:=λb o e=>sb1.extBut b o (below b (qW e)).1 (qL _ (eH ▸ qL _ e))
 have accD:h1.get? s2.heap.objs.size=some (lobj [] 0):=sb1.extBut _ _ hDC (qL _ (eH ▸ rE _ rfl));have ltf:∀b∈fp,b<s2.heap.objs.size:=λb hb=>by
  obtain⟨o,e,_⟩:=T.obj 0 _ st b hb;exact qW e
 have okX:(qbw X (own++frees) scope cl G.objs.size s2 H2 fp).Ok:=comp_ok S I hcl1 hcl2 T st f2 hC;have ltc:∀x c,cl.lookup x=some c->c<s2.heap.objs.size:=λx c e=>by
  obtain⟨v,q⟩:=I.cell x c (hcl1 x c e);exact q.lt
 have notfs:∀b,s2.heap.objs.size<=b->b∉frs X.stack:=λb hb z=>by
  rcases qV.mp (I.stkSub b z)with q | q
  ·exact absurd (rB I.lt (by rw[<-q];exact hb)) (rW _)
  ·exact I.nofs hb q
 have lenix:ix.length=frees.length:=by have:=xN List.length S.ixs;simpa using this
 have I0:Inv (qbw X (own++frees) scope cl G.objs.size s2 H2 fp) [(s2.heap.objs.size,lobj [] 0)] (qcF own.length ix σ) H2 {s2 with heap:=h1,toks:=s2.toks+([]:List (Str×Value)).length}:=by
  obtain⟨m2,n2,l2⟩:=id I.loc;refine⟨okX,rfl,I.bare,Un.kept old,⟨_,ns1,λi x v e1 e2 e3=>?_⟩,λx c e=>?_,I.hok.fresh hC,λx c e=>I.freeC x c (hcl1 x c e),λp hp=>?_,I.hok.kept old,?_⟩
  ·have e1:(own++frees)[i]?=some x:=e1
   by_cases hi:i<own.length
   ·unfold qcF at e2;rw[rQ (by simpa using hi),List.getElem?_replicate]at e2
    split at e2<;>cases e2
   ·have hi':own.length<=i:=uP hi;unfold qcF at e2;rw[rT (by simpa using hi'),xM,qR]at e2;rw[rT hi']at e1;cases ej:ix[i-own.length]? with
    | none=>rw[ej]at e2;cases e2
    | some j =>
      rw[ej]at e2
      have e2':(σ[j]?).join=some v:=rD e2
      have ev:σ[j]?=some (some v):=by
        cases q:σ[j]? with
        | none=>rw[q]at e2';cases e2'
        | some y=>rw[q]at e2';exact xN some e2'
      have eN:X.N[j]?=some x:=by
        have q:=xN (λl=>l[i-own.length]?) S.ixs
        simp only[List.getElem?_map,ej,e1,Option.map_some]at q
        exact rD q
      have xf:x∈frees:=qP e1
      have xm:(x,NameKind.free)∈scope.names:=qc1 (S.isf x xf)
      have vis:Vis X.env.scope x:=by
        rcases S.fr _ xm rfl with q | q
        · exact .inr (.inl q)
        · exact .inr (.inr q)
      obtain⟨u,r,lk⟩:=l2 j x v eN ev vis
      refine⟨u,r,?_⟩
      rcases lk with⟨k,_⟩ | ⟨_,c,ec,z⟩
      · have k':X.env.scope.names.lookup x=some .local:=k
        rcases S.fr _ xm rfl with q | q
        · rw[k']at q;cases q
        · rw[k']at q;cases q
      · obtain⟨c',ec'⟩:=hcl2 x xm
        have:c=c':=rD (ec.symm.trans (hcl1 x c' ec'))
        subst this
        refine .inr ⟨?_,c,ec',z.keeps old⟩
        rcases relabel_free (env:=X.env) (S.isf x xf)with q | q
        · exact .inr q
        · exact .inl q
  ·obtain⟨v,z⟩:=I.cell x c (hcl1 x c e);exact⟨v,z.keeps old⟩
  ·have hp':p=(s2.heap.objs.size,lobj [] 0):=by simpa[qbw]using hp
   subst hp';exact⟨accD,I.hok.fresh (qN _),hDC,notfs _ (qN _),λv q=>nomatch q⟩
  ·show(qcF own.length ix σ).length=(own++frees).length;unfold qcF;rw[qD,xM,qA,qD,lenix]
 have st1:tn 0 h1:=T.keep 0 _ _ st λb hb o e=>old b o e
 have stat:∀{H':Hp} {pl:List (Addr×Obj)},(∀b∈fp,H' b=none)->(∀p∈pl,s2.heap.objs.size<=p.1)->∀b∈fp,FpOk (qbw X (own++frees) scope cl G.objs.size s2 H2 fp) pl H' b:=λ{H' pl} hn hp b hb =>
  ⟨hn b hb,(below b (ltf b hb)).1,λz=>okX.exfs b hb z,.inl hb,λx c e=>(f2 b hb).2.2.2.2.1 x c (hcl1 x c e),λp q z=>by
   have q':p∈pl:=by simpa[qbw]using q
   have:=hp p q';rw[z]at this;exact absurd (rB (ltf b hb) this) (rW _)⟩
 have loop:∀s3:Shared,s3={s2 with heap:=h1,toks:=s2.toks+([]:List (Str×Value)).length} ->
   codeAny (model X.prog X.w) X.A (.compLoop (.ListComp elt [⟨tg,iter,ifs,0⟩] scope pos) 0 (.ref it) (.ref s2.heap.objs.size) (compEnvC scope cl G.objs.size X.env)) (RR (.ref s2.heap.objs.size) G.objs.size) s3:=by
  rintro s3 rfl;refine comp_turns (λn s'=>∃i ys σ' H' its k,Inv (qbw X (own++frees) scope cl G.objs.size s2 H2 fp) [(s2.heap.objs.size,lobj its k)] σ' H' s'/\tn i s'.heap/\(∀b∈fp,H' b=none)/\Vals ys its/\W i n ys σ' H') ?_ m0
   ⟨0,[],_,H2,[],0,I0,st1,λb hb=>(f2 b hb).1,.nil,w0⟩
  rintro n s4 ⟨i,ys,σ4,H4,its,k,I4,st4,fr4,rv,w4⟩;obtain⟨hz,alt⟩:=turn i n ys σ4 H4 w4;have big:∀p∈[(s2.heap.objs.size,lobj its k)],s2.heap.objs.size<=p.1:=λp hp=>by
   have:p=(s2.heap.objs.size,lobj its k):=by simpa using hp
   rw[this];exact qN _
  rcases alt with⟨stop,fin⟩ | ⟨go,NN,hNN,step⟩
  ·refine xC (T.done (qbw X (own++frees) scope cl G.objs.size s2 H2 fp) rfl rfl rfl hc i _ s4 σ4 H4 (λ_ _=>False) I4 (stat fr4 big) st4 stop) (λr s5 q5=>?_) λ_ _ z=>z
   obtain⟨hr,I5⟩:=q5;subst hr;have pD:=I5.pin (s2.heap.objs.size,lobj its k) (rF _ qM);obtain⟨m5,n5,_⟩:=id I5.loc;have okD:HOk X.prog X.w (upd H4 s2.heap.objs.size (.lst ys)) s5.heap:=HOk.track I5.hok pD.2.1 ⟨xY hz,its,k,rv,pD.1⟩;have un:Un (frs X.stack) fp H2 (upd H4 s2.heap.objs.size (.lst ys)) s2.heap s5.heap:=Un.track I5.base (qN _) (I.hok.fresh (qN _));have I6:Inv X pins σ (upd H4 s2.heap.objs.size (.lst ys)) s5:=I.call' (ch:=fp) I5.os un okD I5.bare λb hb=>⟨(f2 b hb).2.2.2.1,(f2 b hb).2.1,(f2 b hb).2.2.2.2.1,(f2 b hb).2.2.2.2.2⟩
   refine hRR _ _ _ _ m5 I6 ?_ n5 (fin _ pD.2.1);refine⟨?_,?_,?_,.inr (qS I.sz hC),λx c e z=>?_,λp hp z=>?_⟩
   ·rw[qal (Ne.symm hDC)];exact I5.free
   ·exact uC (rB I.lt hC)
   ·exact I.nofs hC
   ·obtain⟨v,q⟩:=I.cell x c e;exact absurd (rB q.lt (by rw[z];exact hC)) (rW _)
   ·exact absurd (rB (qW (I.pin p hp).1) (by rw[z];exact hC)) (rW _)
  ·refine xC (T.item (qbw X (own++frees) scope cl G.objs.size s2 H2 fp) rfl rfl rfl hc i _ s4 σ4 H4 (λ_ _=>False) I4 (stat fr4 big) st4 go) (λr s5 q5=>?_) λ_ _ z=>z
   obtain⟨u,hr,q5⟩:=q5;subst hr;refine xC q5 (λ_ s6 q6=>?_) λ_ _ z=>z
   obtain⟨x,H6,I6,r6,y6,st6,fr6⟩:=q6;have I6':=I6.pinned (stat fr6 big) (T.obj _ _ st6);refine xC (hg _ _ s6 σ4 H6 x u _ I6' r6 (step x H6 y6)) (λ_ s7 q7=>?_) λ_ _ z=>z
   obtain⟨σ7,H7,I7,q7⟩:=q7;refine xC (ht _ _ s7 σ7 H7 _ I7 q7) (λok s8 q8=>?_) λ_ _ z=>z
   obtain⟨H8,I8,q8⟩:=q8;cases ok with
   | false =>
     rw[if_neg qF]at q8⊢
     obtain⟨m',hm,w8⟩:=hNN _ _ _ q8
     refine⟨m',hm,i+1,ys,σ7,H8,its,k,I8.unpinned,T.keep _ _ _ st6 λb hb o e=>(I8.pin (b,o) (rF _ (rF _ (qb5 hb e)))).1,λb hb=>?_,rv,w8⟩
     obtain⟨o,e,d⟩:=T.obj _ _ st6 b hb
     exact(I8.pin (b,o) (rF _ (rF _ (qb5 hb e)))).2.1
   | true =>
     rw[if_pos rfl]at q8⊢
     refine xC (he _ _ s8 σ7 H8 _ I8 q8) (λv s9 q9=>?_) λ_ _ z=>z
     obtain⟨y,H9,I9,ry,q9⟩:=q9
     obtain⟨m',hm,w9⟩:=hNN _ _ _ q9
     have pD:=I9.pin (s2.heap.objs.size,lobj its k) (rF _ (yK _ qM))
     have lenv:=rv.length
     refine wpAny_list_append_plain (items:=its.toArray) ⟨k,pD.1⟩ (λh' hp hs=>?_) (by rw[qZ];omega)
     obtain⟨k',e'⟩:=hp
     have ne:∀b∈fp,b≠s2.heap.objs.size:=λb hb=>(below b (ltf b hb)).2
     have I10:Inv (qbw X (own++frees) scope cl G.objs.size s2 H2 fp) (qeB fp s6.heap) σ7 H9 s9:=I9.pins_of λp hp=>I9.pin p (rF _ (rF _ hp))
     have I11:Inv (qbw X (own++frees) scope cl G.objs.size s2 H2 fp) (qeB fp s6.heap) σ7 H9 {s9 with heap:=h',toks:=s9.toks} :=
       I10.turned (it:=s2.heap.objs.size) (λb o hb e=>(hs.2 b hb).trans e) pD.2.1 pD.2.2.1 (.inr (qN _)) (λx c e z=>absurd (ltc x c e) (by rw[z];exact rW _)) λp hp z=>by
         have hp':p∈qeB fp s6.heap:=by simpa[qbw]using hp
         exact ne p.1 (qf0 hp').1 z
     have e'':h'.get? s2.heap.objs.size=some (lobj (its++[v]) k'):=by rw[e'];simp
     have I12:Inv (qbw X (own++frees) scope cl G.objs.size s2 H2 fp) [(s2.heap.objs.size,lobj (its++[v]) k')] σ7 H9 {s9 with heap:=h',toks:=s9.toks}:=I11.pins_of λp hp=>by
       have:p=(s2.heap.objs.size,lobj (its++[v]) k'):=by simpa using hp
       subst this
       exact⟨e'',pD.2.1,pD.2.2.1,pD.2.2.2.1,λv q=>nomatch q⟩
     refine⟨m',hm,i+1,ys++[y],σ7,H9,its++[v],k',I12,T.keep _ _ _ st6 λb hb o e=>(hs.2 b (ne b hb)).trans (I9.pin (b,o) (rF _ (rF _ (qb5 hb e)))).1,λb hb=>?_,rv.append (.cons ry .nil),w9⟩
     obtain⟨o,e,d⟩:=T.obj _ _ st6 b hb
     exact(I9.pin (b,o) (rF _ (rF _ (qb5 hb e)))).2.1
 exact codeAny_compStart_list (loop _ rfl) (T.self _ 0 _ _ _ st1 (loop _ rfl))
variable{wi:TI}
theorem qbr(hc:X.calm=true)(S:CompScope X scope own frees ix)(hi:PI X tg iter wi)(hg:∀cl C s2 H2 fp,PG (qbw X (own++frees) scope cl C s2 H2 fp) tg g)(ht:∀cl C s2 H2 fp,PTs (qbw X (own++frees) scope cl C s2 H2 fp) ifs tt)(he:∀cl C s2 H2 fp,PE (qbw X (own++frees) scope cl C s2 H2 fp) elt te)(hs:∀x,foldedSetIterable iter X.env x=pure x:=by intro _;rfl) :
  PE X (.ListComp elt [⟨tg,iter,ifs,0⟩] scope pos) (qiF own.length ix wi g tt te):=by
 intro pins s σ H Q I h;obtain⟨cl,hcl,hcl1,hcl2⟩:=qhh (scope:=scope) (env:=X.env) λx hx hf=>I.ok.has x.1 (S.fr x hx hf)
 rw[eval_ListComp];refine wpAny_comprehension_free (use:=none) rfl hs hcl S.kind S.loc ?_;refine thn (hi pins s σ H _ I h) λv s1 h1=>thn h1 λitv s2 h2=>?_
 obtain⟨it,fp,tn,J,H2,e,I2,T,st2,f2,W,w0,turn⟩:=h2;subst e;refine qeT (Q:=Q) (RR:=λacc C=>compPost (model X.prog X.w) X.A X.xe none (EP X pins σ Q) acc C) hc S I2 hcl1 hcl2 T st2 f2 (λC=>hg cl C s2 H2 fp) (λC=>ht cl C s2 H2 fp) (λC=>he cl C s2 H2 fp) w0 turn ?_;intro D C H' s' m I' fC nC q;exact⟨m,nC,λh' hs'=>⟨.ref D,H',I'.letgo fC hs',rfl,q⟩⟩
theorem qbU{i:Nat}{y:Str}{py spos:Pos}(hc:X.calm=true)(hN:X.N.Nodup)(hiN:X.N[i]?=some y)(hy:Loc X.env.scope y)(S:CompScope X scope own frees ix)(hi:PI X tg iter wi)(hg:∀ cl C s2 H2 fp,PG (qbw X (own++frees) scope cl C s2 H2 fp) tg g)(ht:∀ cl C s2 H2 fp,PTs (qbw X (own++frees) scope cl C s2 H2 fp) ifs tt)(he:∀ cl C s2 H2 fp,PE (qbw X (own++frees) scope cl C s2 H2 fp) elt te)(hf:X.fn y=true\/X.env.scope.names.lookup y=some .local:=by first | exact .inl rfl | exact .inr rfl | assumption)(hsw:swapsWith (.ListComp elt [⟨tg,iter,ifs,0⟩] scope pos) (some (.Name y py)) spos.line X.env=pure true:=by with_unfolding_all rfl)(hs:∀ x,foldedSetIterable iter X.env x=pure x:=by intro _; rfl) :
  PS X (.Assign [.Name y py] (.ListComp elt [⟨tg,iter,ifs,0⟩] scope pos) spos) (tAsg (qiF own.length ix wi g tt te) (qbu i)):=by
 intro pins s σ H D I h
 obtain ⟨cl,hcl,hcl1,hcl2⟩:=qhh (scope:=scope) (env:=X.env) λx hx hf=>I.ok.has x.1 (S.fr x hx hf)
 rw [exec_Assign_Name_used _ _ _ _ hsw]
 refine qE (vY (qE ?_))
 show wpAny (model X.prog X.w) X.A (do let _ <- comprehension (.ListComp elt [⟨tg,iter,ifs,0⟩] scope pos) scope X.env _ (newList []) false (eval iter X.env) (some (assign (.Name y py) X.env))) _ _ s
 refine qE (xC (wpAny_comprehension_free (use:=some (assign (.Name y py) X.env)) (Q:=λ_ s'=>SP X pins D .next s') rfl hs hcl S.kind S.loc ?_) (λ_ s' q=>qU (qU q)) λ_ _ z=>z)
 refine thn (hi pins s σ H _ I h) λv s1 h1=>thn h1 λitv s2 h2=>?_
 obtain ⟨it,fp,tn,J,H2,e,I2,T,st2,f2,W,w0,turn⟩:=h2
 subst e
 refine qeT (Q:=λv H'=>qbu i v σ H' D.nx) (RR:=λacc C=>compPost (model X.prog X.w) X.A X.xe (some (assign (.Name y py) X.env)) (λ_ s'=>SP X pins D .next s') acc C) hc S I2 hcl1 hcl2 T st2 f2 (λC=>hg cl C s2 H2 fp) (λC=>ht cl C s2 H2 fp) (λC=>he cl C s2 H2 fp) w0 turn ?_
 intro L C H' s' m I' fC nC q
 show wpAny (model X.prog X.w) X.A (assign (.Name y py) X.env (.ref L)) _ _ _
 refine wpAny_assign_Name (qfT (v:=.ref L) I' hN hiN hy rfl (λs3 I3 hch=>?_) hf)
 obtain ⟨a,sb,ha⟩:=hch
 have nCa:C≠a:=by
  rcases ha with z | z
  ·rw [z]; exact fC.2.1
  ·exact λq=>fC.2.2.2.2.1 y a z q.symm
 refine ⟨m,nC.sameBut sb nCa,λh' hs'=>?_⟩
 exact ⟨_,H',I3.letgo fC hs',q⟩
end
theorem qaM{K:W.Frag}{a:Addr}{xs:List V}{own:Nat}{ix:List Nat}{g:TG}{tt:TT}{te:TE}{σ:St}{H:Hp}{Q:VK}(Pv:Nat->List V->St->Hp->Prop)(hz:xs.length<sizeLine)(h0:Pv 0 [] (qcF own ix σ) H)(hl:∀i ys σ' H',i<=xs.length->Pv i ys σ' H'->SqL K H' a xs/\ys.length<=i)(hs:∀i x ys σ' H',xs[i]?=some x->Pv i ys σ' H'->g x σ' H' λσ2 H3=>tt σ2 H3 λb H4=>if b=true then te σ2 H4 λv H5=>Pv (i+1) (ys++[v]) σ2 H5 else Pv (i+1) ys σ2 H4)(hd:∀ys σ' H',Pv xs.length ys σ' H'->∀D,H' D=none->Q (.ref D) (upd H' D (.lst ys))) :
  qds own ix g tt te (Itl K a) σ H Q:=by
 refine⟨λi m ys σ H=>m=xs.length-i/\i<=xs.length/\Pv i ys σ H,⟨xs.length,by simp,rS _,h0⟩,?_⟩;rintro i m ys σ H ⟨rfl,hi,p⟩;obtain⟨q,hy⟩:=hl i ys σ H hi p;refine⟨by omega,?_⟩
 by_cases hlt:i<xs.length
 ·refine .inr ⟨⟨xs,xs[i],q,by simp[hlt]⟩,Pv (i+1),λzs σ' H' p'=>⟨xs.length-(i+1),by omega,rfl,hlt,p'⟩,λx H' y=>?_⟩;obtain⟨e,y⟩:=y;subst e;exact hs i x ys σ _ (y xs q) p
 ·have e:i=xs.length:=by omega
  subst e;exact .inl ⟨⟨xs,q,qN _⟩,hd ys σ H p⟩
theorem ObjOk.at{P:Program}{w:World}{H:Hp}{h:Heap}{a:Addr}{o:HO}(x:ObjOk P w H h a o):∃u,h.get? a=some u:=by
 cases o with
 | lst xs=>obtain⟨_,_,_,_,e⟩:=x;exact⟨_,e⟩
 | tup xs=>obtain⟨_,_,_,o,e,_⟩:=x;exact⟨_,e⟩
 | dK kvs=>obtain⟨_,_,_,_,o,_,_,e,_⟩:=x;exact⟨_,e⟩
 | dT kvs=>obtain⟨_,_,_,_,o,_,_,e,_⟩:=x;exact⟨_,e⟩
 | set S n=>obtain⟨o,_,_,_,e,_⟩:=x;exact⟨_,e⟩
 | ins C dx fs=>obtain⟨_,_,_,e,_⟩:=x;exact⟨_,e⟩
 | own y=>exact x
 | xd fs=>obtain⟨_,⟨_,_,_,e,_⟩,_⟩:=x;exact⟨_,e⟩
 | rng lo hi=>obtain⟨_,_,_,e⟩:=x;exact⟨_,e⟩
 | frz ob u=>obtain⟨e,_⟩:=x;exact⟨_,e⟩
 | tbl ps=>exact⟨_,x⟩
 | met f y=>exact⟨_,x⟩
 | ext φ=>exact x.2.1
def CX1(P:Program)(w:World):CXT:=λouter H s E e s'=>∃(ea C:Addr) (a0:Value) (H':Hp) (B:Heap),e=.ref ea/\s'.os=s.os/\AllBare s'.gens/\Un (frs outer) [] H H' s.heap s'.heap/\HOk P w H' s'.heap /\
 Heap.FlyingW B outer ea (.ref C) a0 s'.heap/\(∀b o,s'.heap.get? b=some o->(H' b≠none\/∃o0,s.heap.get? b=some o0)->b∉frs outer->B.get? b=some o)/\H' ea=none/\s.heap.get? ea=none/\E (.ref C) none H'
theorem qhw{X:Cx}:qee (CX1 X.prog X.w) X E0:=λ_ _ _ _ _ _ _ h=>by
 obtain⟨_,_,_,_,_,_,_,_,_,_,_,_,_,_,q⟩:=h;exact q.elim
section
variable{P:Program}{w:World}{K:W.Frag}{mg:Str->Option Value}{base:Heap}{N:List Str}{qual:Str}{scope:Scope}{f:Addr}{cd:Value}{A:Around}{outer:List Env}{s0:Shared}{H0:Hp}{E:XK}{pins:List (Addr×Obj)}{σ:St}{H:Hp}{s:Shared}
theorem xe_raise{h':Heap}{e C:Addr}{args:List Value}(I:Inv (cxOf (CX1 P w) P w K mg base N qual scope f cd A outer s0 H0 E) pins σ H s)(hx:Heap.MadeExcOf s.heap h' e (.ref C) args)(hE:E (.ref C) none H) :
  (cxOf (CX1 P w) P w K mg base N qual scope f cd A outer s0 H0 E).xe (.ref e) {s with heap:=h'}:=by
 show wpAny (model P w) (A.deeper (envOfC qual scope s0.heap.objs.size f cd)) (leaving (envOfC qual scope s0.heap.objs.size f cd) (.ref e)) (λ_ s''=>CX1 P w outer H0 s0 E (.ref e) s'') (λe' s''=>CX1 P w outer H0 s0 E e' s'') {s with heap:=h'};have fr:=I.stack;have hin:∀env∈(envOfC qual scope s0.heap.objs.size f cd::outer),∀b,env.frame=some b->b∈frs (envOfC qual scope s0.heap.objs.size f cd::outer):=λenv he b hb=>yX.mpr ⟨env,he,hb⟩
 refine wpAny_leaves_madeW (base:=PySem.W.hideAll s.heap (frs (envOfC qual scope s0.heap.objs.size f cd::outer))) (h:=s.heap) (outer:=outer) I.ok.frames rfl (λb o q=>PySem.W.of_hideAll _ q) (PySem.W.funFrames_hide fr hin) hx λh2 t x1 _ _ x4=>?_
 have kB:∀b o,s.heap.get? b=some o->b∉frs (envOfC qual scope s0.heap.objs.size f cd::outer)->h2.get? b=some o:=λb o q nb=>x1.1 b o (vK _ q nb)
 have old:∀b o,s0.heap.get? b=some o->b∉frs outer->b∉frs (envOfC qual scope s0.heap.objs.size f cd::outer):=λb o q nb z=>by
  rcases qV.mp (show b∈s0.heap.objs.size::frs outer from z)with e1 | e1
  ·rw[e1]at q;exact absurd (qW q) (rW _)
  ·exact nb e1
 have trk:∀b,H b≠none->b∉frs (envOfC qual scope s0.heap.objs.size f cd::outer):=λb q z=>q (I.stkFree b z)
 have slots:∀b o,s.heap.get? b=some o->b∈frs outer->∃sl,h2.get? b=some {o with slots:=sl}:=λb o q hb=>by
  obtain⟨_,o',ho',hnf⟩:=I.funs.mem hb;rw[q]at ho';cases ho';exact x4 b o (hx.keeps b o q) hnf
 refine⟨e,C,.ref t,H,_,rfl,I.os,I.bare,⟨λb o q n nb _=>?_,λb o q n hb _=>?_,λb o q n _=>I.base.free b o q n (by simp[cxOf]),λb o q _=>?_,I.base.tups,I.base.frzs,I.base.tbls⟩,λa o q=>?_,x1,λb o q hq nb=>?_,?_,?_,hE⟩
 ·exact kB b o (I.base.keep b o q n nb (by simp[cxOf])) (old b o q nb)
 ·obtain⟨sl,e1⟩:=I.base.slot b o q n hb (by simp[cxOf]);obtain⟨sl',e2⟩:=slots b _ e1 hb;exact⟨sl',e2⟩
 ·obtain⟨o',e1⟩:=I.base.there b o q (by simp[cxOf])
  by_cases hb:b∈frs outer
  ·obtain⟨sl,e2⟩:=slots b o' e1 hb;exact⟨_,e2⟩
  ·exact⟨o',kB b o' e1 (old b o q hb)⟩
 ·refine(I.hok a o q).stay (λb u hb z=>kB b u z (trk b ?_)) (λ_ z=>z) λ_ _ z=>z
  rcases hb with z' | z'
  ·rw[z',q];exact λz=>by cases z
  ·rw[z'];exact λz=>by cases z
 ·have fin:∃o',s.heap.get? b=some o'/\b∉frs (envOfC qual scope s0.heap.objs.size f cd::outer):=by
   rcases hq with z | ⟨o0,z⟩
   ·cases e1:H b with
    | none=>exact absurd e1 z
    | some u =>
      obtain⟨o',e2⟩:=(I.hok b u e1).at
      exact⟨o',e2,trk b z⟩
   ·obtain⟨o',e2⟩:=I.base.there b o0 z (by simp[cxOf]);exact⟨o',e2,old b o0 z nb⟩
  obtain⟨o',e1,nb'⟩:=fin;have e2:=kB b o' e1 nb';rw[q]at e2;cases e2;exact vK _ e1 nb'
 ·cases e1:H e with
  | none=>rfl
  | some u =>
    obtain⟨o',e2⟩:=(I.hok e u e1).at
    rw[hx.new]at e2
    cases e2
 ·cases e1:s0.heap.get? e with
  | none=>rfl
  | some o =>
    obtain⟨o',e2⟩:=I.base.there e o e1 (by simp[cxOf])
    rw[hx.new]at e2
    cases e2
def qim(t:TA)(C:Addr)(E:XK):TS:=λ_ σ H=>t σ H λvs H1=>vs.length<=sizeLine/\E (.ref C) none H1
theorem ps_raise{x:Str}{C:Addr}{bm:List Value}{B newId initId:String}{e0:Expr}{rest:List Expr}{np cpos pos:Pos}{t:TA}(O:OwnCls x C bm newId mg base)(FB:ExcBaseFacts B newId initId bm)(hA:A.handled=none)(hg:Gl (cxOf (CX1 P w) P w K mg base N qual scope f cd A outer s0 H0 E) x)(ha:PA (cxOf (CX1 P w) P w K mg base N qual scope f cd A outer s0 H0 E).nox (e0::rest) t)(he:starEach (e0::rest) (envOfC qual scope s0.heap.objs.size f cd)=(false,eval e0 (envOfC qual scope s0.heap.objs.size f cd))::starEach rest (envOfC qual scope s0.heap.objs.size f cd):=by rfl)(hpl:(backTo cpos (starEach rest (envOfC qual scope s0.heap.objs.size f cd))).any (·.1)=false:=by rfl)(hd:(x == ("__debug__" : Str))=false:=by decide) :
  PS (cxOf (CX1 P w) P w K mg base N qual scope f cd A outer s0 H0 E) (.Raise (some (.Call (.Name x np) (e0::rest) [] cpos)) none pos) (qim t C E):=by
 intro pins s σ H D I h;obtain⟨tl,N',nm,q,bs,hdct,sn,sub,ab,col,dd,k0,k1,k2,k3,k5,mN,hC,hN,hni,T⟩:=O.obj;refine wpAny_Raise_call_subT (C:=C) (nm:=nm) (q:=q) (N:=N') (bs:=bs) (bm:=tl) (hdct:=hdct) (sn:=sn) (sub:=sub) (ab:=ab) (col:=col) (dd:=dd) (k0:=k0) (k1:=k1) (k2:=k2) (k3:=k3) (k5:=k5)
  FB (mN:=mN) (T.hasType FB.hasBase) hA (by show(backTo cpos (starEach (e0::rest) (envOfC qual scope s0.heap.objs.size f cd))).any (·.1)=false;rw[he];show(false || (backTo cpos (starEach rest (envOfC qual scope s0.heap.objs.size f cd))).any (·.1))=false;rw[hpl];rfl) hni
  (qfk I hg O.bound ⟨rfl,?_⟩ hd)
 have run:=ha cpos pins s σ H _ (I.wish λ_ _=>False) h;have he':starEach (e0::rest) (cxOf (CX1 P w) P w K mg base N qual scope f cd A outer s0 H0 E).env=(false,eval e0 (envOfC qual scope s0.heap.objs.size f cd))::starEach rest (envOfC qual scope s0.heap.objs.size f cd):=he;have he'':starEach (e0::rest) (cxOf (CX1 P w) P w K mg base N qual scope f cd A outer s0 H0 E).nox.env=(false,eval e0 (envOfC qual scope s0.heap.objs.size f cd))::starEach rest (envOfC qual scope s0.heap.objs.size f cd):=he;rw[he'']  at run;rw[he'];refine Calls.evalArgs_plain (xC run (λus s1 q1=>?_) λ_ _ z=>z.elim);obtain⟨vs,H1,I1,rv,hz,hE⟩:=q1;have I1:=I1.unwish;have kb:=I1.bk;refine⟨rfl,by rw[<-rv.length];exact hz,kb _ _ hC,hN.keeps kb,T.keeps kb,λh' e hm=>?_⟩;exact xe_raise I1 hm hE
end
section
variable{X:Cx}{pins:List (Addr×Obj)}{σ:St}{H:Hp}{s:Shared}{D:Addr}{o:HO}
theorem Inv.track(I:Inv X pins σ H s)(h0:X.s₀.heap.get? D=none)(hn:H D=none)(hL:D≠X.env.locals)(hc:∀x c,X.env.cells.lookup x=some c->c≠D)(hp:∀p∈X.pn++pins,p.1≠D)(new:ObjOk X.prog X.w (upd H D o) s.heap D o):Inv X pins σ (upd H D o) s:=by
 refine⟨I.ok,I.os,I.bare,⟨I.base.keep,I.base.slot,λb ob q n hx=>?_,I.base.there,λb xs q=>?_,λb ob xs q=>?_,λb ps q=>?_⟩,I.loc,I.cell,?_,λx c e=>?_,λp z=>?_,HOk.track I.hok hn new,I.len⟩
 ·rw[qal (λz=>by rw[z,h0]at q;cases q)];exact I.base.free b ob q n hx
 ·have r:=I.base.tups b xs q;rw[qal (λz=>by rw[z,hn]at r;cases r)];exact r
 ·have r:=I.base.frzs b ob xs q;rw[qal (λz=>by rw[z,hn]at r;cases r)];exact r
 ·obtain⟨more,r⟩:=I.base.tbls b ps q;exact⟨more,by rw[qal (λz=>by rw[z,hn]at r;cases r)];exact r⟩
 ·rw[qal (Ne.symm hL)];exact I.free
 ·rw[qal (hc x c e)];exact I.freeC x c e
 ·obtain⟨q1,q2,q3,q4,q5⟩:=I.pin p z;exact⟨q1,by rw[qal (hp p z)];exact q2,q3,q4,q5⟩
end
mutual
inductive DIn(H:Hp):V->PySem.W.Dat->Prop
 | non:DIn H .non .none
 | int (i):DIn H (.int i) (.int i)
 | str (x):DIn H (.str x) (.str x)
 | tup {a xs ds}:H a=some (.tup xs)->DAll H xs ds->DIn H (.ref a) (.tuple ds)
 | lst {a xs ds}:H a=some (.lst xs)->DAll H xs ds->DIn H (.ref a) (.list ds)
inductive DAll(H:Hp):List V->List PySem.W.Dat->Prop
 | nil:DAll H [] []
 | cons {x d xs ds}:DIn H x d->DAll H xs ds->DAll H (x::xs) (d::ds)
end
section
variable{P:Program}{w:World}{H:Hp}{h:Heap}
mutual
theorem qcK(ok:HOk P w H h):∀{v:V} {d:PySem.W.Dat} {u:Value} (n:Nat),DIn H v d->RelV v u->PySem.W.kqdOk n d=true->∃as,Reads h u (PySem.W.kqdP d) as
 | _,_,_,_,.non,r,_=>by cases r;exact⟨_,Reads.none⟩
 | _,_,_,_,.int i,r,_=>by obtain⟨t,rfl⟩:=r;exact⟨_,Reads.int i t⟩
 | _,_,_,_,.str x,r,_=>by obtain⟨t,rfl⟩:=r;exact⟨_,Reads.str x t⟩
 | _,_,_,0,.tup _ _,_,hk=>by simp[PySem.W.kqdOk]at hk
 | _,_,_,0,.lst _ _,_,hk=>by simp[PySem.W.kqdOk]at hk
 | _, _, _, n + 1, .tup (a := a) e q, r, hk => by
   cases r
   obtain⟨_,its,rv,o,e1,e2,k,e3⟩:=ok a _ e
   obtain⟨as,z⟩:=qdH ok n q rv (by simpa[PySem.W.kqdOk]using hk)
   rw[PySem.W.kqdP]
   exact⟨as,reads_tuple_at e1 e2 e3 (by simpa using z)⟩
 | _, _, _, n + 1, .lst (a := a) e q, r, hk => by
   cases r
   obtain⟨_,its,k,rv,e1⟩:=ok a _ e
   obtain⟨as,z⟩:=qdH ok n q rv (by simpa[PySem.W.kqdOk]using hk)
   rw[PySem.W.kqdP]
   exact⟨_,reads_list_at e1 rfl rfl (by simpa using z)⟩
theorem qdH(ok:HOk P w H h):∀{vs:List V} {ds:List PySem.W.Dat} {us:List Value} (n:Nat),DAll H vs ds->Vals vs us->(∀d∈ds,PySem.W.kqdOk n d=true)->∃as,ReadsAll h us (PySem.W.kqdPs ds) as
 | _,_,_,_,.nil,r,_=>by cases r;exact⟨_,ReadsAll.nil⟩
 | _, _, _, n, .cons q qs, r, hk => by
   cases r with
   | cons r1 r2 =>
     obtain⟨as,z⟩:=qcK ok n q r1 (hk _ (.head _))
     obtain⟨bs,y⟩:=qdH ok n qs r2 λd hd=>hk d (.tail _ hd)
     rw[PySem.W.kqdPs]
     exact⟨_,ReadsAll.cons z y⟩
end
end
theorem qhR{d e:PySem.W.Dat}{n k:Nat}(h1:PySem.W.kqdOk n d=true)(h2:PySem.W.kqdOk k e=true)[Decidable (d=e)]:PyData.eqv (PySem.W.kqdP d) (PySem.W.kqdP e)=decide (d=e):=by
 have q:=PySem.W.kqd_eqv n d e k h1 h2
 by_cases z:d=e
 ·rw[qC z];exact q.mpr z
 ·rw[qB z];exact vS.mpr λx=>z (q.mp x)
theorem qcV{d:PySem.W.Dat}(h:PySem.W.kqdOk 9 d=true):SeqAt.shaped (PySem.W.kqdP d)=true:=by
 have q:=PySem.W.kqd_lay 9 d h;unfold SeqAt.shaped;rw[q.1,xG];exact qC (qS q.2 (by decide))
section
variable{X:Cx}
open Classical in
def rEqD(neg:Bool):R2:=λx y H Q=>∃d e,DIn H x d/\DIn H y e/\PySem.W.kqdOk 9 d=true/\PySem.W.kqdOk 9 e=true/\Q (.bl (if neg=true then !decide (d=e)else decide (d=e))) H
open Classical in
theorem op_eqD(hu:X.A.units+64<cLine):OpR X (compareOp .Eq) (rEqD false):=by
 intro pins s σ H x y v u Q I rx ry h;obtain⟨d,e,h1,h2,k1,k2,q⟩:=h;obtain⟨as,r1⟩:=qcK I.hok 9 h1 rx k1;obtain⟨bs,r2⟩:=qcK I.hok 9 h2 ry k2;exact eq_dataH r1 r2 (qcV k1) (qcV k2) hu (qa4 I q (by rw[qhR k1 k2];simp))
open Classical in
theorem op_neD(hu:X.A.units+64<cLine):OpR X (compareOp .NotEq) (rEqD true):=by
 intro pins s σ H x y v u Q I rx ry h;obtain⟨d,e,h1,h2,k1,k2,q⟩:=h;obtain⟨as,r1⟩:=qcK I.hok 9 h1 rx k1;obtain⟨bs,r2⟩:=qcK I.hok 9 h2 ry k2;exact ne_dataH r1 r2 (qcV k1) (qcV k2) hu (qa4 I q (by rw[qhR k1 k2];simp))
def CDivL(i j:Int):Prop:=0<j/\j<18446744073709551616
theorem op_fdivL:OpR X (binaryOp .FloorDiv) (rI CDivL λi j=>.int (i / j)):=opI λi j _ _ _ _ _ hc q=>by
 have h1:(0:Int)<j:=hc.1;have h2:j<18446744073709551616:=hc.2;refine floordiv_int (by omega) ?_ (.inl (PyProof.noPylong_of_log2 ?_))
 ·rw[Int.fdiv_eq_ediv_of_nonneg i (by omega)];exact q
 ·have h3:j.natAbs<2 ^ 64:=by omega
  exact rB ((Nat.log2_lt (by omega)).mpr h3) (by decide)
theorem call_isinst:qdT X (.builtin "isinstance") (λxs H Q=>∃x c t b,xs=[x,c]/\TyOf X.K H x t/\(∃cv,(∀u,RelV c u->u=cv)/\PySem.W.kitOne X.K t cv=some b)/\Q (.bl b) H):=by
 intro pins s σ H xs us Q I r h;obtain⟨x,c,t,b,rfl,ty,⟨cv,hcv,e⟩,q⟩:=h;obtain⟨u,w',rfl,r1,r2⟩:=qiv r;obtain rfl:=hcv _ r2;exact isinst_ok I r1 ty e λtk=>⟨.bl b,H,I.tok _,rfl,q⟩
theorem qcP(hc:X.calm=true):qdT X (.builtin "all") (λxs H Q=>∃(p:Addr) (bs:List Bool),xs=[.ref p]/\SqL X.K H p (bs.map V.bl)/\Q (.bl (bs.all id)) H):=by
 intro pins s σ H xs us Q I r h;obtain⟨p,bs,rfl,hp,q⟩:=h;obtain⟨u,rfl,rx⟩:=qfx r;cases rx;obtain⟨its,rv,pl,hz⟩:=I.list hp;have hh:=I.ok.hd hc;refine call_all_walk (vW pl.isList ?_);have lp:p<s.heap.objs.size:=by
  obtain⟨o,e,_⟩:=pl.isList;exact qW e
 have atB:∀(i:Nat) (v:Value),its.toArray[i]?=some v->v=.bool (bs.getD i false):=λi v e=>by
  have e':its[i]?=some v:=by simpa using e
  cases z:bs[i]? with
  | none =>
    have h1:=rv.length
    rw[qA]at h1
    have h2:=(qI.mp e').1
    have h3:=List.getElem?_eq_none_iff.mp z
    omega
  | some b =>
    obtain⟨u,e2,r2⟩:=rv.get (i:=i) (x:=.bl b) (by rw[qR,z];rfl)
    rw[e']at e2
    cases e2
    cases r2
    rw[xF,z]
    rfl
 refine⟨s.heap.objs.size,_,_,_,_,_,λi=>bs.getD i false,rfl,Walks.list (by simpa using hh) s.heap.objs.size p (rJ lp) its.toArray,⟨⟨_,rE _ rfl,rfl,rfl⟩,pl.isList.push _⟩,λi v s' Q' E' e hq=>?_,λh' tk k=>?_⟩
 ·rw[atB i v e];exact xP hq
 ·have ev:(List.range its.toArray.size).all (λi=>bs.getD i false)=bs.all id:=by
   have hl:its.toArray.size=bs.length:=by rw[qZ,<-rv.length,qA]
   rw[hl];rw[r9];simp only[List.all_eq_true,List.mem_range,id];constructor
   ·intro z x hx;obtain⟨i,hi,e⟩:=List.mem_iff_getElem.mp hx;have:=z i hi;rw[xF,qG hi,e]at this;exact this
   ·intro z i hi;rw[xF,qG hi];exact z _ (yV hi)
  rw[ev];exact⟨.bl (bs.all id),H,I.kept λb o e=>k b o (by simpa using rJ (qW e)) (qL _ e),rfl,q⟩
end
end L2
namespace Bk
open PySem
inductive Kd
 | body | case | shelf | grid | text | head | picture | aside | note | leaf | no
 deriving DecidableEq
def Kd.s:Kd->Str
 | .body=>Str.ofString "body"
 | .case=>Str.ofString "case"
 | .shelf=>Str.ofString "shelf"
 | .grid=>Str.ofString "grid"
 | .text=>Str.ofString "text"
 | .head=>Str.ofString "head"
 | .picture=>Str.ofString "picture"
 | .aside=>Str.ofString "aside"
 | .note=>Str.ofString "note"
 | .leaf=>Str.ofString "leaf"
 | .no=>Str.ofString ""
theorem Kd.inj(a b:Kd):(a.s=b.s)=(a=b):=by
 cases a<;>cases b<;>first | exact propext ⟨λ_=>rfl,λ_=>rfl⟩ | exact propext ⟨λh=>absurd h (by ac_rfl),λh=>by cases h⟩
inductive So
 | word | page | note | sign
 deriving DecidableEq
def So.s:So->Str
 | .word=>Str.ofString "word"
 | .page=>Str.ofString "page"
 | .note=>Str.ofString "note"
 | .sign=>Str.ofString "sign"
theorem So.inj(a b:So):(a.s=b.s)=(a=b):=by
 cases a<;>cases b<;>first | exact propext ⟨λ_=>rfl,λ_=>rfl⟩ | exact propext ⟨λh=>absurd h (by ac_rfl),λh=>by cases h⟩
inductive Th
 | int (n:Int) | tri (s:So) (x:Sum Str Int) (t:Int)
structure Nd where
 e:Int
 k:Kd
 nm:Str
 mks:List Str
 st:List Th
def wordSigns:List Nat:=[97,98,99,100,101,102,103,104,105,106,107,108,109,110,111,112,113,114,115,116,117,118,119,120,121,122,
 65,66,67,68,69,70,71,72,73,74,75,76,77,78,79,80,81,82,83,84,85,86,87,88,89,90,48,49,50,51,52,53,54,55,56,57,46,44,45,59,58,39,40,41,33,63]
def qg2(c:Nat):Prop:=97<=c/\c<=122
def Word(w:Str):Prop:=1<=w.length/\w.length<=20/\∀c∈w.cps.toList,c∈wordSigns
def Name(n:Str):Prop:=1<=n.length/\n.length<=8/\∀c∈n.cps.toList,qg2 c
def isNote:Th->Bool
 | .tri .note _ _=>true
 | _=>false
def PcOk:Th->Prop
 | .tri .word (.inl w) t=>Word w/\0<=t/\t<=3
 | .tri .page (.inl n) t=>Name n/\0<=t/\t<=3
 | .tri .note (.inr k) t=>0<=k/\k<=60/\t=0
 | _=>False
def noteNum:Th->Option Int
 | .tri .note (.inr k) _=>some k
 | _=>none
def qaw(l:List Th):List Int:=l.filterMap noteNum
def mayHold:Kd->Kd->Bool
 | .body,.case | .body,.shelf | .body,.grid | .body,.text | .body,.head | .body,.picture | .body,.aside=>true
 | .case,.case | .case,.shelf | .case,.grid | .case,.text | .case,.head | .case,.picture | .case,.aside=>true
 | .shelf,.case | .shelf,.shelf | .shelf,.grid | .shelf,.text | .shelf,.picture=>true
 | .grid,.case | .grid,.shelf | .grid,.grid | .grid,.text | .grid,.picture=>true
 | .text,.note | .head,.note=>true
 | .aside,.case | .aside,.shelf | .aside,.grid | .aside,.text | .aside,.head | .aside,.picture=>true
 | _,_=>false
def ofPieces:Kd->Bool
 | .text | .head | .note=>true
 | _=>false
def qiK(l:List Str):Prop:=l.length<=4/\(∀m∈l,Name m)/\l.Pairwise λa b=>a.cps.toList<b.cps.toList
def Stuff:Kd->List Th->Prop
 | .picture,l=>∃a b:Int,l=[.int a,.int b]/\1<=a/\a<=2000/\1<=b/\b<=2000
 | .text,l | .head,l | .note,l=>(∀x∈l,PcOk x)/\(∃x r,l=x::r/\isNote x=false)/\l.length<=60
 | _,l=>l=[]
def noName:Str:=Str.ofString ""
structure Form(d:Nd):Prop where
 nm:d.nm=noName\/Name d.nm
 mks:qiK d.mks
 st:Stuff d.k d.st
end Bk
namespace L2
open PySem
theorem qab{H:Hp}{p:Addr}(h:H p=none)(o:HO):Same H (upd H p o):=λb u q=>by rw[qal (qar q h)];exact q
def KeepN(N:Addr->Prop)(H H':Hp):Prop:=∀b o,N b->H b=some o->H' b=some o
theorem KeepN.trans{N:Addr->Prop}{H H1 H2:Hp}(a:KeepN N H H1)(b:KeepN N H1 H2):KeepN N H H2:=λc o n h=>b c o n (a c o n h)
theorem KeepN.mono{N N':Addr->Prop}{H H1:Hp}(a:KeepN N H H1)(h:∀b,N' b->N b):KeepN N' H H1:=λc o n e=>a c o (h c n) e
theorem Same.keep{N:Addr->Prop}{H H':Hp}(s:Same H H'):KeepN N H H':=λb o _ e=>s b o e
theorem KeepN.refl{N:Addr->Prop}{H:Hp}:KeepN N H H:=λ_ _ _ e=>e
end L2
namespace Bk
open PySem L2
def thV:Sum Str Int->V
 | .inl x=>.str x
 | .inr k=>.int k
def ItAt(N:Addr->Prop)(H:Hp)(v:V):Th->Prop
 | .int n=>v=.int n
 | .tri s x t=>∃a,v=.ref a/\N a/\H a=some (.tup [.str s.s,thV x,.int t])
theorem ItAt.keep{N N':Addr->Prop}{H H':Hp}{v:V}{x:Th}(h:ItAt N H v x)(k:KeepN N H H')(sub:∀b,N b->(H b).isSome=true->N' b):ItAt N' H' v x:=by
 cases x with
 | int n=>exact h
 | tri s x t =>
   obtain⟨a,e,n,g⟩:=h
   exact⟨a,e,sub a n (by rw[g];rfl),k _ _ n g⟩
def StAt(N:Addr->Prop)(H:Hp)(s:Addr)(l:List Th):Prop:=N s/\∃vs,H s=some (.lst vs)/\Paired (ItAt N H) vs l
structure NdAt(N:Addr->Prop)(H:Hp)(a:Addr)(d:Nd):Prop where
 na:N a
 ex:∃m s,H a=some (.tup [.int d.e,.str d.k.s,.str d.nm,.ref m,.ref s])/\N m/\H m=some (.lst (d.mks.map V.str))/\StAt N H s d.st
theorem StAt.keep{N N':Addr->Prop}{H H':Hp}{s:Addr}{l:List Th}(h:StAt N H s l)(k:KeepN N H H')(sub:∀b,N b->(H b).isSome=true->N' b):StAt N' H' s l:=by
 obtain⟨n,vs,g,p⟩:=h;exact⟨sub s n (by rw[g];rfl),vs,k _ _ n g,p.mono λv x q=>q.keep k sub⟩
theorem NdAt.keep{N N':Addr->Prop}{H H':Hp}{a:Addr}{d:Nd}(h:NdAt N H a d)(k:KeepN N H H')(sub:∀b,N b->(H b).isSome=true->N' b):NdAt N' H' a d:=by
 obtain⟨na,m,s,g,nm,gm,st⟩:=h;exact⟨sub a na (by rw[g];rfl),m,s,k _ _ na g,sub m nm (by rw[gm];rfl),k _ _ nm gm,st.keep k sub⟩
abbrev NdsAt(N:Addr->Prop)(H:Hp)(as:List Addr)(ds:List Nd):Prop:=Paired (NdAt N H) as ds
theorem NdsAt.keep{N N':Addr->Prop}{H H':Hp}{as:List Addr}{ds:List Nd}(h:NdsAt N H as ds)(k:KeepN N H H')(sub:∀b,N b->(H b).isSome=true->N' b):NdsAt N' H' as ds:=h.mono λa d q=>q.keep k sub
theorem NdsAt.get{N:Addr->Prop}{H:Hp}{as:List Addr}{ds:List Nd}(h:NdsAt N H as ds){i:Nat}{d:Nd}(e:ds[i]?=some d):∃a,as[i]?=some a/\NdAt N H a d:=by
 induction h generalizing i with
 | nil=>cases e
 | @cons a b l1 l2 q t ih =>
   cases i with
   | zero=>cases e;exact⟨a,rfl,q⟩
   | succ i=>exact ih (by simpa using e)
theorem NdsAt.at{N:Addr->Prop}{H:Hp}{as:List Addr}{ds:List Nd}(h:NdsAt N H as ds){i:Nat}{a:Addr}(e:as[i]?=some a):∃d,ds[i]?=some d/\NdAt N H a d:=by
 induction h generalizing i with
 | nil=>cases e
 | @cons a b l1 l2 q t ih =>
   cases i with
   | zero=>cases e;exact⟨b,rfl,q⟩
   | succ i=>exact ih (by simpa using e)
theorem NdsAt.append{N:Addr->Prop}{H:Hp}{as bs:List Addr}{ds es:List Nd}(p:NdsAt N H as ds)(h:NdsAt N H bs es):NdsAt N H (as++bs) (ds++es):=by
 induction p with
 | nil=>exact h
 | cons q t ih=>exact .cons q ih
def BookAt(N:Addr->Prop)(H:Hp)(p:Addr)(ds:List Nd):Prop:=∃as,H p=some (.lst (as.map V.ref))/\NdsAt N H as ds
theorem qa6{as:List Addr}{i:Nat}{a:Addr}(e:as[i]?=some a):atI (as.map V.ref) ((i:Nat):Int)=some (.ref a):=qbL (by rw[qR,e];rfl)
end Bk
namespace L2
open PySem PySem.Spec PyProof.Rows
theorem b_enumerate:bootBuiltins "enumerate" = some (.type "enumerate"):=by ac_rfl
section
variable{X:Cx}{pins:List (Addr×Obj)}{σ:St}{H:Hp}{s:Shared}{h':Heap}{fp:List Addr}
theorem Inv.moved{t':Nat}(I:Inv X pins σ H s)(hf:∀b∈fp,FpOk X pins H b)(k:∀b o,b∉fp->s.heap.get? b=some o->h'.get? b=some o):Inv X pins σ H {s with heap:=h',toks:=t'}:=by
 refine I.step (g':=s.gens) (d':=s.drawn) (ch:=fp) (λb hb=>?_) (λb o _ _ hc e _=>k b o hc e) (λb o _ _ hc e _=>⟨o.slots,k b o hc e⟩) (λ_ _ _ _ n=>n) (λb o hc e=>⟨o,k b o hc e⟩) (λ_ _ q=>q) (λ_ _ _ q=>q) (λb ps q=>⟨#[],by rw[q];simp⟩) (λm hn=>?_) (λa u q=>?_) I.bare
 ·obtain⟨_,f1,_,f3,f4,f5⟩:=hf b hb;exact⟨f3,f1,f4,f5⟩
 ·obtain⟨o,es,ep,e,r⟩:=hn;exact⟨o,es,ep,k _ _ (λz=>(hf _ z).2.1 rfl) e,r⟩
 ·refine(I.hok a u q).stay (λb v hb e=>k b v (λz=>?_) e) (λ_ z=>z) λ_ _ z=>z
  have:=(hf b z).1;rcases hb with rfl | hb
  ·rw[q]at this;cases this
  ·rw[hb]at this;cases this
end
def Ite(K:W.Frag)(a:Addr):It :=
 ⟨λi H=>∃xs x,SqL K H a xs/\xs[i]?=some x,λi H x H'=>∃T y,H T=none/\x=.ref T/\H'=upd H T (.tup [.int (i:Nat),y])/\∀xs,SqL K H a xs->xs[i]?=some y,λi H=>∃xs,SqL K H a xs/\xs.length<=i⟩
theorem turn_enum{P:Program}{w:World}{K:W.Frag}{elts:List Expr}{k1:Nat}{tp:Pos}(a e it:Addr)(hei:e≠it):Turn P w K (.Tuple elts k1 tp) (Ite K a) [e,it] e (λi h=>(∃old,IsEnum h e it ((i:Nat):Int) old)/\h.IsListIter it a i) where
 mem:=by simp
 obj:=λi h st b hb=>by
  obtain⟨⟨old,x⟩,o,e1,c,d⟩:=st;rcases qV.mp hb with rfl | hb
  ·exact⟨_,x,λv z=>by cases z⟩
  ·have:b=it:=by simpa using hb
   subst this;exact⟨o,e1,λv z=>by rw[d]at z;cases z⟩
 keep:=λi h h' st k=>by
  obtain⟨⟨old,x⟩,y⟩:=st;exact⟨⟨old,k e (by simp) _ x⟩,y.at λo z=>k it (by simp) o z⟩
 item:=by
  intro X hP hw hK hc i pins s σ H E I hf st hg;subst hP hw hK;obtain⟨xs,x,hq,hx⟩:=hg;obtain⟨⟨old,st1⟩,st2⟩:=st;obtain⟨its,rv,p,hz⟩:=I.list hq;obtain⟨u,hu,ru⟩:=rv.get hx;refine wpAny_pyNext_enum_item st1 st2 p.isList (x:=u) (by simpa using hu) hei λh' ho hit' hT hsz hk=>?_
  refine⟨_,rfl,wpAny_letOwnedTupleGo_enum ho λh2 he2 sb=>?_⟩;have k2:∀b o,b∉[e,it]->s.heap.get? b=some o->h2.get? b=some o:=λb o hb z=>(sb.2 b (λq=>hb (by simp[q]))).trans (hk b o (λq=>hb (by simp[q])) (λq=>hb (by simp[q])) z)
  have elt:e<s.heap.objs.size:=qW st1;have ilt:it<s.heap.objs.size:=by obtain⟨o,z,_⟩:=st2;exact qW z
  have gT:h2.get? s.heap.objs.size=some {cls:=.type "tuple",data:=.seq #[.int i s.toks,u]}:=(sb.2 _ (uC elt)).trans hT;have I1:Inv X pins σ H {s with heap:=h2,toks:=s.toks+1}:=I.moved hf k2;have hn:H s.heap.objs.size=none:=I.hok.fresh (qN _);refine⟨.ref s.heap.objs.size,upd H s.heap.objs.size (.tup [.int (i:Nat),x]),I1.track ?_ hn (uC I.lt) (λy c ec z=>?_) (λq hq z=>?_) ?_,rfl,⟨s.heap.objs.size,x,hn,rfl,rfl,λys hy=>by rw[I.list_inj hy hq];exact hx⟩,⟨⟨u,?_⟩,hit'.at λo z=>(sb.2 it (Ne.symm hei)).trans z⟩,λb hb=>?_⟩
  ·cases z:X.s₀.heap.get? s.heap.objs.size with
   | none=>rfl
   | some u=>exact absurd (rB (qW z) I.sz) (rW _)
  ·obtain⟨v,q⟩:=I.cell y c ec;exact absurd q.lt (by rw[z];exact rW _)
  ·exact absurd (qW (I.pin q hq).1) (by rw[z];exact rW _)
  ·exact⟨by show 2<=sizeLine;decide,[.int i s.toks,u],.cons ⟨_,rfl⟩ (.cons ru .nil),_,gT,rfl,_,rfl⟩
  ·simpa using he2
  ·rw[qal (λz=>by
    have:=hb;rw[z]at this;rcases qV.mp this with q | q
    ·exact absurd elt (by rw[<-q];exact rW _)
    ·have q':s.heap.objs.size=it:=by simpa using q
     exact absurd ilt (by rw[<-q'];exact rW _))]
   exact(hf b hb).1
 done:=by
  intro X hP hw hK hc i pins s σ H E I hf st hg;subst hP hw hK;obtain⟨xs,hq,hx⟩:=hg;obtain⟨⟨old,st1⟩,st2⟩:=st;obtain⟨its,rv,p,hz⟩:=I.list hq;have hl:=rv.length;exact wpAny_pyNext_enum_end (I.ok.hd hc) st1 st2 p.isList (by simp;omega) λh' eb=>⟨rfl,I.moved (t':=s.toks) hf λb o hb z=>eb b o (λq=>hb (by simp[q])) z⟩
 self:=λ_ _ _ _ _ st h=>by
  obtain⟨⟨old,x⟩,_⟩:=st;exact wpAny_pyIter_enum x h
def Its(x:Str):It:=⟨λi _=>i<x.cps.size,λi H v H'=>H'=H/\∃c,x.cps[i]?=some c/\v=.str ⟨#[c]⟩,λi _=>x.cps.size<=i⟩
section
variable{X:Cx}{tg:Expr}
def iEnum(K:W.Frag)(ta:TA):TI:=λσ H R=>ta σ H λvs H1=>∃a,vs=[.ref a]/\(∃xs,SqL K H1 a xs)/\R (Ite K a) H1
theorem qeL{a:Expr}{ta:TA}{p pos tp:Pos}{elts:List Expr}{k1:Nat}(hg:Gl X "enumerate")(hm:X.mg "enumerate" = none)(ha:PA X [a] ta)(hs:starEach [a] X.env=[(false,eval a X.env)]:=by rfl):PI X (.Tuple elts k1 tp) (.Call (.Name "enumerate" p) [a] [] pos) (iEnum X.K ta):=by
 intro pins s σ H R I h;refine Call_ (qdz I hg hm b_enumerate (xD (thn (ha pos pins s σ H _ I h) λus s1 ⟨vs,H1,I1,r1,q1⟩=>?_) hs rfl));obtain⟨l,e,⟨xs,hq⟩,q⟩:=q1;subst e;cases r1 with
 | cons r rr =>
   cases rr
   cases r
   obtain⟨its,rv,pl,hz⟩:=I1.list hq
   refine call_enumerate_list pl.isList λh' he hit hsz kp=>?_
   refine wpAny_pyIter_enum he ?_
   have I2:Inv X pins σ H1 {s1 with heap:=h'}:=I1.kept (t':=s1.toks) kp
   refine⟨s1.heap.objs.size+1,[s1.heap.objs.size+1,s1.heap.objs.size],_,_,H1,rfl,I2,turn_enum l _ _ (uC (xK _)),⟨⟨_,by simpa using he⟩,hit⟩,λb hb=>?_,q⟩
   rcases qV.mp hb with rfl | hb
   · exact I1.fpOk (uB _) (I1.hok.fresh (uB _))
   · have:b=s1.heap.objs.size:=by simpa using hb
     subst this
     exact I1.fpOk (qN _) (I1.hok.fresh (qN _))
end
end L2
namespace L2
open PySem PySem.Spec
section
variable{κ:Type}[DecidableEq κ]
def one1(l:List κ)(v:κ):List κ:=if v∈l then l else l++[v]
def met(val:Nat->κ)(i:Nat):List κ:=((List.range i).map val).foldl one1 []
theorem qfb(val:Nat->κ)(i:Nat):met val (i+1)=one1 (met val i) (val i):=by
 unfold met;rw[u9,qT,List.foldl_append];rfl
theorem qis(val:Nat->κ):∀i,(met val i).length<=i
 | 0=>qN _
 | i + 1 => by
   rw[qfb]
   unfold one1
   have:=qis val i
   split
   · omega
   · rw[qD,xU];omega
theorem qhe(l:List κ)(v k:κ):decide (k∈one1 l v)=(decide (k∈l) || decide (k=v)):=by
 unfold one1
 by_cases z:v∈l
 ·rw[if_pos z]
  by_cases e:k=v
  ·subst e;simp[z]
  ·simp[e]
 ·rw[if_neg z];simp
theorem qgT(l:List κ)(v:κ):(one1 l v).length=if decide (v∈l)=true then l.length else l.length+1:=by
 unfold one1
 by_cases z:v∈l
 ·simp[z]
 ·simp[z]
theorem qgL{prog:Program}{w:World}{knd:KeyKind prog w κ}{h:Heap}{a:Addr}{S S':κ->Bool}{n n':Nat}(x:h.SetOf knd a S n)(e:∀k,S k=S' k)(en:n=n'):h.SetOf knd a S' n':=by
 obtain rfl:S=S':=funext e;exact en ▸ x
end
section
variable{prog:Program}{w:World}{A:Around}{E:Value->Shared->Prop}{s:Shared}{κ:Type}[DecidableEq κ]{knd:KeyKind prog w κ}
abbrev qbN(led:Bool):Obj:={cls:=.type "set",dict:=none,data:=.set #[] 0 (.fresh 0 0 led)}
end
end L2
namespace L2
open PySem
def NotPlain(w:World)(h:Heap)(a:Addr):Prop:=∃o es ep t,h.get? a=some o/\o.data=.set es ep t/\(t.plain=false\/es.size=0)/\t.led=!(w.params.followText "set-order")
theorem stand_led(t:SetTable)(n:Nat):(t.orStandIn n).led=t.led:=by
 unfold SetTable.orStandIn
 split<;>rfl
theorem lay_led(t:SetTable)(es:Array (Int×Value))(h:Int)(x:Value):(layNew t es h x).2.1.led=t.led:=by
 unfold layNew
 split
 ·exact stand_led _ _
 ·rfl
theorem relay_led(t:SetTable)(es:Array (Int×Value))(n:Nat):(relayAll t es n).2.1.led=t.led:=by
 unfold relayAll;cases e:t.relaid (es.map (·.1)) n with
 | none=>rfl
 | some r =>
   obtain⟨t',order⟩:=r
   dsimp only
   split
   · unfold SetTable.relaid SetTable.laid at e
     cases e1:SetTable.layClean (SetTable.sizeAbove n-1) (es.map (·.1))with
     | none=>rw[e1]at e;cases e
     | some ow =>
       rw[e1]at e
       cases e
       rfl
   · rfl
theorem relay_plain(t:SetTable)(es:Array (Int×Value))(n:Nat)(h:t.plain=false):(relayAll t es n).2.1.plain=false:=by
 unfold relayAll;cases e:t.relaid (es.map (·.1)) n with
 | none=>rfl
 | some r =>
   obtain⟨t',order⟩:=r
   dsimp only
   split
   · unfold SetTable.relaid SetTable.laid at e
     cases e1:SetTable.layClean (SetTable.sizeAbove n-1) (es.map (·.1))with
     | none=>rw[e1]at e;cases e
     | some ow =>
       rw[e1]at e
       cases e
       exact h
   · rfl
section
variable{prog:Program}{w:World}{A:Around}{E:Value->Shared->Prop}{s:Shared}{κ:Type}[DecidableEq κ]{knd:KeyKind prog w κ}
theorem qgR{g:Bool->Sem Unit}(hg:∀ (b:Bool) (s1:Shared) (Q1:Unit->Shared->Prop),Q1 () s1->wpAny (model prog w) A (g b) Q1 E s1){a:Addr}{o:Obj}{es:Array (Int × Value)}{ep:Nat}{t:SetTable}(ho:s.heap.get? a=some o)(hex:o.ExactSet)(hd:o.data=.set es ep t){es1:Array (Int × Value)}{t2:SetTable}{S':κ->Bool}(hel:ElemsOf knd es1.toList)(hme:∀ k',S' k'=true↔∃ e∈es1.toList,knd.is k' e.2=true)(hb:es1.size < scanBound)(hf:t2.fits es1.size=true)(hp2:t2.plain=false)(hl2:t2.led=!(w.params.followText "set-order")){dm:Bool}{R:Option Bool->Shared->Prop}(fin:∀ h',Heap.SameBut a s.heap h'->h'.SetOf knd a S' es1.size->NotPlain w h' a->R (some true) { s with heap:=h' }) :
  wpAny (model prog w) A (do
   storeSet a es1 t2
   if (!dm && t2.tooFull)=true then do
       g (relayAll t2 es1 (SetTable.grown es1.size)).2.2
       storeSet a (relayAll t2 es1 (SetTable.grown es1.size)).1 (relayAll t2 es1 (SetTable.grown es1.size)).2.1
       pure (some true)
    else pure (some true)) R E s:=by
 obtain ⟨g1,x1⟩:=SetOf_store (knd:=knd) ho hex hd hel hme hb hf
 have b1:=Heap.SameBut.update s.heap a (Obj.putSet es1 t2)
 refine qE (wpAny_storeSet_of ho hd ?_ (fits_of_scanBound hb))
 by_cases full:(!dm && t2.tooFull)=true
 ·rw [if_pos full]
  have pm:=relayAll_perm t2 es1 (SetTable.grown es1.size)
  have ft:=relayAll_fits t2 es1 (SetTable.grown es1.size)
  have pl:=relay_plain t2 es1 (SetTable.grown es1.size) hp2
  have ld:=relay_led t2 es1 (SetTable.grown es1.size)
  generalize relayAll t2 es1 (SetTable.grown es1.size)=Z at pm ft pl ld ⊢
  obtain ⟨es2,t3,gv⟩:=Z
  dsimp only at pm ft pl ld ⊢
  have sz:es2.size=es1.size:=by simpa using pm.length_eq
  have hb2:es2.size < scanBound:=by omega
  refine qE (hg gv _ _ ?_)
  refine qE (wpAny_storeSet_of g1 rfl ?_ (fits_of_scanBound hb2))
  obtain ⟨g2,x2⟩:=SetOf_store (knd:=knd) (S':=S') g1 hex rfl (hel.perm pm) (λk'=>(hme k').trans ⟨λz=>⟨z.choose,pm.mem_iff.mpr z.choose_spec.1,z.choose_spec.2⟩,λz=>⟨z.choose,pm.mem_iff.mp z.choose_spec.1,z.choose_spec.2⟩⟩) hb2 ft
  rw [sz] at x2
  exact qU (fin _ (b1.trans (Heap.SameBut.update _ a _)) x2 ⟨_,_,_,_,g2,rfl,.inl pl,ld.trans hl2⟩)
 ·rw [if_neg full]
  exact qU (fin _ b1 x1 ⟨_,_,_,_,g1,rfl,.inl hp2,hl2⟩)
theorem set_add{a:Addr}{S:κ->Bool}{n:Nat}{k:κ}{x:Str}{tk:Tok}{Q:Bool->Shared->Prop}(hkey:knd.is k (.str x tk)=true)(hS:s.heap.SetOf knd a S n)(hP:NotPlain w s.heap a)(room:n+1<scanBound)(fin:∀h',Heap.SameBut a s.heap h'->h'.SetOf knd a (λk'=>S k' || decide (k'=k)) (if S k then n else n+1)->NotPlain w h' a->Q (!S k) {s with heap:=h'}) :
  wpAny (model prog w) A (setAddHashed a (.str x tk) (knd.hash k)) Q E s:=by
 obtain⟨o,es,ep,t,ho,hex,hd,hel,hme,hb,hf,hn⟩:=hS;unfold setAddHashed setAddHashedIn;refine yJ (qE (xO ho hd hf ?_));dsimp only;rw[byScan_of (x:=.str x tk) rfl hb hel,if_pos rfl];unfold setAddByScan;refine qE (qE (wpAny_rule (qE (wpAny_setScan_of hkey ho hd hf hel ?_))));cases there:List.findIdx? (λe=>knd.is k e.2) es.toList with
 | some j =>
   dsimp only
   obtain⟨hj,hpj,_⟩:=List.findIdx?_eq_some_iff_getElem.mp there
   have yes:S k=true:=(hme k).mpr ⟨_,yV hj,hpj⟩
   refine qU (qU ?_)
   have q:=fin s.heap (Heap.SameBut.refl a s.heap) ⟨o,es,ep,t,ho,hex,hd,hel,λk'=>?_,hb,hf,by rw[if_pos yes];exact hn⟩ hP
   · rw[yes]at q
     exact q
   · rw[<-hme k',wC,decide_eq_true_eq]
     constructor
     · rintro(z | rfl)
       · exact z
       · exact yes
     · exact .inl
 | none =>
   dsimp only
   have no:S k=false:=vS.mpr λz=>by
     obtain⟨e,he,hp⟩:=(hme k).mp z
     exact absurd hp (by rw[List.findIdx?_eq_none_iff.mp there e he];exact qF)
   have pm:=layNew_perm t es (knd.hash k) (.str x tk)
   have ft:=layNew_fits t es (knd.hash k) (.str x tk)
   have ld:=lay_led t es (knd.hash k) (.str x tk)
   have ld0:t.led=!(w.params.followText "set-order"):=by
     obtain⟨o',es',ep',t',e1,e2,_,e3⟩:=hP
     rw[ho]at e1
     cases e1
     rw[hd]at e2
     cases e2
     exact e3
   rw[ld0]at ld
   generalize layNew t es (knd.hash k) (.str x tk)=Z at pm ft ld⊢
   obtain⟨es1,t1,dm,gv⟩:=Z
   dsimp only at pm ft ld⊢
   rw[Array.toList_push]at pm
   have sz:es1.size=n+1:=by
     have:=pm.length_eq
     rw[qD,yS,yS,hn]at this
     exact this
   have quiet:∀(b:Bool) (s1:Shared) (Q1:Unit->Shared->Prop),Q1 () s1->wpAny (model prog w) A (match b with | true=>rule "set.scan.the-table-gave-way" | false=>pure ()) Q1 E s1:=λb s1 Q1 q=>by
     cases b with
     | true=>exact wpAny_rule q
     | false=>exact qU q
   have last:∀h',Heap.SameBut a s.heap h'->h'.SetOf knd a (λk'=>S k' || decide (k'=k)) es1.size->NotPlain w h' a->Q true {s with heap:=h'}:=λh' sb x' np=>by
     have q:=fin h' sb
     rw[no,if_neg qF,<-sz]at q
     exact q x' np
   refine qE (quiet _ _ _ ?_)
   have el1:ElemsOf knd es1.toList:=(hel.push hkey rfl).perm pm
   have me1:=λk'=>mem_push_iff hkey hme pm k'
   have hb1:es1.size<scanBound:=by omega
   cases pl:t1.plain with
   | true =>
     rw[if_pos rfl,hashByValue_scannable 8 (x:=.str x tk) rfl]
     refine qE (qU ?_)
     refine qgR quiet ho hex hd el1 me1 hb1 (t2:={t1 with plain:=false}) (SetTable.fits_plain_off ft) rfl ld λh' sb x' np=>?_
     exact qU (last h' sb x' np)
   | false =>
     rw[if_neg qF]
     refine qE (qU ?_)
     refine qgR quiet ho hex hd el1 me1 hb1 (t2:=t1) ft pl ld λh' sb x' np=>?_
     exact qU (last h' sb x' np)
end
end L2
namespace L2
open PySem PySem.Spec
theorem NotPlain.at{w:World}{h h':Heap}{a:Addr}(x:NotPlain w h a)(k:∀o,h.get? a=some o->h'.get? a=some o):NotPlain w h' a:=by
 obtain⟨o,es,ep,t,e,r⟩:=x;exact⟨o,es,ep,t,k _ e,r⟩
section
variable{prog:Program}{w:World}{A:Around}{E:Value->Shared->Prop}{s:Shared}
theorem set_new(a:Value){Q1:Value->Shared->Prop}(q:Q1 (.ref s.heap.objs.size) {s with heap:=s.heap.push (qbN (!(w.params.followText "set-order")))}) :
  codeAny (model prog w) A (.call (.builtin "set.__new__") ⟨[.type "set",a],[]⟩) (wants Q1 E) s:=by
 refine codeAny_of_tree ?_;show wpAny _ A.in1 (checkBuiltinCall "set.__new__" ⟨[.type "set",a],[]⟩>>=λ_=>again (.builtin "set.__new__" ⟨[.type "set",a],[]⟩)) _ _ s;refine qE (wpAny_of_eq (F.newCall_set_1 a) (qU ⟨uU F.plain_set_new _,uJ F.entry_set_new ?_⟩));rw[y8 F.plain_set_new _];unfold Builtin.«set.__new__» Builtin.Frozenset.newClass;have e1:=sub_set_self;obtain⟨h0,g0,d0,t0,o0⟩:=s;dsimp only
 wp_walk
 refine yB (qU ?_);dsimp only;simp only[newObj];exact qE (wpAny_alloc (qU (qU q)))
end
section
variable{prog:Program}{w:World}{A:Around}{R:Result->Shared->Prop}{J:Addr}{fp wr:List Addr}{G:Array GenState->Array GenState->Prop}{n:Nat}{P:Nat->Value->Prop}{St:Nat->Shared->Prop}{κ:Type}[DecidableEq κ]{knd:KeyKind prog w κ}
theorem upd_loopS(W:WalksS prog w A.in1 J fp wr G n P St)(S:Addr)(nS:S∉fp)(val:Nat->κ)(hv:∀i v,P i v->∃x t,v=.str x t/\knd.is (val i) (.str x t)=true)(hb:n+1<scanBound) :
  ∀(k i:Nat) (s:Shared),n-i=k->i<=n->St i s->s.heap.SetOf knd S (λq=>decide (q∈met val i)) (met val i).length->NotPlain w s.heap S ->
   (∀s',Moved (S::wr) G s s'->s'.heap.SetOf knd S (λq=>decide (q∈met val n)) (met val n).length->NotPlain w s'.heap S->R (.ok (.ret .none)) s') ->
   codeAny (model prog w) A (.builtin "set.update.loop" ⟨[.ref S,.ref J],[]⟩) R s:=by
 have nSw:S∉wr:=λq=>nS (W.sub _ q)
 have sub:∀b∈wr,b∈S::wr:=λb q=>qQ _ q
 intro k
 induction k with
 | zero =>
   intro i s hk hi st x np fin
   obtain rfl:i=n:=by omega
   refine uJ PyProof.Rows.F.entry_set_update_loop ?_
   rw[y8 yT _]
   show wpAny (model prog w) A.in1 (pyNext (.ref J)>>=_) _ _ s
   refine qE (W.done s _ _ st λs1 mv=>?_)
   show wpAny (model prog w) A.in1 (ret Value.none) _ _ s1
   refine qU (fin s1 (mv.mono sub) ?_ (np.at λo e=>mv.heap S _ nSw e))
   obtain⟨o,es,ep,tb,ho,r⟩:=x
   exact⟨o,es,ep,tb,mv.heap S _ nSw ho,r⟩
 | succ k ih =>
   intro i s hk hi st x np fin
   have lt:i<n:=by omega
   refine uJ PyProof.Rows.F.entry_set_update_loop ?_
   rw[y8 yT _]
   show wpAny (model prog w) A.in1 (pyNext (.ref J)>>=_) _ _ s
   refine qE (W.item i s _ _ lt st λv s1 hP st1 mv=>?_)
   obtain⟨tx,tt,rfl,kv⟩:=hv i v hP
   have np1:NotPlain w s1.heap S:=np.at λo e=>mv.heap S _ nSw e
   have x1:s1.heap.SetOf knd S (λq=>decide (q∈met val i)) (met val i).length:=by
     obtain⟨o,es,ep,tb,ho,r⟩:=x
     exact⟨o,es,ep,tb,mv.heap S _ nSw ho,r⟩
   show wpAny (model prog w) A.in1 (holding [Value.str tx tt] (setAdd S (Value.str tx tt))>>=_) _ _ s1
   refine qE (yJ ?_)
   unfold setAdd
   refine yJ ?_
   refine qE (knd.pyHash kv ?_)
   have room:(met val i).length+1<scanBound:=by have:=qis val i;omega
   refine set_add (knd:=knd) (s:={s1 with toks:=s1.toks+1}) kv x1 np1 room λh' sb x2 np2=>?_
   have x3:h'.SetOf knd S (λq=>decide (q∈met val (i+1))) (met val (i+1)).length :=
     qgL x2 (λq=>by rw[qfb,qhe]) (by rw[qfb,qgT])
   refine qU ⟨uU yT _,ih (i+1) _ (by omega) lt (W.frame _ s1 _ _ st1 (uB _) λb hb o e=>?_) x3 np2 λs2 mv2 x4 np4=>?_⟩
   · rw[sb.2 b (λz:b=S=>nS (by rw[<-z];exact hb))];exact e
   · refine fin s2 (Moved.trans W.gtrans ((mv.mono sub).then_heap (uB _) λb o hb e=>?_) mv2) x4 np4
     rw[sb.2 b (λz:b=S=>hb (by rw[z];exact qM))];exact e
end
section
variable{prog:Program}{w:World}{A:Around}{E:Value->Shared->Prop}{s:Shared}{κ:Type}[DecidableEq κ]{knd:KeyKind prog w κ}
theorem set_fromS{l:Addr}{its:Array Value}{val:Nat->κ}{Q:Value->Shared->Prop}(hh:A.handled=none)(hl:s.heap.IsList l its)(hv:∀(i:Nat) (v:Value),its[i]?=some v->∃x t,v=.str x t/\knd.is (val i) (.str x t)=true)(hb:its.size+1<scanBound)(fin:∀(h':Heap) (tk:Nat),h'.SetOf knd s.heap.objs.size (λq=>decide (q∈met val its.size)) (met val its.size).length->NotPlain w h' s.heap.objs.size->(∀b o,b<s.heap.objs.size->s.heap.get? b=some o->h'.get? b=some o) ->
   Q (.ref s.heap.objs.size) {s with heap:=h',toks:=tk}) :
  wpAny (model prog w) A (call (.type "set") [.ref l]) Q E s:=by
 obtain⟨c1,c2,m1⟩:=F.called_set.mro;have m2:=F.called_set.made;have m3:=F.called_set.sub;refine wpAny_call (codeAny_of_tree ?_);show wpAny (model prog w) _ (callAny (.type "set") _) _ _ _;refine qU ⟨Code.quiet_builtin _ (by ac_rfl),uJ F.entry_type_call ?_⟩;rw[Around.under_plain (weight_type_call_type "set" [.ref l] []) rfl];have m4:=F.called_set.notType;have m5:=F.called_set.canCreate;have m6:=F.typeCall_set_1 (.ref l)
 repeat (any_goals (first | assumption | wp_step))
 refine uR (set_new (.ref l) (E:=E) (Q1:=λob s1=>∃led:Bool,ob=.ref s.heap.objs.size/\s1={s with heap:=s.heap.push (qbN led)}/\led=!(w.params.followText "set-order")) ⟨_,rfl,rfl,rfl⟩) λr s1 hr=>?_
 rcases r with e | fl
 ·exact hr
 rcases fl with _ | _ | _ | ob<;>first | exact hr.elim | skip
 obtain⟨led,rfl,rfl,hled⟩:=hr;have gS:(s.heap.push (qbN led)).get? s.heap.objs.size=some (qbN led):=rE _ rfl;have tS:Shared.TypeIs {s with heap:=s.heap.push (qbN led)} (.ref s.heap.objs.size) "set":=⟨_,gS,rfl⟩;have q1:=F.called_set.init.lookup;have q2:=F.called_set.init.bind (.ref s.heap.objs.size)
 repeat (any_goals (first | assumption | wp_step))
 refine uR (codeAny_call_builtin (R:=wants (λr s2=>r=.none/\∃h' tk,s2={s with heap:=h',toks:=tk}/\h'.SetOf knd s.heap.objs.size (λq=>decide (q∈met val its.size)) (met val its.size).length/\NotPlain w h' s.heap.objs.size /\
   (∀b o,b<s.heap.objs.size->s.heap.get? b=some o->h'.get? b=some o)) E) F.called_set.init.plain F.entry_set_init (check_set_init_1 tS ?_)) λr2 s2 hr2=>?_
 ·obtain⟨ol,hol,hcl,nl,hdl⟩:=hl;obtain⟨z1,z2,z3,z4⟩:=ol;simp only at hcl hdl;subst hcl hdl;have hol1:(s.heap.push (qbN led)).get? l=some ⟨.type "list",z2,.seq its nl,z4⟩:=qL _ hol;have e1:=F.sub_list_set;have e2:=F.sub_list_frozenset;have e3:(Value.type "list" == Value.type "dict")=false:=by decide
  have il:(s.heap.push (qbN led)).IsList l its:=⟨_,hol1,rfl,nl,rfl⟩;unfold Builtin.«set.__init__» noKeywords Builtin.Frozenset.updateFrom;generalize ePI:pyIter=PI
  wp_walk
  subst ePI;refine vW il ?_;refine qE (wpAny_runValue ?_);have lS:l<s.heap.objs.size:=qW hol;have h3:A.in1.in1.in1.handled=none:=by simp[hh]
  have nI:l≠(s.heap.push (qbN led)).objs.size:=by rw[rX];exact rJ (uL lS)
  have nS:s.heap.objs.size∉[(s.heap.push (qbN led)).objs.size,l]:=by
   rw[rX];intro z;rcases qV.mp z with z | z
   ·exact absurd z (rJ (xK _))
   ·rcases qV.mp z with z | z
    ·exact absurd z.symm (rJ lS)
    ·cases z
  refine upd_loopS (knd:=knd) ((Walks.list h3 _ l nI its).toS) s.heap.objs.size nS val hv hb (its.size-0) 0 _ (by omega) (rS _) ⟨⟨_,rE _ rfl,rfl,rfl⟩,(il.push _)⟩ ?x0 ⟨_,_,_,_,qL _ gS,rfl,.inr rfl,hled⟩ ?xR
  case x0 =>
   exact qgL ((PyProof.Rows.setObjOf_fresh (knd:=knd) led).setOf (qL _ gS) (by unfold scanBound;omega)) (λq=>by simp[met]) rfl
  case xR =>
   intro s' mv x np;obtain⟨h',g',d',tk',os'⟩:=s';obtain rfl:g'=s.gens:=mv.gens;obtain rfl:d'=s.drawn:=mv.drawn;obtain rfl:os'=s.os:=mv.os;show wpAny (model prog w) _ _ _ _ _;refine qU ?_;show wpAny (model prog w) _ (ret Value.none) _ _ _;refine qU ⟨rfl,h',tk',rfl,x,np,λb o hb e=>?_⟩;refine mv.heap b o (λz=>?_) (qL _ (qL _ e));rcases qV.mp z with z | z
   ·exact absurd z (rJ hb)
   ·have z':b=(s.heap.push (qbN led)).objs.size:=by simpa using z
    rw[rX]at z';exact absurd z' (rJ (uL hb))
 ·rcases r2 with e | fl2
  ·exact hr2
  rcases fl2 with _ | _ | _ | r<;>first | exact hr2.elim | skip
  obtain⟨rfl,h',tk,rfl,x,np,kp⟩:=hr2
  repeat (any_goals (first | assumption | wp_step))
  exact fin _ _ x np kp
end
end L2
namespace L2
open PySem
theorem sit_next:Slot "set_iterator" "__next__" "set_iterator.__next__" :=
 .of (owner := "set_iterator") (n := "__next__") (by rw[y3,xV];kernel_rfl) (by ac_rfl) (by ac_rfl) (by ac_rfl) (by first | exact .inl (by ac_rfl) | exact .inr (by ac_rfl)) (by rw[uX];kernel_rfl)
theorem sit_iter:Slot "set_iterator" "__iter__" "set_iterator.__iter__" :=
 .of (owner := "set_iterator") (n := "__iter__") (by rw[y3,xV];kernel_rfl) (by ac_rfl) (by ac_rfl) (by ac_rfl) (by first | exact .inl (by ac_rfl) | exact .inr (by ac_rfl)) (by rw[uX];kernel_rfl)
theorem ent_sit_next:entryFor table "set_iterator.__next__" = some Builtin.«set_iterator.__next__»:=entryFor_of_tree (by kernel_rfl)
theorem ent_sit_iter:entryFor table "set_iterator.__iter__" = some Builtin.«dict_keyiterator.__iter__» :=
 entryFor_alias (id' := "dict_keyiterator.__iter__") (by kernel_rfl) (by first | rfl | ac_rfl) (by ac_rfl) (by kernel_rfl)
theorem ent_set_iter:entryFor table "set.__iter__" = some Builtin.«frozenset.__iter__» :=
 entryFor_alias (id' := "frozenset.__iter__") (by kernel_rfl) (by first | rfl | ac_rfl) (by ac_rfl) (by kernel_rfl)
theorem arg_sit_next(a:Value):argsOk "set_iterator.__next__" ⟨[a],[]⟩:=by unfold argsOk;kernel_rfl
theorem arg_sit_iter(a:Value):argsOk "set_iterator.__iter__" ⟨[a],[]⟩:=by unfold argsOk;kernel_rfl
def SIt(h:Heap)(it:Addr)(f:Value)(i:Nat)(d:Addr)(n ep:Nat):Prop:=h.get? it=some {cls:=.type "set_iterator",data:=.fields #[f,.int i 0,.ref d,.int n 0,.int ep 0]}
def SAt(h:Heap)(d:Addr)(es:Array (Int×Value))(ep:Nat)(t:SetTable):Prop:=∃o,h.get? d=some o/\o.data=.set es ep t/\t.fits es.size=true
theorem qdI{α:Type}:∀(l:List α) (i:Nat) (h:i<l.length),List.Perm (l[i]::l.eraseIdx i) l
 | x::l,0,h=>vN _
 | x :: l, i + 1, h => by
   have hi:i<l.length:=by simpa using h
   show List.Perm (l[i]::x::l.eraseIdx i) (x::l)
   exact(List.Perm.swap _ _ _).trans (List.Perm.cons _ (qdI l i hi))
theorem qef{α:Type}(next:Nat->Nat):∀(fuel k:Nat) (left:List α) (out:Array α),left.length<=fuel->List.Perm (pickOrder.go next fuel k left out).toList (out.toList++left)
 | 0, k, left, out, h => by
   have:left=[]:=uV.mp (by omega)
   subst this
   simp[pickOrder.go]
 | fuel + 1, k, left, out, h => by
   unfold pickOrder.go
   cases left with
   | nil=>simp
   | cons y ys =>
     have hlt:next k % (y::ys).length<(y::ys).length:=Nat.mod_lt _ (by simp)
     rw[qG hlt]
     dsimp only
     refine(qef next fuel (k+1) _ _ (by rw[List.length_eraseIdx_of_lt hlt];omega)).trans ?_
     rw[Array.toList_push,xT]
     refine List.Perm.append_left _ ?_
     exact qdI _ _ hlt
theorem qeh{α:Type}(next:Nat->Nat)(xs:Array α):List.Perm (pickOrder next xs).toList xs.toList:=by
 have:=qef next xs.size 0 xs.toList #[] (by simp)
 simpa[pickOrder]using this
section
variable{prog:Program}{w:World}{A:Around}{E:Value->Shared->Prop}{s:Shared}
theorem choose_any{src:Source}{n:Nat}{Q:Nat->Shared->Prop}(hn:n≠0)(q:∀k d',k<n->Q k {s with drawn:=d'}):wpAny (model prog w) A (choose src n) Q E s:=λΓ p hΓ=>by
 show Sem.wp _ _ (Sem.choose _ _ Sem.pure) _ _ _ _;rw[Sem.wp_choose];exact⟨hn,q _ _ (Nat.mod_lt _ (Nat.pos_of_ne_zero hn))⟩
theorem qfO{α:Type}:∀(n:Nat) (xs:List α) (s:Shared) (Q:List α->Shared->Prop),xs.length<=n->(∀ys d',ys.Perm xs->Q ys {s with drawn:=d'})->wpAny (model prog w) A (drawOrder n xs) Q E s
 | 0, xs, s, Q, h, q => by
   have:xs=[]:=uV.mp (by omega)
   subst this
   exact qU (q [] s.drawn (vN _))
 | n+1,[],s,Q,h,q=>qU (q [] s.drawn (vN _))
 | n + 1, x :: xs, s, Q, h, q => by
   unfold drawOrder
   refine qE (choose_any (by simp) λk d' hlt=>?_)
   rw[qG hlt]
   dsimp only
   refine qE (qfO n _ _ _ (by rw[List.length_eraseIdx_of_lt hlt];omega) λys d' pm=>qU ?_)
   exact q _ _ ((List.Perm.cons _ pm).trans (qdI _ _ hlt))
theorem qeP{it:Addr}{f:Value}{i d n ep:Nat}{Q:Option Value->Shared->Prop}(hit:SIt s.heap it f i d n ep)(h:wpAny (model prog w) A.in1 (Builtin.«set_iterator.__next__» ⟨[.ref it],[]⟩) (λfin s'=>∃v,fin=.done (.ret v)/\Q (some v) s') (λe s'=>wpAny (model prog w) A (isInstance e (.type "StopIteration")) (λb s2=>b=true/\Q none s2) E s') s) :
  wpAny (model prog w) A (pyNext (.ref it)) Q E s:=by
 have hT:s.TypeIs (.ref it) "set_iterator":=⟨_,hit,rfl⟩;unfold pyNext;refine qE (wpAny_attempt (wpAny_callSpecial?_slot (name:=Str.ofString "__next__") hT sit_next (u6 sit_next hT ent_sit_next ?_ (arg_sit_next _))));refine xC h (λfin s' q=>?_) λe s' q=>?_
 ·obtain⟨v,rfl,q⟩:=q;exact⟨v,rfl,qU q⟩
 ·refine qE (xC q (λb s2 z=>?_) λ_ _ z=>z);obtain⟨rfl,z⟩:=z;exact qU z
theorem qfh{Q:Option Value->Shared->Prop}{R:PySem.Fin->Shared->Prop}(hh:A.handled=none)(s':Shared)(hQ:∀h',(∀b o,s'.heap.get? b=some o->h'.get? b=some o)->Q none {s' with heap:=h'}) :
  wpAny (model prog w) A.in1 (newExc (.type "StopIteration") []>>=raiseNew) R (λe s'=>wpAny (model prog w) A (isInstance e (.type "StopIteration")) (λb s2=>b=true/\Q none s2) E s') s':=by
 refine qE ?_;simp only[newExc,newTuple];refine qE (yN ?_ (by size_fits));refine qE (m:=firstArgMember _ _) (wpAny_of_eq (a:=Value.none) (by first | rfl | (simp only[firstArgMember];rfl)) ?_);refine yN ?_ (by size_fits);simp only[raiseNew];refine qE (wpAny_handled ?_);rw[show A.in1.handled=none from hh];refine qE (qU (wpAny_throw ?_));refine v0 (T := "StopIteration") (b:=true) ⟨_,rE _ rfl,rfl⟩ isSubtype_stop ?_;exact⟨rfl,hQ _ λb o e=>qL _ (qL _ e)⟩
theorem qc5{it:Addr}{f:Value}{i d n ep:Nat}{es:Array (Int × Value)}{t:SetTable}{R:PySem.Fin->Shared->Prop}{Ex:Value->Shared->Prop}(hit:SIt s.heap it f i d n ep)(hs:SAt s.heap d es ep t)(hn:es.size=n)(h:wpAny (model prog w) A (match f with
   | .int slot _ => do
     match <- setNext d slot.toNat i ep with
     | some (x, next) => do
       setField (.ref it) 0 (rawInt next)
       setField (.ref it) 1 (rawInt ((i:Int)+1))
       ret x
     | none=>do setField (.ref it) 2 .none; (newExc (.type "StopIteration") [] >>= raiseNew)
   | first => do
     let some places <- seqItems? first | unsupported "internal:set_iterator"
     match places[i]? with
     | some (.int place _) => do
       let x <- setNextDrawn d place.toNat ep
       setField (.ref it) 1 (rawInt ((i:Int)+1))
       ret x
     | some _=>unsupported "internal:set_iterator"
     | none=>do setField (.ref it) 0 (rawInt 0); setField (.ref it) 2 .none; (newExc (.type "StopIteration") [] >>= raiseNew)) R Ex s) :
  wpAny (model prog w) A (Builtin.«set_iterator.__next__» ⟨[.ref it],[]⟩) R Ex s:=by
 obtain ⟨o,ho,hd,hf⟩:=hs
 unfold Builtin.«set_iterator.__next__»
 refine qE (qU ?_)
 refine qE (wpAny_fieldsOf hit rfl ?_)
 dsimp only
 refine qE (wpAny_setEntries_of ho hd hf ?_)
 rw [hn,if_neg (by simp)]
 cases f with
 | int slot tk=>exact h
 | _=>exact h
end
theorem SIt.turn{h:Heap}{it:Addr}{f:Value}{i d n ep:Nat}(x:SIt h it f i d n ep):SIt (h.update it (Obj.mapFields (·.setIfInBounds 1 (rawInt ((i:Int)+1))))) it f (i+1) d n ep:=by
 unfold SIt;rw[yF _ x rfl];rfl
theorem SIt.slot{h:Heap}{it:Addr}{f:Value}{i d n ep:Nat}(x:SIt h it f i d n ep)(k:Nat):SIt (h.update it (Obj.mapFields (·.setIfInBounds 0 (rawInt k)))) it (.int k 0) i d n ep:=by
 unfold SIt;rw[yF _ x rfl];rfl
theorem SIt.at{h h':Heap}{it:Addr}{f:Value}{i d n ep:Nat}(x:SIt h it f i d n ep)(k:∀o,h.get? it=some o->h'.get? it=some o):SIt h' it f i d n ep:=k _ x
theorem SAt.at{h h':Heap}{d:Addr}{es:Array (Int×Value)}{ep:Nat}{t:SetTable}(x:SAt h d es ep t)(k:∀o,h.get? d=some o->h'.get? d=some o):SAt h' d es ep t:=by
 obtain⟨o,e,r⟩:=x;exact⟨o,k _ e,r⟩
theorem qa5{h:Heap}{it b:Addr}{f:Obj->Obj}{o:Obj}(hb:b≠it)(e:h.get? b=some o):(h.update it f).get? b=some o:=(uG _ _ (Ne.symm hb)).trans e
def TAt(h:Heap)(T:Addr)(pl:List Nat):Prop:=h.get? T=some {cls:=.type "tuple",data:=.seq (pl.map λp:Nat=>rawInt p).toArray}
def Eqg(a b:Array GenState):Prop:=b=a
section
variable{prog:Program}{w:World}{A:Around}
theorem qel{it:Addr}{f:Value}{i d n ep:Nat}{s:Shared}{Q:Value->Shared->Prop}{E:Value->Shared->Prop}(x:SIt s.heap it f i d n ep)(q:Q (.ref it) s):wpAny (model prog w) A (pyIter (.ref it)) Q E s:=by
 have hT:s.TypeIs (.ref it) "set_iterator":=⟨_,x,rfl⟩;refine wpAny_pyIter_slot hT sit_iter (u6 sit_iter hT ent_sit_iter ?_ (arg_sit_iter _));show wpAny _ _ (ret (.ref it)) _ _ s;exact qU ⟨_,rfl, "set_iterator",_,hT,sit_next.lookup,q⟩
theorem qc2{it:Addr}{s:Shared}{h':Heap}(k:∀b o,b≠it->s.heap.get? b=some o->h'.get? b=some o):Moved [it] Eqg s {s with heap:=h'} :=
 ⟨λb o hb e=>k b o (by simpa using hb) e,rfl,rfl,rfl,qN _⟩
theorem walk_drawn(hh:A.handled=none){it d T:Addr}(n1:d≠it)(n2:T≠it){es:Array (Int×Value)}{ep:Nat}{t:SetTable}{pl:List Nat}{ord:List (Int×Value)}(hl:ord.length=es.size)(hp:∀i,i<es.size->∃p e,pl[i]?=some p/\es[p]?=some e/\ord[i]?=some e)(hpl:pl.length=es.size) :
  WalksS prog w A it [it,d,T] [it] Eqg es.size (λi v=>∃e,ord[i]?=some e/\e.2=v) (λi s=>SIt s.heap it (.ref T) i d es.size ep/\SAt s.heap d es ep t/\TAt s.heap T pl) where
 sub:=λb hb=>by simp at hb;simp[hb]
 grefl:=λ_=>rfl
 gtrans:=λ_ _ _ h1 h2=>h2.trans h1
 frame:=λi s h' tk st _ k=>⟨st.1.at λo e=>k it (by simp) o e,st.2.1.at λo e=>k d (by simp) o e,k T (by simp) _ st.2.2⟩
 item:=λi s Q E hi st q=>by
  obtain⟨x1,x2,x3⟩:=st;obtain⟨p,e,e1,e2,e3⟩:=hp i hi;refine qeP x1 (qc5 x1 x2 rfl ?_);refine qE (wJ x3 rfl ?_);dsimp only;have ep1:((pl.map λp:Nat=>rawInt p).toArray)[i]?=some (.int p 0):=by simp[e1,rawInt]
  rw[ep1];dsimp only;obtain⟨o,ho,hd,hf⟩:=id x2;refine qE ?_;unfold setNextDrawn;refine qE (xO ho hd hf ?_);dsimp only;rw[if_neg (by simp),rP,e2];refine qU ?_;refine qE (yL x1 rfl (by simp) ?_);refine qU ⟨_,rfl,q _ _ ⟨e,e3,rfl⟩ ⟨x1.turn,x2.at λo z=>qa5 n1 z,qa5 n2 x3⟩ (qc2 λb o hb z=>qa5 hb z)⟩
 done:=λs Q E st q=>by
  obtain⟨x1,x2,x3⟩:=st;refine qeP x1 (qc5 x1 x2 rfl ?_);refine qE (wJ x3 rfl ?_);dsimp only;have ep1:((pl.map λp:Nat=>rawInt p).toArray)[es.size]?=none:=by simp[hpl]
  rw[ep1];dsimp only;refine qE (yL x1 rfl (by simp) ?_);refine qE (yL (x1.slot 0) rfl (by simp) ?_);refine qfh hh _ λh' k=>q _ (qc2 λb o hb z=>k b o (qa5 hb (qa5 hb z)))
 self:=λi s Q E st q=>qel st.1 q
theorem walk_text(hh:A.handled=none)(hT:w.params.followText "set-order" = true){it d:Addr}(n1:d≠it){es:Array (Int×Value)}{ep:Nat}{t:SetTable} :
  WalksS prog w A it [it,d] [it] Eqg es.size (λi v=>∃e,(pickOrder (w.params.setOrder d ep) es).toList[i]?=some e/\e.2=v) (λi s=>(∃k:Nat,SIt s.heap it (.int k 0) i d es.size ep)/\SAt s.heap d es ep t) where
 sub:=λb hb=>by simp at hb;simp[hb]
 grefl:=λ_=>rfl
 gtrans:=λ_ _ _ h1 h2=>h2.trans h1
 frame:=λi s h' tk st _ k=>⟨st.1.imp λ_ z=>z.at λo e=>k it (by simp) o e,st.2.at λo e=>k d (by simp) o e⟩
 item:=λi s Q E hi st q=>by
  obtain⟨⟨k,x1⟩,x2⟩:=st;have sz:(pickOrder (w.params.setOrder d ep) es).size=es.size:=by simpa using(qeh (w.params.setOrder d ep) es).length_eq
  have hi':i<(pickOrder (w.params.setOrder d ep) es).size:=by rw[sz];exact hi
  refine qeP x1 (qc5 x1 x2 rfl ?_);dsimp only;obtain⟨o,ho,hd,hf⟩:=id x2;refine qE ?_;unfold setNext setsByText;refine qE (xO ho hd hf ?_);refine qE (qE (yB (qU ?_)));show wpAny _ _ (if(w.params.followText "set-order")=true then _ else _) _ _ _;rw[if_pos hT,if_neg (by simp)];refine qE ?_;unfold setWalk setsByText;refine qE (xO ho hd hf ?_);refine qE (qE (yB (qU ?_)));show wpAny _ _ (if(w.params.followText "set-order")=true then _ else _) _ _ _;rw[if_pos hT];refine qE (yB (qU ?_));refine qU ?_;have eg:(pickOrder ((model prog w).w.params.setOrder d ep) es)[i]?=some ((pickOrder (w.params.setOrder d ep) es)[i]):=yE hi';rw[eg];dsimp only[Option.map_some];refine qE (yL x1 rfl (by simp) ?_);refine qE (yL (x1.slot _) rfl (by simp) ?_);refine qU ⟨_,rfl,q _ _ ⟨_,by rw[uK,yE hi'],rfl⟩ ⟨⟨_,(x1.slot _).turn⟩,x2.at λo z=>qa5 n1 (qa5 n1 z)⟩ (qc2 λb o hb z=>qa5 hb (qa5 hb z))⟩
 done:=λs Q E st q=>by
  obtain⟨⟨k,x1⟩,x2⟩:=st;have sz:(pickOrder (w.params.setOrder d ep) es).size=es.size:=by simpa using(qeh (w.params.setOrder d ep) es).length_eq
  refine qeP x1 (qc5 x1 x2 rfl ?_);dsimp only;obtain⟨o,ho,hd,hf⟩:=id x2;refine qE ?_;unfold setNext setsByText;refine qE (xO ho hd hf ?_);refine qE (qE (yB (qU ?_)));show wpAny _ _ (if(w.params.followText "set-order")=true then _ else _) _ _ _;rw[if_pos hT,if_neg (by simp)];refine qE ?_;unfold setWalk setsByText;refine qE (xO ho hd hf ?_);refine qE (qE (yB (qU ?_)));show wpAny _ _ (if(w.params.followText "set-order")=true then _ else _) _ _ _;rw[if_pos hT];refine qE (yB (qU ?_));refine qU ?_;have eg:(pickOrder ((model prog w).w.params.setOrder d ep) es)[es.size]?=none:=uW (by show(pickOrder (w.params.setOrder d ep) es).size<=es.size;omega);rw[eg];dsimp only[Option.map_none];refine qE (yL x1 rfl (by simp) ?_);refine qfh hh _ λh' k=>q _ (qc2 λb o hb z=>k b o (qa5 hb z))
 self:=λi s Q E st q=>by
  obtain⟨k,x1⟩:=st.1;exact qel x1 q
end
theorem qfY{xs:Array Nat}{j:Nat}(h:xs.size=1):SetTable.below xs j=if xs.getD 0 j<j then 1 else 0:=by
 unfold SetTable.below;rw[h];show(if 0<1 then if xs.getD ((0+1) / 2) j<j then SetTable.below.go xs j 0 ((0+1) / 2+1) 1 else SetTable.below.go xs j 0 0 ((0+1) / 2)else 0)=_;rw[if_pos (by decide)];rfl
section
variable{prog:Program}{w:World}{A:Around}{E:Value->Shared->Prop}{s:Shared}
theorem qeX(hT:w.params.followText "set-order" = false){d:Addr}{es:Array (Int×Value)}{ep k i:Nat}{t:SetTable}(x:SAt s.heap d es ep t)(h1:es.size<=1)(hL:t.led=true){Q:Option (Value×Nat)->Shared->Prop}(q:Q (match es[SetTable.below t.place k]?,t.place[SetTable.below t.place k]? with | some (_,x),some j=>some (x,j+1) | _,_=>none) s):wpAny (model prog w) A (setNext d k i ep) Q E s:=by
 obtain⟨o,ho,hd,hf⟩:=x;unfold setNext setsByText;refine qE (xO ho hd hf ?_);refine qE (qE (yB (qU ?_)));show wpAny _ _ (if(w.params.followText "set-order")=true then _ else _) _ _ _;rw[hT,if_neg qF];have e1:(!t.plain && decide (es.size>1))=false:=by rw[qB (by omega),wG]
 show wpAny _ _ (if(!t.plain && decide (es.size>1))=true then _ else _) _ _ _;rw[e1,if_neg qF];refine qE ?_;show wpAny _ _ (if(!t.led && !es.isEmpty)=true then _ else _) _ _ _;rw[hL,if_neg (by simp)];exact qU (qU q)
theorem walk_small(hh:A.handled=none)(hT:w.params.followText "set-order" = false){it d:Addr}(n1:d≠it){es:Array (Int×Value)}{ep:Nat}{t:SetTable}(h1:es.size<=1)(hL:t.led=true) :
  WalksS prog w A it [it,d] [it] Eqg es.size (λi v=>∃e,es.toList[i]?=some e/\e.2=v)
   (λi s=>((i=0/\SIt s.heap it (.int ((0:Nat):Int) 0) 0 d es.size ep)\/(i=1/\∃j:Nat,t.place[0]?=some j/\SIt s.heap it (.int ((j+1:Nat):Int) 0) 1 d es.size ep))/\SAt s.heap d es ep t) where
 sub:=λb hb=>by simp at hb;simp[hb]
 grefl:=λ_=>rfl
 gtrans:=λ_ _ _ h1 h2=>h2.trans h1
 frame:=λi s h' tk st _ k=>by
  refine⟨?_,st.2.at λo e=>k d (by simp) o e⟩;rcases st.1 with⟨z,x⟩ | ⟨z,j,zj,x⟩
  ·exact .inl ⟨z,x.at λo e=>k it (by simp) o e⟩
  ·exact .inr ⟨z,j,zj,x.at λo e=>k it (by simp) o e⟩
 item:=λi s Q E hi st q=>by
  obtain⟨st,x2⟩:=st;have sz:es.size=1:=by omega
  rcases st with⟨rfl,x1⟩ | ⟨rfl,_⟩
  case inr=>omega
  obtain⟨o,ho,hd,hf⟩:=id x2;have ps:t.place.size=1:=by
   have:=hf;simp only[SetTable.fits,Bool.and_eq_true,beq_iff_eq]at this;omega
  have b0:SetTable.below t.place 0=0:=by rw[qfY ps,if_neg (yR _)]
  obtain⟨e,ee⟩:∃e,es[0]?=some e:=⟨es[0],by simp[sz]⟩;obtain⟨j,ej⟩:∃j,t.place[0]?=some j:=⟨t.place[0],by simp[ps]⟩;refine qeP x1 (qc5 x1 x2 rfl ?_);dsimp only;refine qE (qeX hT x2 h1 hL ?_);rw[rP,b0,ee,ej];dsimp only;refine qE (yL x1 rfl (by simp) ?_);refine qE (yL (x1.slot _) rfl (by simp) ?_);refine qU ⟨_,rfl,q _ _ ⟨e,by rw[uK,ee],rfl⟩ ⟨.inr ⟨rfl,j,ej,(x1.slot _).turn⟩,x2.at λo z=>qa5 n1 (qa5 n1 z)⟩ (qc2 λb o hb z=>qa5 hb (qa5 hb z))⟩
 done:=λs Q E st q=>by
  obtain⟨st,x2⟩:=st;obtain⟨o,ho,hd,hf⟩:=id x2;have ps:t.place.size=es.size:=by
   have:=hf;simp only[SetTable.fits,Bool.and_eq_true,beq_iff_eq]at this;omega
  have fin:∀(k:Nat),SIt s.heap it (.int (k:Int) 0) es.size d es.size ep->es[SetTable.below t.place k]?=none->wpAny (model prog w) A (pyNext (.ref it)) Q E s:=λk x1 en=>by
   refine qeP x1 (qc5 x1 x2 rfl ?_);dsimp only;refine qE (qeX hT x2 h1 hL ?_);rw[rP,en];dsimp only;refine qE (yL x1 rfl (by simp) ?_);refine qfh hh _ λh' k=>q _ (qc2 λb o hb z=>k b o (qa5 hb z))
  rcases st with⟨z,x1⟩ | ⟨z,j,ej,x1⟩
  ·have x1':SIt s.heap it (.int ((0:Nat):Int) 0) es.size d es.size ep:=by rw[z]at x1⊢;exact x1
   refine fin 0 x1' ?_;rw[uW (by omega)]
  ·have x1':SIt s.heap it (.int ((j+1:Nat):Int) 0) es.size d es.size ep:=by rw[z]at x1⊢;exact x1
   refine fin (j+1) x1' ?_;have lt:t.place.getD 0 (j+1)<j+1:=by
    rw[Array.getD_eq_getD_getElem?,ej];exact xK _
   rw[qfY (by omega),if_pos lt,uW (by omega)]
 self:=λi s Q E st q=>by
  rcases st.1 with⟨_,x⟩ | ⟨_,_,_,x⟩<;>exact qel x q
theorem iter_set{d:Addr}{es:Array (Int×Value)}{ep:Nat}{t:SetTable}{o:Obj}(hh:A.handled=none)(ho:s.heap.get? d=some o)(hex:o.ExactSet)(hd:o.data=.set es ep t)(hf:t.fits es.size=true)(hb:es.size<=sizeLine)(hp:t.plain=false\/es.size=0)(hL:t.led=!(w.params.followText "set-order")){Q:Value->Shared->Prop}(q:∀(it:Addr) (fp:List Addr) (h':Heap) (d':Drawn) (ord:List (Int×Value)) (St:Nat->Shared->Prop),s.heap.objs.size<=it->it<h'.objs.size->(∀b o,s.heap.get? b=some o->h'.get? b=some o)->(∀b∈fp,b=d\/(s.heap.objs.size<=b/\b<h'.objs.size))->ord.Perm es.toList ->
   (∀A':Around,A'.handled=none->WalksS prog w A' it fp [it] Eqg es.size (λi v=>∃e,ord[i]?=some e/\e.2=v) St)->St 0 {s with heap:=h',drawn:=d'}->Q (.ref it) {s with heap:=h',drawn:=d'}) :
  wpAny (model prog w) A (pyIter (.ref d)) Q E s:=by
 have hT:s.TypeIs (.ref d) "set":=⟨o,ho,hex.1⟩;have dlt:=qW ho;have xd:SAt s.heap d es ep t:=⟨o,ho,hd,hf⟩;refine wpAny_pyIter_slot hT F.slot_set_iter (u6 F.slot_set_iter hT ent_set_iter ?_ (F.args_set_iter_1 _));unfold Builtin.«frozenset.__iter__»;refine qE (qU ?_);unfold Builtin.Frozenset.sizeOf setDrawn setsByText setEpoch;refine qE (qE (wpAny_setEntries_of ho hd hf (qU ?_)));refine qE (qE (xO ho hd hf (qE (qE (yB (qU (qU ?_)))))));show wpAny _ _ (if(!(w.params.followText "set-order") && (!t.plain && decide (es.size>1)))=true then _ else _) _ _ _;have push_lt:∀{h:Heap} {o1:Obj},h.objs.size<(h.push o1).objs.size:=λ{h o1}=>by rw[rX];exact xK _
 by_cases dr:(!(w.params.followText "set-order") && (!t.plain && decide (es.size>1)))=true
 ·rw[if_pos dr];refine qE (qfO _ _ _ _ (by simp) λpl d' pm=>?_);have pll:pl.length=es.size:=by simpa using pm.length_eq
  refine qE (yN ?_ ?zz)
  case zz=>show(List.map _ pl).toArray.size<=sizeLine;rw[qZ,qA];omega
  refine qE (qE (xO (s:={s with heap:=_,drawn:=d'}) (qL _ ho) hd hf (qU ?_)));refine qE (yN (qU ⟨_,rfl, "set_iterator",_,⟨_,rE _ rfl,rfl⟩,sit_next.lookup,?_⟩));have inb:∀p∈pl,p<es.size:=λp hp=>by simpa using pm.mem_iff.mp hp
  have e0:(pl.map λp=>es.toList.getD p (0,.none)).Perm es.toList:=by
   refine(pm.map _).trans (List.Perm.of_eq ?_);apply yM;intro i;rw[qR]
   by_cases hi:i<es.size
   ·rw[vF hi];simp[hi]
   ·rw[rY (by simpa using hi),rY (by simpa using hi)];rfl
  rw[rX];refine q (s.heap.objs.size+1) [s.heap.objs.size+1,d,s.heap.objs.size] _ d' (pl.map λp=>es.toList.getD p (0,.none)) (λi s1=>SIt s1.heap (s.heap.objs.size+1) (.ref s.heap.objs.size) i d es.size ep/\SAt s1.heap d es ep t/\TAt s1.heap s.heap.objs.size pl) (uB _) ?_ (λb o e=>qL _ (qL _ e)) (λb hb=>?_) e0 (λA' hA=>?_) ⟨?_,(xd.at λo e=>qL _ (qL _ e)),qL _ (rE _ rfl)⟩
  ·rw[rX,rX];exact xK _
  ·rcases qV.mp hb with rfl | hb
   ·exact .inr ⟨uB _,by rw[rX,rX];exact xK _⟩
   ·rcases qV.mp hb with rfl | hb
    ·exact .inl rfl
    ·have:b=s.heap.objs.size:=by simpa using hb
     subst this;exact .inr ⟨qN _,by rw[rX,rX];exact uL (xK _)⟩
  ·refine walk_drawn hA (rJ (uL dlt)) (rJ (xK _)) (by rw[qA,pll]) (λi hi=>?_) pll;have hi':i<pl.length:=by omega
   have hp:=inb pl[i] (yV hi');exact⟨pl[i],es[pl[i]],by simp[hi'],by simp[hp],by simp[hi',hp]⟩
  ·have ez:s.heap.objs.size+1=(s.heap.push {cls:=.type "tuple",data:=.seq (pl.map λi:Nat=>rawInt i).toArray}).objs.size:=by rw[rX]
   unfold SIt;rw[ez];exact rE _ rfl
 ·rw[if_neg dr];refine qE (qU ?_);refine qE (qE (xO ho hd hf (qU ?_)));refine qE (yN (qU ⟨_,rfl, "set_iterator",_,⟨_,rE _ rfl,rfl⟩,sit_next.lookup,?_⟩));have hfp:∀{h':Heap},h'.objs.size=s.heap.objs.size+1->∀b∈[s.heap.objs.size,d],b=d\/(s.heap.objs.size<=b/\b<h'.objs.size):=λ{h'} hz b hb=>by
   rcases qV.mp hb with rfl | hb
   ·exact .inr ⟨qN _,by rw[hz];exact xK _⟩
   ·exact .inl (by simpa using hb)
  cases hTx:w.params.followText "set-order" with
  | true =>
    refine q _ [s.heap.objs.size,d] _ s.drawn (pickOrder (w.params.setOrder d ep) es).toList (λi s1=>(∃k:Nat,SIt s1.heap s.heap.objs.size (.int k 0) i d es.size ep)/\SAt s1.heap d es ep t) (qN _) push_lt (λb o e=>qL _ e) (hfp (by rw[rX])) (qeh _ _) (λA' hA=>walk_text hA hTx (rJ dlt)) ⟨⟨0,rE _ rfl⟩,xd.at λo e=>qL _ e⟩
  | false =>
    have h1:es.size<=1:=by
      rw[hTx]at dr
      rcases hp with hp | hp
      · rw[hp]at dr
        simp at dr
        omega
      · omega
    refine q _ [s.heap.objs.size,d] _ s.drawn es.toList _ (qN _) push_lt (λb o e=>qL _ e) (hfp (by rw[rX])) (vN _) (λA' hA=>walk_small hA hTx (t:=t) (ep:=ep) (rJ dlt) h1 (by rw[hL,hTx];rfl)) ⟨.inl ⟨rfl,rE _ rfl⟩,xd.at λo e=>qL _ e⟩
end
end L2
namespace L2
open PySem PyProof.Rows
section
variable{prog:Program}{w:World}{A:Around}{E:Value->Shared->Prop}{s:Shared}
theorem hint_set{r:Addr}{Q:Bool->Shared->Prop}(hT:s.TypeIs (.ref r) "set")(h:Q false s):wpAny (model prog w) A (Builtin.List.listLengthHint (.ref r)) Q E s:=by
 unfold Builtin.List.listLengthHint;refine qE (vD hT PySem.F.slot_set_len.lookup ?_);generalize eid:("set.__len__" : String)=nm
 wp_delta
 rw[show splitId nm=some ("set", "__len__")from by subst eid;ac_rfl];subst eid;refine qE (v0 (T := "set") (b:=true) hT (by rw[uX];kernel_rfl) ?_);refine y4 (λz=>absurd z (by decide)) (λ_=>?_);refine y4 (λ_=>?_) (λz=>absurd (by ac_rfl) z);exact qE (wpAny_typeOf hT (qU h))
theorem set_collect{d:Addr}{es:Array (Int×Value)}{ep:Nat}{t:SetTable}{o:Obj}(hh:A.handled=none)(ho:s.heap.get? d=some o)(hex:o.ExactSet)(hd:o.data=.set es ep t)(hf:t.fits es.size=true)(hb:es.size<=sizeLine)(hp:t.plain=false\/es.size=0)(hL:t.led=!(w.params.followText "set-order")){R:List Value->Shared->Prop}(fin:∀(h':Heap) (tk:Nat) (d':Drawn) (ord:List (Int×Value)),(∀b o,s.heap.get? b=some o->h'.get? b=some o)->ord.Perm es.toList->R (ord.map (·.2)) {s with heap:=h',toks:=tk,drawn:=d'}) :
  wpAny (model prog w) A (collect (.ref d)) R E s:=by
 have dlt:=qW ho;unfold collect;refine qE (wpAny_runValue (uJ entry_proto_collect' ?_));rw[y8 PySem.F.plain_proto_collect _];show wpAny _ A.in1 (newList []>>=λl=>again (.builtin "list.__iadd__" ⟨[l,.ref d],[]⟩)) _ _ s;refine qE (yN ?_);refine qU ⟨uU PySem.F.plain_list_iadd _,uJ entry_list_iadd' ?_⟩;rw[y8 PySem.F.plain_list_iadd _];show wpAny _ A.in1 (Builtin.List.listExtendWith (.ref s.heap.objs.size) (.ref d) (.ref s.heap.objs.size)) _ _ {s with heap:=s.heap.push {cls:=.type "list",data:=.seq ([]:List Value).toArray}};have g0:(s.heap.push {cls:=.type "list",data:=.seq ([]:List Value).toArray}).get? s.heap.objs.size=some {cls:=.type "list",data:=.seq #[]}:=rE _ rfl;have hd1:(s.heap.push {cls:=.type "list",data:=.seq ([]:List Value).toArray}).get? d=some o:=qL _ ho;have nSd:s.heap.objs.size≠d:=uC dlt;unfold Builtin.List.listExtendWith;have hT:Shared.TypeIs {s with heap:=s.heap.push {cls:=.type "list",data:=.seq ([]:List Value).toArray}} (.ref d) "set":=⟨o,hd1,hex.1⟩;refine qE (wpAny_typeOf hT ?_);have e1:Builtin.List.listSameRef (.ref s.heap.objs.size) (.ref d)=false:=by simp[Builtin.List.listSameRef,nSd]
 have e2:(Value.type "set" == Value.type "list")=false:=by decide
 have e3:(Value.type "set" == Value.type "tuple")=false:=by decide
 simp only[e1,e2,e3,Bool.or_false,Bool.false_eq_true,if_false];refine qE (iter_set (A:=A.in1) hh hd1 hex hd hf hb hp hL λit fp h2 d2 ord St l1 l2 k2 hfp pm W st=>?_);have g2:=k2 _ _ g0;have nSf:s.heap.objs.size∉fp:=λz=>by
  rcases hfp _ z with e | ⟨e,_⟩
  ·exact nSd e
  ·rw[rX]at e;exact absurd e (Nat.not_succ_le_self _)
 have loop:∀(h3:Heap) (c:Nat),St 0 {s with heap:=h3,drawn:=d2}->(∀b o,s.heap.get? b=some o->h3.get? b=some o)->h3.get? s.heap.objs.size=some {cls:=.type "list",data:=.seq #[] c} ->
   codeAny (model prog w) A (.builtin "list.extend.loop" ⟨[.ref s.heap.objs.size,.ref it,.ref s.heap.objs.size],[]⟩) (λr s'=>∃acc h' tk,r=.ok (.ret (.ref s.heap.objs.size))/\s'={s with heap:=h',toks:=tk,drawn:=d2} /\
    (∀b o,s.heap.get? b=some o->h'.get? b=some o)/\(∃c',h'.get? s.heap.objs.size=some {cls:=.type "list",dict:=none,data:=.seq acc c',slots:=#[]})/\acc.toList=ord.map (·.2)) {s with heap:=h3,drawn:=d2}:=by
  intro h3 c st3 k3 g3;refine codeAny_extend_loopS (W A.in1 hh) hb s.heap.objs.size nSf _ es.size 0 _ #[] c rfl (rS _) st3 g3 (ItemsOf.nil _) λs' acc c' mv g4 items=>?_
  obtain⟨h',g',dd,tk',os'⟩:=s';obtain rfl:g'=s.gens:=mv.gens;obtain rfl:dd=d2:=mv.drawn;obtain rfl:os'=s.os:=mv.os;refine⟨acc,h',tk',rfl,rfl,λb o e=>mv.heap b o (λz=>?_) (k3 b o e),⟨c',g4⟩,?_⟩
  ·have lb:=qW e;rcases qV.mp z with z | z
   ·exact absurd lb (by rw[z];exact rW _)
   ·have z':b=it:=by simpa using z
    rw[rX]at l1;exact absurd lb (by rw[z'];exact Nat.not_lt_of_le (Nat.le_of_succ_le l1))
  ·have lo:ord.length=es.size:=by simpa using pm.length_eq
   apply yM;intro j;rw[qR]
   by_cases hj:j<acc.size
   ·obtain⟨e,z1,z2⟩:=items.2 j acc[j] (by simp[hj]);rw[z1,uK,yE hj,<-z2];rfl
   ·have ha:acc.size=es.size:=items.1;rw[rY (by simpa using uP hj),rY (by omega)];rfl
 refine qE (yJ (hint_set ⟨o,k2 _ _ hd1,hex.1⟩ ?_));refine y4 (λ_=>?_) (λ_=>?_)
 ·refine qE (wpAny_rule (qE ?_));show wpAny _ _ (updateSeq s.heap.objs.size (·.push .none)>>=λ_=>updateSeq s.heap.objs.size (·.pop)) _ _ _;refine qE (wF g2 rfl ?_);have g3:=yF (Obj.mapSeq (·.push Value.none)) g2 rfl;refine wF (hz:=by seq_fits) g3 rfl ?_;have g4:=yF (Obj.mapSeq (·.pop)) g3 rfl;refine qU ⟨uU PySem.F.plain_extend_loop _,uR (loop _ _ ?_ (λb o e=>qa5 ?_ (qa5 ?_ (k2 _ _ (qL _ e)))) g4) λr s' x=>?_⟩
  ·exact(W A.in1 hh).frame 0 _ _ _ st (qN _) λb hb o e=>by
    have nb:b≠s.heap.objs.size:=λz=>nSf (z ▸ hb)
    exact qa5 nb (qa5 nb e)
  ·exact rJ (qW e)
  ·exact rJ (qW e)
  ·obtain⟨acc,h',tk,rfl,rfl,k,⟨c',g⟩,ea⟩:=x;show wpAny _ A (load s.heap.objs.size>>=_) _ _ _;refine qE (wpAny_load g ?_);show wpAny _ _ (pure acc.toList) _ _ _;rw[ea];exact qU (fin h' tk d2 ord k pm)
 ·refine qU ⟨uU PySem.F.plain_extend_loop _,uR (loop _ _ st (λb o e=>k2 _ _ (qL _ e)) g2) λr s' x=>?_⟩;obtain⟨acc,h',tk,rfl,rfl,k,⟨c',g⟩,ea⟩:=x;show wpAny _ A (load s.heap.objs.size>>=_) _ _ _;refine qE (wpAny_load g ?_);show wpAny _ _ (pure acc.toList) _ _ _;rw[ea];exact qU (fin h' tk d2 ord k pm)
theorem sorted_set{d:Addr}{es:Array (Int×Value)}{ep:Nat}{t:SetTable}{o:Obj}(hh:A.handled=none)(ho:s.heap.get? d=some o)(hex:o.ExactSet)(hd:o.data=.set es ep t)(hf:t.fits es.size=true)(hb:es.size<64)(hp:t.plain=false\/es.size=0)(hL:t.led=!(w.params.followText "set-order")){ks:List Str}(hS:StrsAre (es.toList.map (·.2)) ks){Q:Value->Shared->Prop}(fin:∀(D:Addr) (h':Heap) (tk:Nat) (d':Drawn) (out:List Value) (ss:List Str) (c:Nat),s.heap.get? D=none->(∀b o,s.heap.get? b=some o->h'.get? b=some o)->h'.get? D=some {cls:=.type "list",data:=.seq out.toArray c}->StrsAre out ss->ss.Perm ks->sortedS ss=true->Q (.ref D) {s with heap:=h',toks:=tk,drawn:=d'}) :
  wpAny (model prog w) A (call (.builtin "sorted") [.ref d]) Q E s:=by
 have hb':es.size<=sizeLine:=by rw[sizeLine_eq];omega
 refine Calls.call_function_entry kind_sorted plain_sorted entry_sorted (args_sorted1 _) ?_;unfold Builtin.«sorted»;refine qE (m:=checkCount "sorted" 1 1 _) (qU ?_);refine qE (set_collect (A:=A.in1) hh ho hex hd hf hb' hp hL λh1 tk d1 ord k1 pm=>?_);have ln:(ord.map (·.2)).length=es.size:=by rw[qA];simpa using pm.length_eq
 refine qE (wpAny_newList ?_ (by rw[ln];exact hb'));have gD:(h1.push {cls:=.type "list",data:=.seq (ord.map (·.2)).toArray}).get? h1.objs.size=some (seqObj "list" (ord.map (·.2)).toArray 0):=rE _ rfl;obtain⟨ks',sk,pk⟩:∃ks',StrsAre (ord.map (·.2)) ks'/\ks'.Perm ks:=by
  refine⟨(ord.map (·.2)).map strOf,strsAre_map _ λv hv=>?_,?_⟩
  ·obtain⟨e,he,rfl⟩:=rG.mp hv;exact hS.all _ (rG.mpr ⟨e,pm.mem_iff.mp he,rfl⟩)
  ·rw[<-hS.strs];exact(pm.map _).map _
 refine qE (yJ (u6 slot_list_sort ⟨_,gD,rfl⟩ entry_list_sort (list_sort_treeK strKind_oneLt gD sk.keysOf (λv1 v2 rest e=>keyKind_strs (by rw[<-e];exact sk)) (by rw[ln];exact hb) λst' a1 a2=>⟨_,rfl,?_⟩) (args_list_sort _)));obtain⟨ss,h3,h4,h5⟩:=sorted_out_str sk a1 a2;refine qU ⟨_,rfl,?_⟩;obtain⟨c,gc⟩:∃c,(sortedHeap (h1.push {cls:=.type "list",data:=.seq (ord.map (·.2)).toArray}) h1.objs.size (ord.map (·.2)) ((arrOf st').map (·.2))).get? h1.objs.size=some (seqObj "list" ((arrOf st').map (·.2)) c):=by
  have:=sortedHeap_at (out:=(arrOf st').map (·.2)) gD;exact this
 have lS:s.heap.get? h1.objs.size=none:=by
  cases z:s.heap.get? h1.objs.size with
  | none=>rfl
  | some o=>exact absurd (qW (k1 _ _ z)) (rW _)
 refine fin h1.objs.size _ tk d1 ((arrOf st').map (·.2)).toList ss c lS (λb o e=>?_) ?_ h3 (h4.trans pk) h5
 ·have lb:=qW (k1 b o e);rw[sortedHeap_old (rJ lb) (by rw[rX];exact uL lb)];exact qL _ (k1 b o e)
 ·rw[gc]
end
end L2
namespace L2
open PySem PySem.Spec PyProof.Rows
theorem Inv.dr{X:Cx}{pins:List (Addr×Obj)}{σ:St}{H:Hp}{s:Shared}(I:Inv X pins σ H s)(d':Drawn):Inv X pins σ H {s with drawn:=d'}:=⟨I.ok,I.os,I.bare,I.base,I.loc,I.cell,I.free,I.freeC,I.pin,I.hok,I.len⟩
theorem dec_mem{κ:Type}[DecidableEq κ]{k:κ}{l:List κ}:decide (k∈l)=true↔k∈l:=rA
def once(ks:List Str):List Str:=ks.foldl one1 []
theorem one1_nd{κ:Type}[DecidableEq κ]{l:List κ}{v:κ}(h:l.Nodup):(one1 l v).Nodup:=by
 unfold one1
 split
 ·exact h
 ·rename_i n;rw[List.nodup_append];refine⟨h,by simp,λa ha b hb=>?_⟩;have:b=v:=by simpa using hb
  subst this;exact λz=>n (z ▸ ha)
theorem qgY{κ:Type}[DecidableEq κ]:∀(ks l:List κ),l.Nodup->(ks.foldl one1 l).Nodup
 | [],l,h=>h
 | k::ks,l,h=>qgY ks (one1 l k) (one1_nd h)
theorem qfX{κ:Type}[DecidableEq κ](x:κ):∀(ks l:List κ),x∈ks.foldl one1 l↔x∈l\/x∈ks
 | [],l=>by simp
 | k :: ks, l => by
   rw[yO,qfX x ks]
   have:x∈one1 l k↔x∈l\/x=k:=by
     have:=qhe l k x
     rw[r9]at this
     simpa using this
   rw[this,qV,or_assoc]
theorem qfi(ks:List Str):(once ks).Nodup:=qgY ks [] vQ
theorem once_mem(ks:List Str)(x:Str):x∈once ks↔x∈ks:=by unfold once;rw[qfX];simp
theorem qfG{κ ρ:Type}[DecidableEq κ][DecidableEq ρ](f:κ->ρ)(inj:∀a b,f a=f b->a=b):∀(ks l:List κ),(ks.map f).foldl one1 (l.map f)=(ks.foldl one1 l).map f
 | [],l=>rfl
 | k :: ks, l => by
   rw[r8,yO,yO,<-qfG f inj ks (one1 l k)]
   congr 1
   unfold one1
   by_cases z:k∈l
   · rw[if_pos z,if_pos (vH z)]
   · rw[if_neg z,if_neg (λq=>by
       obtain⟨a,ha,e⟩:=rG.mp q
       exact z (inj _ _ e ▸ ha))]
     simp
theorem qeE{κ:Type}[DecidableEq κ]:∀(m l:List κ),m.Nodup->(∀x∈m,x∈l)->l.length=m.length->l.Perm m
 | [], l, _, _, h => by
   have:l=[]:=uV.mp h
   rw[this]
 | x :: m, l, nd, sub, h => by
   have hx:=sub x qM
   obtain⟨nx,nm⟩:=xI.mp nd
   have p:=List.perm_cons_erase hx
   refine p.trans (List.Perm.cons _ (qeE m (l.erase x) nm (λy hy=>?_) ?_))
   · exact(List.mem_erase_of_ne (λz:y=x=>nx (z ▸ hy))).mpr (sub y (qQ _ hy))
   · rw[List.length_erase_of_mem hx,h]
     rfl
def setS(w:World)(d:Addr)(ks:List Str):HO:=.ext λh=>∃o es ep t,h.get? d=some o/\o.ExactSet/\o.data=.set es ep t/\t.fits es.size=true/\(t.plain=false\/es.size=0)/\t.led=!(w.params.followText "set-order") /\
 es.size<scanBound/\∃us,StrsAre (es.toList.map (·.2)) us/\us.Perm ks
section
variable{X:Cx}
theorem qf7(hc:X.calm=true):qdT X (.type "set") (λxs H Q=>∃(p:Addr) (ks:List Str),xs=[.ref p]/\SqL X.K H p (ks.map V.str)/\ks.length+1<scanBound/\∀d,H d=none->Q (.ref d) (upd H d (setS X.w d (once ks)))):=by
 intro pins s σ H xs us Q I r h;obtain⟨p,ks,rfl,hp,hb,q⟩:=h;obtain⟨u,rfl,rx⟩:=qfx r;cases rx;obtain⟨its,rv,pl,hz⟩:=I.list hp;have hlen:its.toArray.size=ks.length:=by rw[qZ,<-rv.length,qA]
 refine set_fromS (knd:=qbh X.prog X.w) (val:=λi=>Sum.inr (ks.getD i Str.empty)) (I.ok.hd hc) pl.isList (λi v e=>?_) (by rw[hlen];exact hb) λh' tk x np kp=>?_
 ·have e':its[i]?=some v:=by simpa using e
  have hi:i<ks.length:=by rw[<-hlen,qZ];exact(qI.mp e').1
  obtain⟨u,e2,r2⟩:=rv.get (i:=i) (x:=.str ks[i]) (by rw[qR,qG hi];rfl);rw[e']at e2;cases e2;obtain⟨t,rfl⟩:=r2;have eg:ks.getD i Str.empty=ks[i]:=by simp[hi]
  exact⟨_,t,rfl,by rw[eg];exact qaT _ _ _ _⟩
 ·have em:met (λi=>(Sum.inr (ks.getD i Str.empty):Key)) its.toArray.size=(once ks).map (Sum.inr:Str->Key):=by
   unfold met once;rw[hlen,<-qfG (Sum.inr:Str->Key) (λa b e=>Sum.inr.inj e) ks []]
   congr 1
   apply yM;intro i;rw[qR,qR]
   by_cases h:i<ks.length
   ·rw[vF h,qG h];simp[h]
   ·rw[rY (by simpa using uP h),rY (uP h)];rfl
  rw[em]at x;have keep:∀b o,s.heap.get? b=some o->h'.get? b=some o:=λb o e=>kp b o (qW e) e
  have hn:H s.heap.objs.size=none:=I.hok.fresh (qN _);refine⟨.ref s.heap.objs.size,_,I.laid (o:=setS X.w s.heap.objs.size (once ks)) keep (qN _) ?_,rfl,q _ hn⟩;obtain⟨o,es,ep,t,ho,hex,hd,hel,hmem,hsb,hf,hsz⟩:=x;obtain⟨o',es',ep',t',e1,e2,e3,e4⟩:=np;rw[ho]at e1;cases e1;rw[hd]at e2;cases e2;have all:∀e∈es.toList,∃y tk,e.2=.str y tk/\y∈once ks:=λe he=>by
   obtain⟨⟨k,hk,_⟩,_⟩:=hel e he;have t0:=(hmem k).mpr ⟨e,he,hk⟩;have this:k∈(once ks).map (Sum.inr:Str->Key):=dec_mem.mp t0;obtain⟨y,hy,rfl⟩:=rG.mp this;rcases keyIs_shape (show keyIs (Sum.inr y) e.2=true from hk)with⟨i,t,z,_⟩ | ⟨z,t,zz,ez⟩
   ·cases z
   ·cases zz;exact⟨y,t,ez,hy⟩
  have stt:StrsAre (es.toList.map (·.2)) ((es.toList.map (·.2)).map strOf):=strsAre_map _ λv hv=>by
   obtain⟨e,he,rfl⟩:=rG.mp hv;obtain⟨y,tk,e1,_⟩:=all e he;exact⟨y,tk,e1⟩
  refine⟨⟨o,es,ep,t,ho,hex,hd,hf,e3,e4,hsb,_,stt,?_⟩,⟨o,ho⟩,λg1 g2 y k=>?_⟩
  ·refine qeE _ _ (qfi ks) (λy hy=>?_) ?_
   ·obtain⟨e,he,hk⟩:=(hmem (Sum.inr y)).mp (dec_mem.mpr (vH hy));rcases keyIs_shape (show keyIs (Sum.inr y) e.2=true from hk)with⟨i,t,z,_⟩ | ⟨z,t,zz,ez⟩
    ·cases z
    ·cases zz;rw[xE];exact rG.mpr ⟨e,he,by show strOf e.2=y;rw[ez];rfl⟩
   ·rw[qA,qA,yS,hsz,qA]
  ·obtain⟨o1,es1,ep1,t1,z1,z2⟩:=y;exact⟨o1,es1,ep1,t1,k _ z1,z2⟩
def Rise(ss:List Str):Prop:=ss.Pairwise λa b=>a.cps.toList<b.cps.toList
theorem qdV(hc:X.calm=true)(hex:X.ex=[]):qdT X (.builtin "sorted") (λxs H Q=>∃(d:Addr) (ks:List Str),xs=[.ref d]/\H d=some (setS X.w d ks)/\ks.length<64/\∀D ss,H D=none->ss.Perm ks->sortedS ss=true->Q (.ref D) (upd H D (.lst (ss.map V.str)))):=by
 intro pins s σ H xs us Q I r h;obtain⟨d,ks,rfl,hd,h64,q⟩:=h;obtain⟨u,rfl,rx⟩:=qfx r;cases rx;obtain⟨⟨o,es,ep,t,ho,hexs,hdt,hf,hp,hL,hb,ks',st,pm⟩,_⟩:=I.hok d _ hd;have ls:es.size=ks.length:=by
  have h1:=st.length;rw[qA,yS]at h1;rw[h1,pm.length_eq]
 refine sorted_set (I.ok.hd hc) ho hexs hdt hf (by omega) hp hL st λD h' tk d' out ss c hD kp hg hs ps so=>?_
 have HD:H D=none:=by
  cases z:H D with
  | none=>rfl
  | some v =>
    obtain⟨o,e⟩:=(I.hok D v z).at
    rw[hD]at e
    cases e
 have pk:=ps.trans pm;have I2:=(I.kept (t':=tk) kp).dr d';have DL:D≠X.env.locals:=λz=>by
  have:=qW (Classical.choose_spec (let⟨m,⟨o,_,_,e,_⟩,_⟩:=I.loc;⟨o,e⟩:∃o,s.heap.get? X.env.locals=some o));obtain⟨m,⟨o,_,_,e,_⟩,_⟩:=I.loc;rw[z,e]at hD;cases hD
 refine⟨.ref D,_,I2.track (o:=.lst (ss.map V.str)) ?_ HD DL (λz c e w'=>?_) (λz hz w'=>?_) ?_,rfl,q D ss HD pk so⟩
 ·cases z:X.s₀.heap.get? D with
  | none=>rfl
  | some o =>
    obtain⟨o',e⟩:=I.base.there D o z (by rw[hex];simp)
    rw[hD]at e
    cases e
 ·obtain⟨v,o,e1,_⟩:=I.cell z c e;rw[w',hD]at e1;cases e1
 ·have e:=(I.pin z hz).1;rw[w',hD]at e;cases e
 ·have vs:∀{out:List Value} {ss:List Str},StrsAre out ss->Vals (ss.map V.str) out:=λ{out ss} h=>by
   induction h with
   | nil=>exact .nil
   | cons x t _ ih=>exact .cons ⟨t,rfl⟩ ih
  refine⟨?_,out,c,vs hs,hg⟩;rw[qA,pk.length_eq];exact xY (qaz (by omega))
end
structure Fx(P:Program)(w:World)(K:W.Frag)(mg:Str->Option Value)(base:Heap)(CX:CXT)(k:Nat)(x:Str)(ps:List Str)(sp:Sp):Prop where
 ex:∃f fd,FnOk P w K mg base CX k f fd ps sp/\Binds K fd ps []/\PySem.W.keepIn K (.ref f)=true/\mg x=some (.ref f)
section
variable{X:Cx}{CX:CXT}{k:Nat}{ps:List Str}{sp:Sp}{E:XK}{x:Str}{p pos:Pos}{e:Expr}{es:List Expr}{t:TA}
theorem qaB(F:Fx X.prog X.w X.K X.mg X.base CX k x ps sp)(hr:Room k X.A)(hg:Gl X x)(hx:qee CX X E)(ha:PA X (e::es) t)(hdb:(x == ("__debug__" : Str))=false:=by decide)(he:starEach (e::es) X.env=(false,eval e X.env)::starEach es X.env:=by rfl)(hpl:(backTo pos (starEach es X.env)).any (·.1)=false:=by rfl):PE X (.Call (.Name x p) (e::es) [] pos) (qhZ sp [] E t):=by
 obtain⟨f,fd,G,b,kp,m⟩:=F.ex;exact pe_call G hr hg m kp b .nil hx ha hdb he hpl
end
theorem CompScope.plain{X:Cx}{scope:Scope}{own:List Str}(h1:scope.kind=.function)(h2:∀y∈scope.names,y.2≠.cell)(h3:∀y∈scope.names,y.2=.local->scope.names.lookup y.1=some .local)(h4:∀y∈scope.names,y.2≠.free):CompScope X scope own [] [] :=
 ⟨h1,h2,h3,λy hy hf=>absurd hf (h4 y hy),rfl,λ_ z=>nomatch z⟩
theorem qdZ{names:List (Str×NameKind)}{a:Str}(h:names.lookup a=some .cell):∀x∈[a],names.lookup x=some .cell\/names.lookup x=some .free:=λx hx=>by
 have:x=a:=by simpa using hx
 rw[this];exact .inl h
theorem qeG{names:List (Str×NameKind)}{a b:Str}(h:names.lookup a=some .cell)(h':names.lookup b=some .cell):∀x∈[a,b],names.lookup x=some .cell\/names.lookup x=some .free:=λx hx=>by
 rcases qV.mp hx with rfl | hx
 ·exact .inl h
 ·exact qdZ h' x hx
theorem CompScope.frees{X:Cx}{scope:Scope}{own fr:List Str}{ix:List Nat}(h1:scope.kind=.function)(h2:∀y∈scope.names,y.2≠.cell)(h3:∀y∈scope.names,y.2=.local->scope.names.lookup y.1=some .local)(h4:∀y∈scope.names,y.2=.free->y.1∈fr)(h5:ix.map (λj=>X.N[j]?)=fr.map some)(h6:∀x∈fr,scope.names.lookup x=some .free)(h7:∀x∈fr,X.env.scope.names.lookup x=some .cell\/X.env.scope.names.lookup x=some .free):CompScope X scope own fr ix :=
 ⟨h1,h2,h3,λy hy hf=>h7 _ (h4 y hy hf),h5,h6⟩
theorem qb3{lo:Int}{n own:Nat}{ix:List Nat}{g:TG}{tt:TT}{te:TE}{σ:St}{H:Hp}{Q:VK}(Pv:Nat->List V->St->Hp->Prop)(hz:n<sizeLine)(h0:Pv 0 [] (qcF own ix σ) H)(hl:∀i ys σ' H',i<=n->Pv i ys σ' H'->ys.length<=i)(hs:∀i ys σ' H',i<n->Pv i ys σ' H'->g (.int (lo+i)) σ' H' λσ2 H3=>tt σ2 H3 λb H4=>if b=true then te σ2 H4 λv H5=>Pv (i+1) (ys++[v]) σ2 H5 else Pv (i+1) ys σ2 H4)(hd:∀ys σ' H',Pv n ys σ' H'->∀D,H' D=none->Q (.ref D) (upd H' D (.lst ys))):qds own ix g tt te (Itr lo n) σ H Q:=by
 refine⟨λi m ys σ H=>m=n-i/\i<=n/\Pv i ys σ H,⟨n,by simp,rS _,h0⟩,?_⟩;rintro i m ys σ H ⟨rfl,hi,p⟩;have hy:=hl i ys σ H hi p;refine⟨by omega,?_⟩
 by_cases hlt:i<n
 ·refine .inr ⟨hlt,Pv (i+1),λzs σ' H' p'=>⟨n-(i+1),by omega,rfl,hlt,p'⟩,λx H' y=>?_⟩;obtain⟨e,y⟩:=y;subst e y;exact hs i ys σ _ hlt p
 ·have e:i=n:=by omega
  subst e;exact .inl ⟨qN _,hd ys σ H p⟩
theorem comp_enum{K:W.Frag}{a:Addr}{xs:List V}{own:Nat}{ix:List Nat}{g:TG}{tt:TT}{te:TE}{σ:St}{H:Hp}{Q:VK}(Pv:Nat->List V->St->Hp->Prop)(hz:xs.length<sizeLine)(h0:Pv 0 [] (qcF own ix σ) H)(hl:∀i ys σ' H',i<=xs.length->Pv i ys σ' H'->SqL K H' a xs/\ys.length<=i)(hs:∀i x ys σ' H' T,xs[i]?=some x->H' T=none->Pv i ys σ' H'->g (.ref T) σ' (upd H' T (.tup [.int (i:Nat),x])) λσ2 H3=>tt σ2 H3 λb H4=>if b=true then te σ2 H4 λv H5=>Pv (i+1) (ys++[v]) σ2 H5 else Pv (i+1) ys σ2 H4)(hd:∀ys σ' H',Pv xs.length ys σ' H'->∀D,H' D=none->Q (.ref D) (upd H' D (.lst ys))):qds own ix g tt te (Ite K a) σ H Q:=by
 refine⟨λi m ys σ H=>m=xs.length-i/\i<=xs.length/\Pv i ys σ H,⟨xs.length,by simp,rS _,h0⟩,?_⟩;rintro i m ys σ H ⟨rfl,hi,p⟩;obtain⟨q,hy⟩:=hl i ys σ H hi p;refine⟨by omega,?_⟩
 by_cases hlt:i<xs.length
 ·refine .inr ⟨⟨xs,xs[i],q,by simp[hlt]⟩,Pv (i+1),λzs σ' H' p'=>⟨xs.length-(i+1),by omega,rfl,hlt,p'⟩,λx H' y=>?_⟩;obtain⟨T,z,hT,e1,e2,y⟩:=y;subst e1 e2;exact hs i z ys σ _ T (y xs q) hT p
 ·have e:i=xs.length:=by omega
  subst e;exact .inl ⟨⟨xs,q,qN _⟩,hd ys σ H p⟩
def rEqP(neg:Bool):R2:=λx y H Q=>∃d e,DIn H x d/\DIn H y e/\PySem.W.kqdOk 9 d=true/\PySem.W.kqdOk 9 e=true/\(d=e->Q (.bl (!neg)) H)/\(d≠e->Q (.bl neg) H)
section
variable{X:Cx}
open Classical in
theorem op_eqP(hu:X.A.units+64<cLine):OpR X (compareOp .Eq) (rEqP false):=by
 intro pins s σ H x y v u Q I rx ry h;obtain⟨d,e,h1,h2,k1,k2,q1,q2⟩:=h;refine op_eqD hu pins s σ H x y v u Q I rx ry ⟨d,e,h1,h2,k1,k2,?_⟩;rw[if_neg qF]
 by_cases z:d=e
 ·rw[qC z];exact q1 z
 ·rw[qB z];exact q2 z
open Classical in
theorem qeU(hu:X.A.units+64<cLine):OpR X (compareOp .NotEq) (rEqP true):=by
 intro pins s σ H x y v u Q I rx ry h;obtain⟨d,e,h1,h2,k1,k2,q1,q2⟩:=h;refine op_neD hu pins s σ H x y v u Q I rx ry ⟨d,e,h1,h2,k1,k2,?_⟩;rw[if_pos rfl]
 by_cases z:d=e
 ·rw[qC z];exact q1 z
 ·rw[qB z];exact q2 z
theorem qg3{H:Hp}:∀(nms:List Str),DAll H (nms.map V.str) (nms.map PySem.W.Dat.str)
 | []=>.nil
 | x::l=>.cons (.str x) (qg3 l)
def rSlS:V->Option Int->Option Int->Hp->VK->Prop:=λx lo hi H Q=>∃z,x=.str z/\z.length<=sizeLine/\Q (.str (Txt.slice z lo hi)) H
theorem sl_str:SlR X rSlS:=by
 intro pins s σ H x v vl vu lo hi sl Q I rx hs pl pu h;obtain⟨z,rfl,hz,q⟩:=h;obtain⟨t,rfl⟩:=rx;cases pl with
 | none =>
   cases pu with
   | none=>exact⟨"str",_,PySem.F.slot_str_getitem.lookup,uO _ _ _,uF (l:=none) (u:=none) (st:=none) hs rfl (vB ⟨qS (wB z _ _) hz,λt' k=>⟨.str (Txt.slice z none none),H,I.tok k,⟨t',rfl⟩,q⟩⟩)⟩
   | int j u=>exact⟨"str",_,PySem.F.slot_str_getitem.lookup,uO _ _ _,uF (l:=none) (u:=some (j,u)) (st:=none) hs rfl (vB ⟨qS (wB z _ _) hz,λt' k=>⟨.str (Txt.slice z none (some j)),H,I.tok k,⟨t',rfl⟩,q⟩⟩)⟩
 | int i u =>
   cases pu with
   | none=>exact⟨"str",_,PySem.F.slot_str_getitem.lookup,uO _ _ _,uF (l:=some (i,u)) (u:=none) (st:=none) hs rfl (vB ⟨qS (wB z _ _) hz,λt' k=>⟨.str (Txt.slice z (some i) none),H,I.tok k,⟨t',rfl⟩,q⟩⟩)⟩
   | int j u'=>exact⟨"str",_,PySem.F.slot_str_getitem.lookup,uO _ _ _,uF (l:=some (i,u)) (u:=some (j,u')) (st:=none) hs rfl (vB ⟨qS (wB z _ _) hz,λt' k=>⟨.str (Txt.slice z (some i) (some j)),H,I.tok k,⟨t',rfl⟩,q⟩⟩)⟩
theorem qe6{x:Str}{j:Int}(h0:0<=j)(h1:j<=x.length):Txt.slice x (some j) none=⟨(x.cps.toList.drop j.toNat).toArray⟩:=by
 have:=beq_iff_eq.mp (slice_closes_from (x:=x) (i:=j) ⟨h0,h1⟩);rw[this,rZ];rw[rV];omega
end
end L2
namespace Gen
open PySem L2 Bk
theorem b_isinstance:bootBuiltins "isinstance" = some (.builtin "isinstance"):=by ac_rfl
theorem b_len:bootBuiltins "len" = some (.builtin "len"):=by ac_rfl
theorem b_all:bootBuiltins "all" = some (.builtin "all"):=by ac_rfl
theorem b_sorted:bootBuiltins "sorted" = some (.builtin "sorted"):=by ac_rfl
theorem b_int:bootBuiltins "int" = some (.type "int"):=by ac_rfl
theorem b_bool:bootBuiltins "bool" = some (.type "bool"):=by ac_rfl
theorem b_str:bootBuiltins "str" = some (.type "str"):=by ac_rfl
theorem b_list:bootBuiltins "list" = some (.type "list"):=by ac_rfl
theorem b_tuple:bootBuiltins "tuple" = some (.type "tuple"):=by ac_rfl
theorem b_set:bootBuiltins "set" = some (.type "set"):=by ac_rfl
structure Bn(mg:Str->Option Value):Prop where
 isinstance:mg "isinstance" = none
 len:mg "len" = none
 range:mg "range" = none
 sorted:mg "sorted" = none
 int:mg "int" = none
 bool:mg "bool" = none
 list:mg "list" = none
 tuple:mg "tuple" = none
 str:mg "str" = none
 set:mg "set" = none
 enumerate:mg "enumerate" = none
 all:mg "all" = none
 ver:mg "ValueError" = none
def StOk(H:Hp)(st:Addr):Prop:=∃x y:Int,H st=some (.lst [.int x,.int y])/\0<=y/\y<4294967296
abbrev qci(st:Addr)(H H':Hp):Prop:=KeepN (λb=>b≠st) H H'
theorem StOk.same{H H':Hp}{st:Addr}(h:StOk H st)(s:Same H H'):StOk H' st:=by
 obtain⟨x,y,e,z⟩:=h;exact⟨x,y,s _ _ e,z⟩
theorem StOk.some{H:Hp}{st:Addr}(h:StOk H st):∃o,H st=some o:=by
 obtain⟨x,y,e,z⟩:=h;exact⟨_,e⟩
theorem qbn{H:Hp}{a b:Addr}(h:∃o,H a=some o)(n:H b=none):b≠a:=by
 obtain⟨o,e⟩:=h;exact Ne.symm (qar e n)
def qgF(K:W.Frag):Sp:=λvs H Q _=>∃(a:Addr) (ns:List Int) (k:Int),vs=[.ref a,.int k]/\SqL K H a (ns.map V.int)/\0<=k/\k<=100/\∀(st:Addr) (H':Hp),H st=none->StOk H' st->Same H H'->Q (.ref st) H'
def spTake:Sp:=λvs H Q _=>∃(st:Addr) (m:Int),vs=[.ref st,.int m]/\StOk H st/\0<m/\m<=1000000000000/\∀(r:Int) (H':Hp),0<=r->r<m->StOk H' st->qci st H H'->Q (.int r) H'
def qbz(H:Hp):Addr->Prop:=λb=>H b=none
theorem int_at{ns:List Int}{k:Int}(h0:0<=k)(h:k<(ns.length:Int)):∃v:Int,atI (ns.map V.int) k=some (.int v):=by
 have hk:k.toNat<ns.length:=by omega
 have ek:k=((k.toNat:Nat):Int):=by omega
 have q:atI (ns.map V.int) ((k.toNat:Nat):Int)=some (.int ns[k.toNat]):=qbL (by rw[qR,qG hk]<;>rfl);rw[<-ek]at q;exact⟨_,q⟩
def small:Str:=Str.ofString "abcdefghijklmnopqrstuvwxyz"
theorem small_is:small.cps.toList=[97,98,99,100,101,102,103,104,105,106,107,108,109,110,111,112,113,114,115,116,117,118,119,120,121,122]:=by ac_rfl
theorem qik{α:Type}{l:List α}{i:Int}(h0:0<=i)(h1:i<(l.length:Int)):∃c,atI l i=some c/\c∈l:=by
 have hi:i.toNat<l.length:=by omega
 have ei:i=((i.toNat:Nat):Int):=by omega
 have q:atI l ((i.toNat:Nat):Int)=some l[i.toNat]:=qbL (qG hi);rw[<-ei]at q;exact⟨_,q,yV hi⟩
theorem qaW(x y:Str):(x++y).length=x.length+y.length:=by
 show(x.cps++y.cps).size=_;rw[Array.size_append];rfl
theorem qa7(x y:Str):(x++y).cps.toList=x.cps.toList++y.cps.toList:=by
 show(x.cps++y.cps).toList=_;exact vE
theorem small_str{x:Str}(h:∀c∈x.cps.toList,qg2 c):PyData.strOk x=true:=by
 show(x.cps.all λc=>decide (c<0x110000))=true;rw[yG];intro c hc;have:=h c (by simpa using hc);unfold qg2 at this;exact qC (by omega)
theorem qft{nms:List Str}(h:∀x∈nms,Name x):PySem.W.kqdOk 9 (.list (nms.map PySem.W.Dat.str))=true:=by
 simp only[PySem.W.kqdOk,List.all_eq_true,List.mem_map,decide_eq_true_eq];rintro d ⟨x,hx,rfl⟩;have:=small_str (h x hx).2.2;simpa[PySem.W.kqdOk]using this
theorem strs_at{nms:List Str}{i:Int}(h0:0<=i)(h1:i<((nms.map V.str).length:Int)):∃y,atI (nms.map V.str) i=some (.str y)/\y∈nms:=by
 obtain⟨v,e,m⟩:=qik h0 h1;obtain⟨y,my,rfl⟩:=rG.mp m;exact⟨y,e,my⟩
theorem back{st:Addr}{H H':Hp}{b:Addr}(k:qci st H H')(n:b≠st)(h:H' b=none):H b=none:=by
 cases e:H b with
 | none=>rfl
 | some o =>
   rw[k b o n e]at h
   cases h
theorem notes_app(a b:List Th):qaw (a++b)=qaw a++qaw b:=List.filterMap_append
theorem qaJ{α β:Type}{F:α->β->Prop}:∀{a b:List α} {c d:List β},Paired F a c->Paired F b d->Paired F (a++b) (c++d)
 | _,_,_,_,.nil,h=>h
 | _,_,_,_,.cons q t,h=>.cons q (qaJ t h)
end Gen
namespace L2
theorem KeepN.back{st:PySem.Addr}{H H':Hp}{b:PySem.Addr}(k:KeepN (λb=>b≠st) H H')(n:b≠st)(h:H' b=none):H b=none:=Gen.back k n h
end L2
namespace K09
open PySem L2 Bk Gen
def top(i:Nat):Stmt:=PySem.Challenge.pw_leafpress_k09_rows_hung_and_mended.main.body.getD i (.Pass ⟨0,0,0,0⟩)
abbrev sStream:Stmt:=top 77
abbrev sTake:Stmt:=top 78
section
variable{P:Program}{w:World}{K:W.Frag}{mg:Str->Option Value}{base:Heap}
theorem scStream:FnScope ["_law_script", "_law_k"] ["_law_script", "_law_k"] (qai sStream):=⟨rfl,rfl,rfl,by ac_rfl,rfl,by ac_rfl,by ac_rfl⟩
theorem ok_stream{f:Addr}{fd:FuncData}(F:Fun K "_law_stream" "_law_stream" sStream f fd)(T:Bn mg):FnOk P w K mg base CX0 1 f fd ["_law_script", "_law_k"] (qgF K):=by
 refine F.ok scStream (λvs H Q E h=>?_) (λcdv A outer s H vs Q E hr h=>?_)
 ·obtain⟨a,ns,k,rfl,_⟩:=h;rfl
 ·obtain⟨a,ns,k,rfl,hS,k0,k1,q⟩:=h;refine⟨_,(qad (qaH (qah op_lt (pv 1) (qam call_len_seq (by rfl) T.len b_len (qaa (pv 0) pa_nil)) (qao _)) (qae (qap (qay (qaa (qan ix_list (pv 0) (pv 1) (λ_ _=>rfl)) (qaa (qaO op_add (qaO op_add (qaO op_mod (qan ix_list (pv 0) (pv 1) (λ_ _=>rfl)) qaf) (qaO op_mul (pv 1) (pv 1))) qaf) pa_nil))))) pss_nil)
   (qae (qap (qay (qaa (qaO op_add (qaO op_mul (qaO op_mul (pv 1) (pv 1)) qaf) qaf) (qaa (qaO op_add (pv 1) qaf) pa_nil)))))),?_⟩
  have kk:0<=k*k/\k*k<=10000:=by
   have h1:=Int.mul_nonneg k0 k0;have h2:k*k<=100*100:=Int.mul_le_mul k1 k1 k0 (by decide);omega
  refine⟨_,rfl,_,rfl,a,_,rfl,.inl hS,_,_,rfl,rfl,_,rfl,?_⟩;refine ite2 (λc=>?_) (λc=>?_)
  ·have c':k<(((ns.map V.int).length:Nat):Int):=rL c;rw[qA]at c';obtain⟨v,hv⟩:=int_at (ns:=ns) k0 c';refine⟨_,rfl,_,rfl,a,_,_,_,rfl,rfl,hS,hv,?_⟩;refine⟨_,rfl,_,rfl,a,_,_,_,rfl,rfl,hS,hv,_,_,rfl,rfl,(by show(0:Int)<2147483629;decide),_,rfl,_,rfl,_,_,rfl,rfl,.inl ⟨by omega,by omega⟩,_,_,rfl,rfl,_,_,rfl,rfl,(by show 2<=sizeLine;decide),λl hl=>?_⟩;have m1:=wD v (show(2147483629:Int)≠0 by decide);have m2:=vM v (show(0:Int)<2147483629 by decide);exact q l _ hl ⟨v,_,qac,by omega,by omega⟩ (qab hl _)
  ·refine⟨_,rfl,_,rfl,_,_,rfl,rfl,.inl ⟨by omega,by omega⟩,_,_,rfl,rfl,.inl ⟨by omega,by omega⟩,_,_,rfl,rfl,_,rfl,_,_,rfl,rfl,(by show 2<=sizeLine;decide),λl hl=>?_⟩;exact q l _ hl ⟨_,_,qac,by omega,by omega⟩ (qab hl _)
theorem scTake:FnScope ["_law_stream_here", "_law_most", "_law_digit"] ["_law_stream_here", "_law_most"] (qai sTake):=⟨rfl,rfl,rfl,by ac_rfl,rfl,by ac_rfl,by ac_rfl⟩
theorem ok_take{f:Addr}{fd:FuncData}(F:Fun K "_law_take" "_law_take" sTake f fd):FnOk P w K mg base CX0 1 f fd ["_law_stream_here", "_law_most"] spTake:=by
 refine F.ok scTake (λvs H Q E h=>?_) (λcdv A outer s H vs Q E hr h=>?_)
 ·obtain⟨st,m,rfl,_⟩:=h;rfl
 ·obtain⟨st,m,rfl,⟨x,y,hst,y0,y1⟩,m0,m1,q0⟩:=h;have q:∀r x' y':Int,0<=r->r<m->0<=y'->y'<4294967296->Q (.int r) (upd H st (.lst [.int x',.int y'])):=λr x' y' r0 r1 z0 z1=>q0 r _ r0 r1 ⟨x',y',qac,z0,z1⟩ λb o n e=>by rw[qal n];exact e
  refine⟨_,(qad (qaH (PW.pt (qdi (qah op_eq (qan ix_list (pv 0) qaf (λ_ _=>rfl)) qaf (qao _)) (qcg (qah op_eq (qan ix_list (pv 0) qaf (λ_ _=>rfl)) (qcy un_neg qaf) (qao _))))) (qad (qer (qaO op_mod (qaO op_add (qaO op_mul (qan ix_list (pv 0) qaf (λ_ _=>rfl)) qaf) qaf) qaf) (qf3 (pv 0) qaf set_list))
   (qae (qap (qaO op_mod (qaO op_mod (qaO op_mul (qan ix_list (pv 0) qaf (λ_ _=>rfl)) (qan ix_list (pv 0) qaf (λ_ _=>rfl))) qaf) (pv 1))))) pss_nil)
   (qad (qaq (i:=2) scTake.nd (by rfl) (by trivial) (qaO op_mod (qan ix_list (pv 0) qaf (λ_ _=>rfl)) (pv 1)))
   (qad (qer (qaO op_fdivL (qan ix_list (pv 0) qaf (λ_ _=>rfl)) (pv 1)) (qf3 (pv 0) qaf set_list))
   (qae (qap (pv 2)))))),?_⟩
  have mm:∀v:Int,0<=v % m/\v % m<m:=λv=>⟨wD v (by omega),vM v m0⟩
  have empty:∀Q':VK,Q'=Q->tSeq (tAsg (tOp (rI (λ_ j=>0<j) λi j=>.int (i % j)) (tOp (rI0 λi j=>.int (i+j)) (tOp (rI CMul λi j=>.int (i*j)) (tOp (rIxL K) (tVar 0) (tC (.int 1))) (tC (.int 48271))) (tC (.int 12345))) (tC (.int 2147483647))) (gSub (tVar 0) (tC (.int 1)) rSetL))
    (tRet (tOp (rI (λ_ j=>0<j) λi j=>.int (i % j)) (tOp (rI (λ_ j=>0<j) λi j=>.int (i % j)) (tOp (rI CMul λi j=>.int (i*j)) (tOp (rIxL K) (tVar 0) (tC (.int 1))) (tOp (rIxL K) (tVar 0) (tC (.int 1)))) (tC (.int 2147483629))) (tVar 1)))
    {nx:=λ_ _=>False,rt:=Q'} [some (.ref st),some (.int m),none] H:=by
   rintro Q' rfl;refine⟨_,rfl,st,_,_,_,rfl,rfl,SqL.of hst,rfl,_,_,rfl,rfl,.inl ⟨by omega,by omega⟩,_,_,rfl,rfl,_,_,rfl,rfl,(by show(0:Int)<2147483647;decide),_,rfl,st,_,1,1,rfl,rfl,hst,rfl,?_⟩;have z0:=wD (y*48271+12345) (show(2147483647:Int)≠0 by decide);have z1:=vM (y*48271+12345) (show(0:Int)<2147483647 by decide);have hst':upd H st (.lst [.int x,.int ((y*48271+12345) % 2147483647)]) st=some (.lst [.int x,.int ((y*48271+12345) % 2147483647)]):=qac;refine⟨_,rfl,st,_,_,_,rfl,rfl,SqL.of hst',rfl,_,rfl,st,_,_,_,rfl,rfl,SqL.of hst',rfl,_,_,rfl,rfl,.inl (show -(2 ^ 64)<(y*48271+12345) % 2147483647/\(y*48271+12345) % 2147483647<2 ^ 64 from⟨by omega,by omega⟩),_,_,rfl,rfl,(by show(0:Int)<2147483629;decide),_,rfl,_,_,rfl,rfl,m0,?_⟩;exact q _ x _ (mm _).1 (mm _).2 z0 (by omega)
  refine⟨_,rfl,st,_,_,_,rfl,rfl,SqL.of hst,rfl,rfl,_,rfl,?_⟩
  by_cases x0:x=0
  ·rw[qC (show V.int x=V.int 0 by rw[x0])];refine iteT (iteT ?_);exact empty _ rfl
  ·rw[qB (show¬V.int x=V.int 0 from λz=>x0 (V.int.inj z))];refine iteF ⟨_,rfl,st,_,_,_,rfl,rfl,SqL.of hst,rfl,_,rfl,rfl,_,rfl,?_⟩
   by_cases x1:x=-1
   ·rw[qC (show V.int x=V.int (-1) by rw[x1])];refine iteT ?_;exact empty _ rfl
   ·rw[qB (show¬V.int x=V.int (-1)from λz=>x1 (V.int.inj z))];refine iteF ?_;refine⟨_,rfl,st,_,_,_,rfl,rfl,SqL.of hst,rfl,_,rfl,_,_,rfl,rfl,m0,?_⟩;refine⟨_,rfl,st,_,_,_,rfl,rfl,SqL.of hst,rfl,_,rfl,_,_,rfl,rfl,⟨m0,by omega⟩,_,rfl,st,_,0,0,rfl,rfl,hst,rfl,?_⟩;refine⟨_,rfl,?_⟩;exact q _ (x / m) y (mm x).1 (mm x).2 y0 y1
end
end K09
namespace Gen
open PySem L2 Bk PyProof.Rows PySem.Spec
theorem rising_all:∀(l:List Str) (x:Str),risingS x l=true->(∀y∈l,¬y.cps.toList<x.cps.toList)/\l.Pairwise λa b=>¬b.cps.toList<a.cps.toList
 | [],x,_=>⟨(λy hy=>nomatch hy),List.Pairwise.nil⟩
 | y :: r, x, h => by
   have h':(!ltCps y.cps.toList x.cps.toList && risingS y r)=true:=h
   rw[rH]at h'
   obtain⟨h1,h2⟩:=h'
   have n1:¬y.cps.toList<x.cps.toList:=by
     rw[ltCps_eq]at h1
     simpa using h1
   obtain⟨a,b⟩:=rising_all r y h2
   refine⟨λz hz=>?_,List.Pairwise.cons (λz hz=>a z hz) b⟩
   rcases qV.mp hz with rfl | hz
   · exact n1
   · intro lt
     exact a z hz (Std.lt_of_lt_of_le lt (vV.mp n1))
theorem sorted_all{l:List Str}(h:sortedS l=true):l.Pairwise λa b=>¬b.cps.toList<a.cps.toList:=by
 cases l with
 | nil=>exact List.Pairwise.nil
 | cons x r =>
   obtain⟨a,b⟩:=rising_all r x h
   exact List.Pairwise.cons a b
theorem qhK{x y:Str}(h:x.cps.toList=y.cps.toList):x=y:=by
 obtain⟨⟨x⟩⟩:=x;obtain⟨⟨y⟩⟩:=y;cases h;rfl
theorem qhk{l:List Str}(h:sortedS l=true)(n:l.Nodup):l.Pairwise λa b=>a.cps.toList<b.cps.toList:=by
 have:=(sorted_all h).and n;refine this.imp λ{a b} q=>?_
 by_cases z:a.cps.toList<b.cps.toList
 ·exact z
 ·exact absurd (qhK (List.le_antisymm (vV.mp q.1) (vV.mp z))) q.2
theorem qex(nms:List Str):(nms.map V.str).all flatV=true:=by
 rw[yH];intro v hv;obtain⟨x,_,rfl⟩:=rG.mp hv;rfl
theorem qdm{α β:Type}(f:α->β){ts:List α}{i:Nat}{t:α}(h:ts[i]?=some t):(ts.take (i+1)).map f=(ts.take i).map f++[f t]:=by
 rw[rO,h,qT];rfl
theorem qcH{as:List Addr}{i:Nat}{x:V}(h:(as.map V.ref)[i]?=some x):∃a,as[i]?=some a/\x=.ref a:=by
 rw[qR]at h;cases e:as[i]? with
 | none=>rw[e]at h;cases h
 | some t=>rw[e]at h;cases h;exact⟨t,rfl,rfl⟩
end Gen
namespace Gen
open PySem L2 Bk PyProof.Rows
theorem qhI(ks:List Str):(once ks).length<=ks.length:=by
 have:∀(a b:List Str),(a.foldl one1 b).length<=a.length+b.length:=by
  intro a
  induction a with
  | nil=>intro b;simp
  | cons x a ih =>
    intro b
    rw[yO]
    have h1:=ih (one1 b x)
    have h2:=qgT b x
    have h3:(one1 b x).length<=b.length+1:=by rw[h2];split<;>omega
    simp only[List.length_cons]
    omega
 simpa[once]using this ks []
end Gen
namespace Gen
open PySem L2 Bk
end Gen
namespace L2
theorem qbf{t u:TS}{D:Ends}{σ:St}{H:Hp}(P:St->Hp->Prop)(h:∀D':Ends,(∀σ' H',P σ' H'->D'.nx σ' H')->t D' σ H)(k:∀σ' H',P σ' H'->u D σ' H'):tSeq t u D σ H:=h _ k
theorem qe9{c:TT}{t u:TS}{D:Ends}{σ:St}{H:Hp}(P:Bool->Hp->Prop)(h:∀Q:Bool->Hp->Prop,(∀b H',P b H'->Q b H')->c σ H Q)(k:∀b H',P b H'->if b=true then t D σ H' else u D σ H'):tIfS c t u D σ H:=h _ k
end L2
namespace Gen
open PySem L2 Bk
theorem kdt(k k':Kd):decide (V.str k.s=V.str k'.s)=decide (k=k'):=by
 by_cases h:k=k'
 ·rw[qC h,h];simp
 ·rw[qB h];exact qB λz=>h ((Kd.inj k k').mp (V.str.inj z))
end Gen
namespace Bk
open PySem L2
open PySem.W (Dat kqdOk)
def thgD:Sum Str Int->Dat
 | .inl w=>.str w
 | .inr k=>.int k
def thD:Th->Dat
 | .int n=>.int n
 | .tri s x t=>.tuple [.str s.s,thgD x,.int t]
def ndD(d:Nd):Dat:=.tuple [.int d.e,.str d.k.s,.str d.nm,.list (d.mks.map Dat.str),.list (d.st.map thD)]
def bkD(ds:List Nd):Dat:=.list (ds.map ndD)
section
variable{N:Addr->Prop}{H:Hp}
theorem th_in{v:V}{x:Th}(h:ItAt N H v x):DIn H v (thD x):=by
 cases x with
 | int n=>cases h;exact .int n
 | tri s x t =>
   obtain⟨a,rfl,_,e⟩:=h
   refine .tup e (.cons (.str _) (.cons ?_ (.cons (.int _) .nil)))
   cases x with
   | inl w=>exact .str w
   | inr k=>exact .int k
theorem qfA{vs:List V}{l:List Th}(p:Paired (ItAt N H) vs l):DAll H vs (l.map thD):=by
 induction p with
 | nil=>exact .nil
 | cons q t ih=>exact .cons (th_in q) ih
theorem nd_in{a:Addr}{d:Nd}(h:NdAt N H a d):DIn H (.ref a) (ndD d):=by
 obtain⟨_,m,s,e,_,em,_,vs,es,p⟩:=h;exact .tup e (.cons (.int _) (.cons (.str _) (.cons (.str _) (.cons (.lst em (qg3 _)) (.cons (.lst es (qfA p)) .nil)))))
theorem nds_in{as:List Addr}{ds:List Nd}(p:NdsAt N H as ds):DAll H (as.map V.ref) (ds.map ndD):=by
 induction p with
 | nil=>exact .nil
 | cons q t ih=>exact .cons (nd_in q) ih
theorem bk_in{p:Addr}{ds:List Nd}(h:BookAt N H p ds):DIn H (.ref p) (bkD ds):=by
 obtain⟨as,e,q⟩:=h;exact .lst e (nds_in q)
end
theorem low_str{x:Str}(h:∀c∈x.cps.toList,c<128):PyData.strOk x=true:=by
 show(x.cps.all λc=>decide (c<0x110000))=true;rw[yG];intro c hc;have:=h c (by simpa using hc);exact qC (by omega)
theorem kd_str(k:Kd):PyData.strOk k.s=true:=by cases k<;>ac_rfl
theorem qeS(s:So):PyData.strOk s.s=true:=by cases s<;>ac_rfl
theorem word_low:∀c∈wordSigns,c<128:=by decide
theorem qg0{w:Str}(h:Word w):PyData.strOk w=true:=low_str λc hc=>word_low c (h.2.2 c hc)
theorem qd0{n:Str}(h:n=noName\/Name n):PyData.strOk n=true:=by
 rcases h with rfl | h
 ·ac_rfl
 ·exact Gen.small_str h.2.2
def bodyNd:Nd:=⟨-1,.body,noName,[],[]⟩
theorem body_form:Form bodyNd:=⟨.inl rfl,⟨by decide,(λm hm=>nomatch hm),List.Pairwise.nil⟩,rfl⟩
end Bk
namespace Gen
open PySem L2 Bk
end Gen
namespace L2
open PySem PySem.Spec PyProof.Rows
def TJ:=Str->St->Hp->VK->Prop
def PJ(X:Cx)(es:List Expr)(t:TJ):Prop :=
 ∀(out:Str) (pins:List (Addr×Obj)) (s:Shared) (σ:St) (H:Hp) (Q:VK),Inv X pins σ H s->t out σ H Q->wpAny (model X.prog X.w) X.A (joinParts out (evalEach es X.env)) (EP X pins σ Q) X.xe s
def tJnil:TJ:=λout _ H Q=>out.length<=sizeLine/\Q (.str out) H
def qg6(te:TE)(t:TJ):TJ:=λout σ H Q=>te σ H λx H1=>∃y,x=.str y/\(out++y).length<=sizeLine/\t (out++y) σ H1 Q
section
variable{X:Cx}{e a b:Expr}{es:List Expr}{te:TE}{t:TJ}{pos:Pos}
theorem pj_nil:PJ X [] tJnil:=λout pins s σ H Q I h=>joinParts_nil ⟨.str out,H,I.tok _,⟨_,rfl⟩,h.2⟩ h.1
theorem qhm(he:PE X e te)(hr:PJ X es t)(hs:evalEach (e::es) X.env=eval e X.env::evalEach es X.env:=by rfl):PJ X (e::es) (qg6 te t):=by
 intro out pins s σ H Q I h;rw[hs];refine joinParts_cons (thn (he pins s σ H _ I h) λv s1 ⟨x,H1,I1,r1,q1⟩=>?_);obtain⟨y,rfl,hz,q⟩:=q1;obtain⟨tk,rfl⟩:=r1;exact⟨hz,hr (out++y) pins s1 σ H1 Q I1 q⟩
theorem pe_joined(h:PJ X (a::b::es) t)(hs:evalEach (a::b::es) X.env=eval a X.env::eval b X.env::evalEach es X.env:=by rfl):PE X (.JoinedStr (a::b::es) pos) (λσ H Q=>t Str.empty σ H Q):=by
 intro pins s σ H Q I hq;refine JoinedStr_many ?_;rw[<-hs];exact h Str.empty pins s σ H Q I hq
end
structure FunD(K:W.Frag)(x qual:Str)(st:Stmt)(f:Addr)(fd:FuncData):Prop where
 ex:∃(oc:Value) (od:Option Addr) (dV kV doc pm:Value) (an:Option Addr) (cdv ct:Value) (osl:Array (Option Value)),
  fd=PySem.W.fnOf x qual (qbE st) (qbq st) (qai st) dV kV doc pm an cdv ct/\K.lookup f=some ⟨oc,od,.func fd,osl⟩/\PySem.W.codeIn K cdv qual=true
 kp:PySem.W.keepIn K (.ref f)=true
theorem FunD.ok{P:Program}{w:World}{K:W.Frag}{mg:Str->Option Value}{base:Heap}{CX:CXT}{x qual:Str}{st:Stmt}{f:Addr}{fd:FuncData}{N ps:List Str}{k:Nat}{sp:Sp}(F:FunD K x qual st f fd)(S:FnScope N ps (qai st))(len:∀vs H Q E,sp vs H Q E->vs.length=ps.length)(hbody:∀(cdv:Value) (A:Around) (outer:List Env) (s:Shared) (H:Hp) (vs:List V) (Q:VK) (E:XK),Room k (A.deeper (envOfC qual (qai st) s.heap.objs.size f cdv))->sp vs H Q E ->
   ∃t,PSs (cxOf CX P w K mg base N qual (qai st) f cdv A outer s H E) (qbq st) t/\t {nx:=λ_ H'=>Q .non H',rt:=Q} (qfw N vs) H):FnOk P w K mg base CX (k+1) f fd ps sp:=by
 obtain⟨oc,od,dV,kV,doc,pm,an,cdv,ct,osl,rfl,lk,hcd⟩:=F.ex;exact qiA lk hcd S len λA outer s H vs Q E hr hsp=>hbody cdv A outer s H vs Q E hr hsp
theorem fund_mk{K:W.Frag}{x qual:Str}{st:Stmt}{f:Addr}{oc:Value}{od an:Option Addr}{osl:Array (Option Value)}{dV kV doc pm cdv ct:Value}(l:K.lookup f=some ⟨oc,od,.func (PySem.W.fnOf x qual (qbE st) (qbq st) (qai st) dV kV doc pm an cdv ct),osl⟩)(c:PySem.W.codeIn K cdv qual=true)(k:PySem.W.keepIn K (.ref f)=true):FunD K x qual st f (PySem.W.fnOf x qual (qbE st) (qbq st) (qai st) dV kV doc pm an cdv ct) :=
 ⟨⟨oc,od,dV,kV,doc,pm,an,cdv,ct,osl,rfl,l,c⟩,k⟩
theorem own_at{K:W.Frag}{h:Heap}{mg:Str->Option Value}{x:Str}{C:Addr}{bm:List Value}{newId:String}(X:K.In h)(G:h.Ns mainGlobals mg)(e:PySem.W.nsIn K mainGlobals x=some (some (.ref C)))(q:PySem.W.excIn K C bm newId=true):OwnCls x C bm newId mg h:=by
 refine⟨PySem.W.mg_of X G e,?_⟩;simp only[PySem.W.excIn]at q
 split at q
 case h_2=>exact absurd q qF
 case h_1 dd cd sl hK =>
  split at q
  case h_2=>exact absurd q qF
  case h_1 C2 tl a0 a1 a2 a3 nn a5 em es =>
   simp only[Bool.and_eq_true,beq_iff_eq,Bool.not_eq_true']at q;have q1:=q.1.1.1.1.1;have q2:=q.1.1.1.1.2;have q3:=q.1.1.1.2;have q4:=q.1.1.2;have q5:=q.1.2;have q6:=q.2;subst q1 q2;cases cd;cases sl;simp only at em q3 q5 q6 es;subst em q3 es;exact⟨tl,_,_,_,_,_,_,_,_,_,dd,a0,a1,a2,a3,a5,_,X _ _ hK,.of_isNs (PySem.W.isNs_of_in X q5),PySem.W.nsMap_none_of_in X q5 q6,PySem.W.tail_of_in X q4⟩
section
variable{X:Cx}{e:Expr}{te:TE}{pos:Pos}
theorem qcn{i:Int}(h:i.natAbs<10 ^ 100):i.natAbs.log2<1920:=by
 by_cases z:i.natAbs=0
 ·rw[z];decide
 ·exact(Nat.log2_lt z).mpr (rB h (by ac_rfl))
theorem pe_fmtI(he:PE X e te):PE X (.FormattedValue e (-1) none pos) (λσ H Q=>te σ H λx H1=>∃i:Int,x=.int i/\i.natAbs<10 ^ 100/\((Str.ofString (toString i)).length<=1921->Q (.str (Str.ofString (toString i))) H1)):=by
 intro pins s σ H Q I hq;refine FormattedValue_plain (thn (he pins s σ H _ I hq) λv s1 ⟨x,H1,I1,r1,q1⟩=>?_);obtain⟨i,rfl,hz,q⟩:=q1;obtain⟨tk,rfl⟩:=r1;refine formatField_int_small (qcn hz) ⟨.str (Str.ofString (toString i)),H1,(I1.tok _).tok _,⟨_,rfl⟩,q ?_⟩;rw[PySem.ofString_length];exact PySem.int_text_length_le (k:=1920) (by decide) (qcn hz)
end
theorem pg_tupK{X:Cx}{es:List Expr}{k:Nat}{t:TGs}{n:Nat}{pos:Pos}(K:W.Frag)(hK:X.K=K)(hc:X.calm=true)(h:PGs X es t)(hn:(assignEach es X.env).length=n:=by rfl)(hst:(assignEach es X.env).findIdx? (·.1)=none:=by rfl):PG X (.Tuple es k pos) (gTup K n t):=by
 subst hK;exact qes hc h hn hst
end L2
namespace Gen
open PySem L2 Bk
section
variable{X:Cx}
theorem qdY{e:Expr}{te:TE}{T:Str}{T':String}{p1 p2 pos:Pos}(hi:X.mg "isinstance" = none)(g1:Gl X "isinstance")(hT:X.mg T=none)(gT:Gl X T)(bT:bootBuiltins T=some (.type T'))(he:PE X e te)(hn:T ≠ "__name__":=by decide)(hd:(T == ("__debug__" : Str))=false:=by decide)(h1:starEach [e,.Name T p2] X.env=(false,eval e X.env)::starEach [.Name T p2] X.env:=by rfl)(h2:starEach [.Name T p2] X.env=(false,eval (.Name T p2) X.env)::starEach [] X.env:=by rfl)(h3:(backTo pos (starEach [.Name T p2] X.env)).any (·.1)=false:=by rfl) :
  PE X (.Call (.Name "isinstance" p1) [e,.Name T p2] [] pos) (tCB (λxs H Q=>∃x c t b,xs=[x,c]/\TyOf X.K H x t/\(∃cv,(∀u,RelV c u->u=cv)/\PySem.W.kitOne X.K t cv=some b)/\Q (.bl b) H) (qfu te (qfu (tC (.ty T')) tNil))) :=
 qam call_isinst g1 hi b_isinstance (qaa he (qaa (pe_bltn (v:=.ty T') gT hT bT rfl hn hd) pa_nil h2) h1) (by decide) (by decide) h1 h3
end
section
variable{K:W.Frag}
theorem k_ii:PySem.W.kitOne K (.type "int") (.type "int")=some true:=by unfold PySem.W.kitOne;rw[if_pos (by decide)]
theorem k_ib:PySem.W.kitOne K (.type "int") (.type "bool")=some false:=by
 unfold PySem.W.kitOne;rw[if_neg (by decide)];show(if PySem.W.kitMeta "bool" = true then PySem.W.subIn K (.type "int") (.type "bool")else none)=_;rw[if_pos (by ac_rfl)];show(fastBuiltinMro "int").map (·.contains (Value.type "bool"))=some false;ac_rfl
theorem k_ss:PySem.W.kitOne K (.type "str") (.type "str")=some true:=by unfold PySem.W.kitOne;rw[if_pos (by decide)]
theorem k_ll:PySem.W.kitOne K (.type "list") (.type "list")=some true:=by unfold PySem.W.kitOne;rw[if_pos (by decide)]
theorem k_tt:PySem.W.kitOne K (.type "tuple") (.type "tuple")=some true:=by unfold PySem.W.kitOne;rw[if_pos (by decide)]
end
end Gen
namespace L2
open PySem PySem.Spec PyProof.Rows
theorem turn_str{P:Program}{w:World}{K:W.Frag}{tg:Expr}(x:Str)(t:Tok)(it:Addr):Turn P w K tg (Its x) [it] it (λi h=>h.IsStrIter it "str_ascii_iterator" x t i) where
 mem:=by simp
 obj:=λi h st b hb=>by
  have e:b=it:=by simpa using hb
  subst e;obtain⟨o,e,c,d⟩:=st;exact⟨o,e,λv z=>by rw[d]at z;cases z⟩
 keep:=λi h h' st k=>by
  obtain⟨o,ho,r⟩:=st;exact⟨o,k it (by simp) o ho,r⟩
 item:=by
  intro X hP hw hK hc i pins s σ H E I hf st hg;subst hP hw hK;have hg':i<x.cps.size:=hg;obtain⟨f0,f1,f2,f3,f4,f5⟩:=hf it (by simp);have hx:x.cps[i]?=some x.cps[i]:=by simp[hg']
  refine wpAny_pyNext_ascii_item st hx λh' st' sb=>?_
  have I1:Inv X pins σ H {s with heap:=h',toks:=s.toks+1}:=I.turned (t':=s.toks+1) (λb o hb e=>(sb.2 b hb).trans e) f0 f1 f3 f4 f5;obtain⟨o,e,c,d⟩:=id st';exact⟨_,rfl,qhY (s:={s with heap:=h',toks:=s.toks+1}) e c d (by decide) ⟨.str ⟨#[x.cps[i]]⟩,H,I1,⟨_,rfl⟩,⟨rfl,_,hx,rfl⟩,st',λb hb=>(hf b hb).1⟩⟩
 done:=by
  intro X hP hw hK hc i pins s σ H E I hf st hg;subst hP hw hK;have hg':x.cps.size<=i:=hg;obtain⟨f0,f1,f2,f3,f4,f5⟩:=hf it (by simp);exact wpAny_pyNext_ascii_end (I.ok.hd hc) st (by simp[hg']) λh' eb=>⟨rfl,I.turned (t':=s.toks) (λb o hb e=>eb b o hb e) f0 f1 f3 f4 f5⟩
 self:=λ_ _ _ _ _ st h=>wpAny_pyIter_striter_ascii st h
def iStr(tl:TE):TI:=λσ H R=>tl σ H λx H1=>∃z,x=.str z/\z.cps.all (·< 128)=true/\R (Its z) H1
section
variable{X:Cx}{tg:Expr}
theorem qhL{l:Expr}{tl:TE}(hl:PE X l tl):PI X tg l (iStr tl):=by
 intro pins s σ H R I h;refine thn (hl pins s σ H _ I h) λv s1 ⟨x,H1,I1,r1,q1⟩=>?_
 obtain⟨z,rfl,ha,q⟩:=q1;obtain⟨t,rfl⟩:=r1;refine wpAny_pyIter_ascii ha ?_;refine⟨s1.heap.objs.size,[s1.heap.objs.size],_,_,H1,rfl,I1.kept (t':=s1.toks) λb o e=>qL _ e,turn_str z t _,⟨_,rE _ rfl,rfl,rfl⟩,λb hb=>?_,q⟩;have e:b=s1.heap.objs.size:=by simpa using hb
 subst e;exact I1.fpOk (qN _) (I1.hok.fresh (qN _))
end
theorem qfe{x:Str}{own:Nat}{ix:List Nat}{g:TG}{tt:TT}{te:TE}{σ:St}{H:Hp}{Q:VK}(Pv:Nat->List V->St->Hp->Prop)(hz:x.cps.size<sizeLine)(h0:Pv 0 [] (qcF own ix σ) H)(hl:∀i ys σ' H',i<=x.cps.size->Pv i ys σ' H'->ys.length<=i)(hs:∀i c ys σ' H',x.cps[i]?=some c->Pv i ys σ' H'->g (.str ⟨#[c]⟩) σ' H' λσ2 H3=>tt σ2 H3 λb H4=>if b=true then te σ2 H4 λv H5=>Pv (i+1) (ys++[v]) σ2 H5 else Pv (i+1) ys σ2 H4)(hd:∀ys σ' H',Pv x.cps.size ys σ' H'->∀D,H' D=none->Q (.ref D) (upd H' D (.lst ys))):qds own ix g tt te (Its x) σ H Q:=by
 refine⟨λi m ys σ H=>m=x.cps.size-i/\i<=x.cps.size/\Pv i ys σ H,⟨x.cps.size,by simp,rS _,h0⟩,?_⟩;rintro i m ys σ H ⟨rfl,hi,p⟩;have hy:=hl i ys σ H hi p;refine⟨by omega,?_⟩
 by_cases hlt:i<x.cps.size
 ·refine .inr ⟨hlt,Pv (i+1),λzs σ' H' p'=>⟨x.cps.size-(i+1),by omega,rfl,hlt,p'⟩,λv H' y=>?_⟩;obtain⟨e,c,hc,e2⟩:=y;subst e e2;exact hs i c ys σ _ hc p
 ·have e:i=x.cps.size:=by omega
  subst e;exact .inl ⟨qN _,hd ys σ H p⟩
theorem qd8{K:W.Frag}{a:Addr}{xs:List V}{g:TG}{tb:TS}{D:Ends}{σ:St}{H:Hp}(Pv:Nat->St->Hp->Prop)(h0:Pv 0 σ H)(hl:∀i σ H,i<=xs.length->Pv i σ H->SqL K H a xs)(hs:∀i x σ H T,xs[i]?=some x->H T=none->Pv i σ H->g (.ref T) σ (upd H T (.tup [.int (i:Nat),x])) λσ2 H2=>tb {D with nx:=Pv (i+1),ct:=Pv (i+1),bk:=D.nx} σ2 H2)(hd:∀σ H,Pv xs.length σ H->D.nx σ H) :
  ∃W:Nat->Nat->St->Hp->Prop,(∃m,W 0 m σ H)/\∀i m σ H,W i m σ H ->
   ((Ite K a).stop i H/\D.nx σ H)\/((Ite K a).go i H/\∃N:St->Hp->Prop,(∀σ' H',N σ' H'->∃m',m'<m/\W (i+1) m' σ' H')/\∀x H',(Ite K a).yld i H x H'->g x σ H' λσ2 H2=>tb {D with nx:=N,ct:=N,bk:=D.nx} σ2 H2):=by
 refine⟨λi m σ H=>m=xs.length-i/\i<=xs.length/\Pv i σ H,⟨xs.length,by simp,rS _,h0⟩,?_⟩;rintro i m σ H ⟨rfl,hi,p⟩;have q:=hl i σ H hi p
 by_cases hlt:i<xs.length
 ·refine .inr ⟨⟨xs,xs[i],q,by simp[hlt]⟩,Pv (i+1),λσ' H' p'=>⟨xs.length-(i+1),by omega,rfl,hlt,p'⟩,λx H' y=>?_⟩;obtain⟨T,z,hT,e1,e2,y⟩:=y;subst e1 e2;exact hs i z σ _ T (y xs q) hT p
 ·have e:i=xs.length:=by omega
  subst e;exact .inl ⟨⟨xs,q,qN _⟩,hd σ H p⟩
def rInS(neg:Bool):R2:=λx y H Q=>∃(c:Nat) (j:Str),x=.str ⟨#[c]⟩/\y=.str j/\Q (.bl (if neg=true then !decide (c∈j.cps.toList)else decide (c∈j.cps.toList))) H
theorem qeQ{X:Cx}:OpR X (compareOp .In) (rInS false):=by
 intro pins s σ H x y v u Q I rx ry h;obtain⟨c,j,rfl,rfl,q⟩:=h;refine op_in_str pins s σ H _ _ v u Q I rx ry ⟨_,j,rfl,rfl,?_⟩;rw[StrLaws.found_one];exact q
structure KDict(P:Program)(w:World)(K:W.Frag)(a:Addr)(kvs:List (Key×Value)):Prop where
 ex:∃o es ep,K.lookup a=some o/\o.ExactDict/\o.data=.dict es ep/\KeysOf (qbh P w) es/\Pairs (qbh P w) es.toList kvs/\(kvs.map (·.1)).Nodup
def rIxD(P:Program)(w:World)(K:W.Frag):R2:=λx y H Q=>∃(a:Addr) (k:Str) (kvs:List (Key×Value)) (u:Value) (v:V),x=.ref a/\y=.str k/\KDict P w K a kvs/\valueAt kvs (.inr k)=some u/\RelV v u/\Q v H
theorem ix_kdict{X:Cx}:IxR X (rIxD X.prog X.w X.K):=by
 intro value slice pins s σ H x y v u Q I rx ry h hs;obtain⟨a,k,kvs,z,zv,rfl,rfl,⟨o,es,ep,lk,ed,dt,ko,pr,nd⟩,hv,rz,q⟩:=h;cases rx;obtain⟨t,rfl⟩:=ry;have ho:s.heap.get? a=some o:=I.bk a o (I.mod.kin a o lk);have dd:s.heap.DictOf (qbh X.prog X.w) a kvs:=⟨o,es,ep,ho,ed,dt,ko,pr,nd⟩;have fin:∀s',Inv X pins σ H s'->EP X pins σ Q z s':=λs' I'=>⟨zv,H,I',rz,q⟩
 exact uY (x:=z) dd.typeIs PySem.F.slot_dict_getitem.lookup
  (wpAny_getItem_of (Q:=λr s'=>r=z/\EP X pins σ Q r s') (qaT _ _ _ _) dd.mapOf hv ⟨rfl,fin _ (I.tok _)⟩) hs
def repS(z:Str)(n:Nat):Str:=⟨(List.replicate n z.cps).foldl (·++ ·) #[]⟩
def rMulS:R2:=λx y H Q=>∃(z:Str) (n:Nat),x=.str z/\y=.int n/\z.length=1/\n<=1000/\Q (.str (repS z n)) H
theorem qgN{α:Type}(a:Array α):∀(n:Nat) (acc:Array α),((List.replicate n a).foldl (·++ ·) acc).size=acc.size+n*a.size
 | 0,acc=>by simp
 | n + 1, acc => by
   rw[rN,yO,qgN a n,Array.size_append,Nat.succ_mul]
   omega
theorem qgd(z:Str)(n:Nat):(repS z n).length=n*z.length:=by
 show((List.replicate n z.cps).foldl (·++ ·) #[]).size=_;rw[qgN];simp;rfl
section
variable{X:Cx}
theorem op_mulS:OpR X (binaryOp .Mult) rMulS:=by
 intro pins s σ H x y v u Q I rx ry h;obtain⟨z,n,rfl,rfl,hz,hn,q⟩:=h;obtain⟨t,rfl⟩:=rx;obtain⟨t',rfl⟩:=ry;refine PySem.P.mul_str ?_ ?_ ?_ ?_
 ·simp;omega
 ·intro h1 h2 h3;rw[hz]at h3;have:(1:Int)<=(2 ^ 63-1) / (n:Int):=by
   rw[Int.le_ediv_iff_mul_le (by omega)];omega
  omega
 ·intro h1 h2;rw[hz];unfold Builtin.Str.tooLong sizeLine
  exact decide_eq_false (by have : (2 : Nat) ^ 24 = 16777216 := by decide
                            simp;omega)
 ·by_cases h1:(n:Int)<1
  ·rw[if_pos h1];have e:n=0:=by omega
   subst e;exact⟨by decide,⟨.str (repS z 0),H,I.tok _,⟨_,rfl⟩,q⟩⟩
  ·rw[if_neg h1]
   by_cases h2:(((n:Int) == 1) || z.length == 0)=true
   ·rw[if_pos h2];have e:n=1:=by
     rw[hz]at h2;simp at h2;omega
    subst e;have ez:repS z 1=z:=by
     unfold repS;simp
    rw[ez]at q;exact⟨.str z,H,I,⟨_,rfl⟩,q⟩
   ·rw[if_neg h2];refine⟨?_,⟨.str (repS z n),H,I.tok _,⟨_,rfl⟩,q⟩⟩;show(repS z n).length<=sizeLine;rw[qgd,hz];have:sizeLine=16777216:=by decide
    omega
theorem strs_of:∀{zs:List Str} {us:List Value},Vals (zs.map V.str) us->∃l:List (Str×Tok),us=strValues l/\l.map (·.1)=zs
 | [],_,.nil=>⟨[],rfl,rfl⟩
 | z :: zs, _, .cons ⟨t, h⟩ r => by
   obtain⟨l,e1,e2⟩:=strs_of r
   subst h e1
   exact⟨(z,t)::l,rfl,by rw[r8,e2]⟩
theorem qhc{B:Nat}:∀{zs:List Str},(∀z∈zs,z.length<=B)->(zs.map (·.length)).sum<=zs.length*B
 | [],_=>by simp
 | z :: r, h => by
   have h1:=h z qM
   have h2:=qhc (zs:=r) λy hy=>h y (qQ _ hy)
   simp only[List.map_cons,List.sum_cons,List.length_cons,Nat.succ_mul]
   omega
def rJoin(K:W.Frag):V->List V->Hp->VK->Prop:=λx xs H Q=>∃(sep:Str) (p:Addr) (zs:List Str),x=.str sep/\xs=[.ref p]/\SqL K H p (zs.map V.str)/\(∀z∈zs,z.length<=5000)/\zs.length<=1000/\sep.length<=10/\Q (.str (Str.join sep zs)) H
theorem mt_join:MtR X "str.join" (rJoin X.K):=by
 intro pins s σ H x xs v us Q I rx rv h;obtain⟨sep,p,zs,rfl,rfl,hq,hb,hn,hs,q⟩:=h;obtain⟨t,rfl⟩:=rx;obtain⟨u,rfl,ru⟩:=Vals.one rv;cases ru;obtain⟨its,rv,pl,hz⟩:=I.list hq;obtain⟨l,e1,e2⟩:=strs_of rv;have hj:Txt.join sep zs=Str.join sep zs:=StrLaws.glued_eq_join sep zs;refine PySem.SC.join (l:=l) (texts:=zs) (by rw[<-e1];exact pl.isList) e2 (joinOk_of ?_) λt' k=>⟨.str (Txt.join sep zs),H,I.tok k,⟨_,rfl⟩,by rw[hj];exact q⟩
 have h1:=qhc hb;have h2:zs.length*sep.length<=1000*10:=Nat.mul_le_mul hn hs;have h3:zs.length*5000<=1000*5000:=u7 _ hn;omega
end
end L2
namespace Gen
open PySem L2 Bk
def qaX(ds:List Nd)(n:Int)(i:Nat):List Int:=((List.range i).filter λj=>decide (ds[j]?.map Nd.e=some n)).map λ(j:Nat)=>(j:Int)
theorem qcW{ds:List Nd}{n:Int}{i:Nat}{d:Nd}(h:ds[i]?=some d)(e:d.e=n):qaX ds n (i+1)=qaX ds n i++[(i:Int)]:=by
 unfold qaX;rw[u9,xQ,qT];simp[h,e]
theorem qdx{ds:List Nd}{n:Int}{i:Nat}{d:Nd}(h:ds[i]?=some d)(e:¬d.e=n):qaX ds n (i+1)=qaX ds n i:=by
 unfold qaX;rw[u9,xQ,qT];simp[h,e]
theorem qb6(ds:List Nd)(n:Int)(i:Nat):(qaX ds n i).length<=i:=by
 unfold qaX;rw[qA];exact qS (xL ..) (by simp)
def qdL(C:Addr):Sp:=λvs H Q E=>∃(p:Addr) (n:Int) (ds:List Nd) (N:Addr->Prop),vs=[.ref p,.int n]/\BookAt N H p ds/\ds.length<=1000/\n.natAbs<10 ^ 50 /\
 ((¬ (0<=n/\n < ds.length)/\∀ H',Same H H'->E (.ref C) none H') \/
  ((0<=n/\n<ds.length)/\∀l H',H l=none->Same H H'->H' l=some (.lst ((qaX ds n ds.length).map V.int))->Q (.ref l) H'))
end Gen
namespace Bk
open PySem L2 Gen
abbrev T(x:String):Str:=Str.ofString x
def qcu(t:Int):Str:=repS (T "*") t.toNat
def thS:Th->Str
 | .int n=>T (toString n)
 | .tri .note _ _=>T "{}"
 | .tri .page (.inl n) t=>qcu t++T "{" ++ n++T "}"
 | .tri .word (.inl w) t=>qcu t++w
 | _=>noName
def w1(d:Nd):List Str:=if d.nm=noName then[]else[T "#" ++ d.nm]
def w2(d:Nd):List Str:=d.mks.map (T "." ++ ·)
def w3(d:Nd):List Str:=if d.st.length>0 then T "|" :: d.st.map thS else[]
def qdR(d:Nd):Str:=Str.join (T " ") (((d.k.s::w1 d)++w2 d)++w3 d)
def r1(r:Str)(d:Nd):Str:=if d.nm=noName then r else r++T " #" ++ d.nm
def r2(r:Str)(l:List Str):Str:=l.foldl (λr m=>r++T " ." ++ m) r
def lawS(pre:Str)(d:Nd):Str:=if d.st.length>0 then r2 (r1 (pre++d.k.s) d) d.mks++T " | " ++ Str.join (T " ") (d.st.map thS)else r2 (r1 (pre++d.k.s) d) d.mks
theorem qcM(x y z:Str):x++y++z=x++(y++z):=qhK (by simp only[qa7,List.append_assoc])
theorem qdB(s x:Str):Str.join s [x]=x:=rfl
theorem qcI(s x y:Str)(r:List Str):Str.join s (x::y::r)=x++s++Str.join s (y::r):=rfl
theorem qd4(s:Str):∀(l m:List Str),l≠[]->m≠[]->Str.join s (l++m)=Str.join s l++s++Str.join s m
 | [],_,h,_=>absurd rfl h
 | [x],[],_,h=>absurd rfl h
 | [x],y::r,_,_=>rfl
 | x :: y :: l, m, _, h => by
   have:=qd4 s (y::l) m (by simp) h
   show x++s++Str.join s ((y::l)++m)=_
   rw[this,qcI]
   simp only[qcM]
theorem join_snoc(s:Str)(l:List Str)(y:Str)(h:l≠[]):Str.join s (l++[y])=Str.join s l++s++y:=qd4 s l [y] h (by simp)
theorem sp_hash:T " #" = T " " ++ T "#":=by ac_rfl
theorem sp_dot:T " ." = T " " ++ T ".":=by ac_rfl
theorem sp_bar:T " | " = T " " ++ T "|" ++ T " ":=by ac_rfl
theorem qf9(pre:Str):∀(ms l:List Str) (r:Str),l≠[]->pre++Str.join (T " ") l=r->pre++Str.join (T " ") (l++ms.map (T "." ++ ·))=r2 r ms
 | [],l,r,hl,h=>by rw[wA,qX];exact h
 | m :: ms, l, r, hl, h => by
   have:=qf9 pre ms (l++[T "." ++ m]) (r++T " ." ++ m) (by simp) (by rw[join_snoc _ _ _ hl,<-h,sp_dot];simp only[qcM])
   rw[r8,List.append_cons]
   exact this
theorem row_is(pre:Str)(d:Nd):pre++qdR d=lawS pre d:=by
 have h1:pre++Str.join (T " ") (d.k.s::w1 d)=r1 (pre++d.k.s) d:=by
  unfold w1 r1
  split
  ·rfl
  ·rw[qcI,qdB,sp_hash];simp only[qcM]
 have h2:pre++Str.join (T " ") ((d.k.s::w1 d)++w2 d)=r2 (r1 (pre++d.k.s) d) d.mks:=qf9 pre d.mks _ _ (by simp) h1;unfold lawS qdR w3
 split
 case isFalse=>rw[qX];exact h2
 case isTrue h =>
  have ne:d.st.map thS≠[]:=by
   intro z;rw[List.map_eq_nil_iff]at z;rw[z]at h;exact absurd h (by decide)
  rw[qd4 _ _ _ (by simp) (by simp),<-h2];rw[show T "|" :: d.st.map thS=[T "|"]++d.st.map thS from rfl,qd4 _ _ _ (by simp) ne,qdB,sp_bar];simp only[qcM]
inductive Lev(ds:List Nd):Nat->Nat->Prop
 | top {i:Nat} {d:Nd}:ds[i]?=some d->d.e=-1->Lev ds i 0
 | up {i j l:Nat} {d:Nd}:ds[i]?=some d->d.e=(j:Int)->j<i->Lev ds j l->Lev ds i (l+1)
theorem qcY{t:Int}(h1:t<=3):(qcu t).length<=3:=by
 unfold qcu;rw[qgd,show(T "*").length=1 by ac_rfl];omega
theorem qe8{n:Int}(h:n.natAbs<10 ^ 100):(T (toString n)).length<=1921:=by
 show(Str.ofString (toString n)).length<=1921;rw[PySem.ofString_length];exact PySem.int_text_length_le (k:=1920) (by decide) (qcn h)
theorem pc_len{x:Th}(h:PcOk x):(thS x).length<=1921:=by
 cases x with
 | int n=>cases h
 | tri s x t =>
   cases s<;>cases x<;>first | (exfalso;exact h) | skip
   · have h1:=h.1.2.1
     have h2:=qcY h.2.2
     show(qcu t++_).length<=1921
     rw[qaW]
     omega
   · have h1:=h.1.2.1
     have h2:=qcY h.2.2
     show(qcu t++T "{" ++ _++T "}").length<=1921
     rw[qaW,qaW,qaW,show(T "{").length=1 by ac_rfl,show(T "}").length=1 by ac_rfl]
     omega
   · show(T "{}").length<=1921
     ac_rfl
theorem qcp{n:Int}(h1:1<=n)(h2:n<=2000):n.natAbs<10 ^ 100:=rB (show n.natAbs<10000 by omega) (by ac_rfl)
theorem st_len{k:Kd}{l:List Th}(h:Stuff k l):l.length<=60/\∀x∈l,(thS x).length<=1921:=by
 cases k<;>first
  | exact⟨h.2.2,λx hx=>pc_len (h.1 x hx)⟩
  | (obtain ⟨a,b,rfl,a1,a2,b1,b2⟩:=h
     refine⟨by show 2<=60;decide,λx hx=>?_⟩
     rcases qV.mp hx with rfl | hx
     · exact qe8 (qcp a1 a2)
     · have:x=.int b:=(by simpa using hx)
       subst this
       exact qe8 (qcp b1 b2))
  | (have:l=[]:=h
     subst this
     exact⟨by decide,λx hx=>nomatch hx⟩)
theorem qgz{B:Nat}(l:List Str)(h:∀x∈l,x.length<=B):(Str.join (T " ") l).length<=l.length*B+l.length:=by
 have h1:=StrLaws.join_length_le (T " ") l;have h2:=qhc h;rw[show(T " ").length=1 by ac_rfl]at h1;omega
theorem qig(k:Kd):k.s.length<=7:=by cases k<;>ac_rfl
theorem qif{n:Str}(h:n=noName\/Name n):n.length<=8:=by
 rcases h with rfl | h
 ·ac_rfl
 ·exact h.2.1
theorem r1_len{r:Str}{d:Nd}(h:d.nm=noName\/Name d.nm):(r1 r d).length<=r.length+10:=by
 unfold r1;have:=qif h
 split
 ·omega
 ·rw[qaW,qaW,show(T " #").length=2 by ac_rfl];omega
theorem r2_len:∀{l:List Str} {r:Str},(∀x∈l,Name x)->(r2 r l).length<=r.length+10*l.length
 | [],r,_=>by simp[r2]
 | m :: l, r, h => by
   have h1:=(h m qM).2.1
   have h2:=r2_len (l:=l) (r:=r++T " ." ++ m) λx hx=>h x (qQ _ hx)
   rw[qaW,qaW,show(T " .").length=2 by ac_rfl]at h2
   show(r2 (r++T " ." ++ m) l).length<=_
   rw[rC]
   omega
end Bk
namespace Gen
open PySem L2 Bk
structure Nums(mg:Str->Option Value):Prop where
 elder:∃t,mg "ELDER" = some (.int 0 t)
 kind:∃t,mg "KIND" = some (.int 1 t)
 name:∃t,mg "NAME" = some (.int 2 t)
 marks:∃t,mg "MARKS" = some (.int 3 t)
 stuff:∃t,mg "STUFF" = some (.int 4 t)
 sort:∃t,mg "SORT" = some (.int 0 t)
 thing:∃t,mg "THING" = some (.int 1 t)
 tone:∃t,mg "TONE" = some (.int 2 t)
def spPiece:Sp:=λvs H Q _=>∃(a:Addr) (s:So) (x:Sum Str Int) (t:Int),vs=[.ref a]/\H a=some (.tup [.str s.s,thV x,.int t])/\PcOk (.tri s x t)/\Q (.str (thS (.tri s x t))) H
def gtS(l:Nat):Str:=repS (T ">") l
theorem sot(k k':So):decide (V.str k.s=V.str k'.s)=decide (k=k'):=by
 by_cases h:k=k'
 ·rw[qC h,h];exact qC rfl
 ·rw[qB h];refine qB λz=>h ?_
  have:=V.str.inj z;rw[So.inj]at this;exact this
theorem nmt(x:Str):decide (V.str x=V.str (Str.ofString ""))=decide (x=noName):=by
 by_cases h:x=noName
 ·rw[qC h,h];exact qC rfl
 ·rw[qB h];exact qB λz=>h (V.str.inj z)
theorem qaR{α β:Type}{F:α->β->Prop}{as:List α}{ds:List β}(h:Paired F as ds){i:Nat}{a:α}(e:as[i]?=some a):∃d,ds[i]?=some d/\F a d:=by
 induction h generalizing i with
 | nil=>cases e
 | @cons a b l1 l2 q t ih =>
   cases i with
   | zero=>cases e;exact⟨b,rfl,q⟩
   | succ i=>exact ih (by simpa using e)
theorem qie(l:Nat):(gtS l).length=l:=by
 unfold gtS;rw[qgd,show(T ">").length=1 by ac_rfl,Nat.mul_one]
end Gen
namespace Bk
open PySem L2 Gen
open PySem.W (Dat kqdOk)
theorem pc_ok8{x:Th}(h:PcOk x):kqdOk 8 (thD x)=true:=by
 cases x with
 | int n=>cases h
 | tri s x t =>
   cases s<;>cases x<;>first | (exfalso;exact h) | skip
   · have:=qg0 h.1
     simp[thD,thgD,kqdOk,this,qeS]
   · have:=qd0 (.inr h.1)
     simp[thD,thgD,kqdOk,this,qeS]
   · simp[thD,thgD,kqdOk,qeS]
end Bk
namespace Bk
open PySem L2 Gen
def Low(x:Str):Prop:=x.cps.all (·< 128)=true
def greatS:Str:=T "ABCDEFGHIJKLMNOPQRSTUVWXYZ"
def figS:Str:=T "0123456789"
def pointS:Str:=T ".,-;:'()!?"
theorem signs_split:wordSigns=small.cps.toList++(greatS.cps.toList++(figS.cps.toList++pointS.cps.toList)):=by ac_rfl
def qeM(x:Str):Bool:=decide (1<=(x.length:Int)/\(x.length:Int)<=20) && (x.cps.toList.map λc=>decide (c∈wordSigns)).all id
def qdM(x:Str):Bool:=decide (1<=(x.length:Int)/\(x.length:Int)<=8) && (x.cps.toList.map λc=>decide (c∈small.cps.toList)).all id
theorem qfP(c:Nat):c∈small.cps.toList↔qg2 c:=by
 rw[small_is];have all:∀c∈[97,98,99,100,101,102,103,104,105,106,107,108,109,110,111,112,113,114,115,116,117,118,119,120,121,122],97<=c/\c<=122:=by ac_rfl
 have back:∀d<26,97+d∈[97,98,99,100,101,102,103,104,105,106,107,108,109,110,111,112,113,114,115,116,117,118,119,120,121,122]:=by ac_rfl
 refine⟨λh=>all c h,λh=>?_⟩;have h1:=h.1;have h2:=h.2;have:=back (c-97) (by omega)
 rwa [show 97+(c-97)=c by omega]at this
theorem all_map{p:Nat->Bool}{l:List Nat}:(l.map p).all id=true↔∀c∈l,p c=true:=by
 rw[yH];constructor
 ·intro h c hc;exact h _ (rG.mpr ⟨c,hc,rfl⟩)
 ·intro h y hy;obtain⟨c,hc,rfl⟩:=rG.mp hy;exact h c hc
theorem qgJ{x:Str}(h:Word x):qeM x=true:=by
 unfold qeM;rw[rH,rA,all_map];exact⟨⟨by have:=h.1;omega,by have:=h.2.1;omega⟩,λc hc=>qC (h.2.2 c hc)⟩
theorem qfa{x:Str}(h:Name x):qdM x=true:=by
 unfold qdM;rw[rH,rA,all_map];exact⟨⟨by have:=h.1;omega,by have:=h.2.1;omega⟩,λc hc=>qC ((qfP c).mpr (h.2.2 c hc))⟩
theorem qek{x:Str}(h:∀c∈x.cps.toList,c<128):Low x:=by
 unfold Low;rw[yG];intro c hc;exact qC (h c (by simpa using hc))
theorem Word.low{x:Str}(h:Word x):Low x:=qek λc hc=>word_low c (h.2.2 c hc)
theorem Name.low{x:Str}(h:Name x):Low x:=qek λc hc=>by have:=(h.2.2 c hc).2;omega
def pieceB:Th->Bool
 | .tri .note (.inr k) t=>decide (0<=k/\k<=60) && decide (0<=t/\t<=0)
 | .tri .word (.inl w) t=>decide (0<=t/\t<=3) && qeM w
 | .tri .page (.inl n) t=>decide (0<=t/\t<=3) && qdM n
 | _=>false
def PcForm:Th->Prop
 | .tri .note (.inr _) _=>True
 | .tri .word (.inl w) _ | .tri .page (.inl w) _ | .tri .sign (.inl w) _=>Low w/\w.length<=1000
 | _=>False
theorem qdq{x:Th}(h:PcOk x):pieceB x=true:=by
 cases x with
 | int n=>cases h
 | tri s x t =>
   cases s<;>cases x<;>first | (exfalso;exact h) | skip
   · show(decide _ && qeM _)=true
     rw[qgJ h.1,wL,rA]
     exact h.2
   · show(decide _ && qdM _)=true
     rw[qfa h.1,wL,rA]
     exact h.2
   · show(decide _ && decide _)=true
     rw[rH,rA,rA]
     exact⟨⟨h.1,h.2.1⟩,by rw[h.2.2];exact⟨Int.le_refl _,Int.le_refl _⟩⟩
end Bk
namespace Gen
open PySem L2 Bk
structure Glob(mg:Str->Option Value):Prop where
 sm:∃t,mg "SMALL_LETTERS" = some (.str small t)
 gr:∃t,mg "GREAT_LETTERS" = some (.str greatS t)
 fi:∃t,mg "FIGURES" = some (.str figS t)
 po:∃t,mg "WORD_POINTS" = some (.str pointS t)
 mw:∃t,mg "MOST_WORD_SIGNS" = some (.int 20 t)
 mn:∃t,mg "MOST_NAME_SIGNS" = some (.int 8 t)
 nodes:∃t,mg "MOST_NODES" = some (.int 60 t)
 marks:∃t,mg "MOST_MARKS" = some (.int 4 t)
 pieces:∃t,mg "MOST_PIECES" = some (.int 60 t)
 level:∃t,mg "GREATEST_LEVEL" = some (.int 6 t)
 tone:∃t,mg "GREATEST_TONE" = some (.int 3 t)
 pict:∃t,mg "GREATEST_PICTURE" = some (.int 2000 t)
def spWhole:Sp:=λvs H Q _=>∃v lo hi:Int,vs=[.int v,.int lo,.int hi]/\Q (.bl (decide (lo<=v/\v<=hi))) H
def spWSign:Sp:=λvs H Q _=>∃c:Nat,vs=[.str ⟨#[c]⟩]/\Q (.bl (decide (c∈wordSigns))) H
def spWordB:Sp:=λvs H Q _=>∃x:Str,vs=[.str x]/\Low x/\x.length<=1000/\∀H',Same H H'->Q (.bl (qeM x)) H'
def spNameB:Sp:=λvs H Q _=>∃x:Str,vs=[.str x]/\Low x/\x.length<=1000/\∀H',Same H H'->Q (.bl (qdM x)) H'
def spPieceB:Sp:=λvs H Q _=>∃(a:Addr) (s:So) (x:Sum Str Int) (t:Int),vs=[.ref a]/\H a=some (.tup [.str s.s,thV x,.int t])/\PcForm (.tri s x t)/\∀H',Same H H'->Q (.bl (pieceB (.tri s x t))) H'
end Gen
namespace K09
open PySem L2 Bk Gen
abbrev sIsWhole:Stmt:=top 10
abbrev sIsWordSign:Stmt:=top 11
abbrev sIsWord:Stmt:=top 12
abbrev sIsName:Stmt:=top 13
abbrev sIsPiece:Stmt:=top 34
section
variable{P:Program}{w:World}{K:W.Frag}{mg:Str->Option Value}{base:Heap}
theorem scIsWhole:FnScope ["value", "low", "high"] ["value", "low", "high"] (qai sIsWhole):=⟨rfl,rfl,rfl,by ac_rfl,rfl,by ac_rfl,by ac_rfl⟩
theorem ok_is_whole{f:Addr}{fd:FuncData}(F:Fun K "is_whole" "is_whole" sIsWhole f fd)(T:Bn mg):FnOk P w K mg base CX0 1 f fd ["value", "low", "high"] spWhole:=by
 refine F.ok scIsWhole (λvs H Q E h=>?_) (λcdv A outer s H vs Q E hr h=>?_)
 ·obtain⟨v,lo,hi,rfl,_⟩:=h;rfl
 ·obtain⟨v,lo,hi,rfl,q⟩:=h;refine⟨_,(qae (qap (qdr (qdY T.isinstance (by rfl) T.int (by rfl) b_int (pv 0)) (qdr (pe_not (qdY T.isinstance (by rfl) T.bool (by rfl) b_bool (pv 0))) (qdb (pe_chain op_le op_le (pv 1) (pv 0) (pv 2))))))),?_⟩;refine⟨_,rfl,_,_,_,_,rfl,.int v,⟨_,λu r=>r,k_ii⟩,_,rfl,iteT ?_⟩;refine⟨_,rfl,_,_,_,_,rfl,.int v,⟨_,λu r=>r,k_ib⟩,_,rfl,_,rfl,iteT ?_⟩;refine⟨_,rfl,_,rfl,_,_,rfl,rfl,_,rfl,?_⟩;refine ite2 (λc=>?_) (λc=>?_)
  ·have c':lo<=v:=rL c;refine⟨_,rfl,_,_,rfl,rfl,?_⟩;have e:decide (lo<=v/\v<=hi)=decide (v<=hi):=by simp[c']
   rw[e]at q;exact q
  ·have c':¬lo<=v:=λz=>c (qC z)
   have e:decide (lo<=v/\v<=hi)=false:=by simp[c']
   rw[e]at q;exact q
theorem scIsWordSign:FnScope ["sign"] ["sign"] (qai sIsWordSign):=⟨rfl,rfl,rfl,by ac_rfl,rfl,by ac_rfl,by ac_rfl⟩
theorem ok_is_word_sign{f:Addr}{fd:FuncData}(F:Fun K "is_word_sign" "is_word_sign" sIsWordSign f fd)(U:Glob mg):FnOk P w K mg base CX0 1 f fd ["sign"] spWSign:=by
 refine F.ok scIsWordSign (λvs H Q E h=>?_) (λcdv A outer s H vs Q E hr h=>?_)
 ·obtain⟨c,rfl,_⟩:=h;rfl
 ·obtain⟨c,rfl,q⟩:=h;obtain⟨_,g_SMALL_LETTERS⟩:=U.sm;obtain⟨_,g_GREAT_LETTERS⟩:=U.gr;obtain⟨_,g_FIGURES⟩:=U.fi;obtain⟨_,g_WORD_POINTS⟩:=U.po;refine⟨_,(qae (qap (qh0 (qa2 qeQ (pv 0) (qak (v:=.str (Str.ofString "abcdefghijklmnopqrstuvwxyz")) (by rfl) g_SMALL_LETTERS ⟨_,rfl⟩) (by with_unfolding_all rfl)) (qh0 (qa2 qeQ (pv 0) (qak (v:=.str (Str.ofString "ABCDEFGHIJKLMNOPQRSTUVWXYZ")) (by rfl) g_GREAT_LETTERS ⟨_,rfl⟩) (by with_unfolding_all rfl)) (qh0 (qa2 qeQ (pv 0) (qak (v:=.str (Str.ofString "0123456789")) (by rfl) g_FIGURES ⟨_,rfl⟩) (by with_unfolding_all rfl)) (qdb (qa2 qeQ (pv 0) (qak (v:=.str (Str.ofString ".,-;:'()!?")) (by rfl) g_WORD_POINTS ⟨_,rfl⟩) (by with_unfolding_all rfl)))))))),?_⟩;rw[signs_split]at q;refine⟨_,rfl,c,small,rfl,rfl,_,rfl,?_⟩;rw[if_neg qF]
  by_cases h1:c∈small.cps.toList
  ·rw[qC h1];rw[qC (yK _ h1)]at q;exact iteT q
  rw[qB h1];refine iteF ⟨_,rfl,c,greatS,rfl,rfl,_,rfl,?_⟩;rw[if_neg qF]
  by_cases h2:c∈greatS.cps.toList
  ·rw[qC h2];rw[qC (rF _ (yK _ h2))]at q;exact iteT q
  rw[qB h2];refine iteF ⟨_,rfl,c,figS,rfl,rfl,_,rfl,?_⟩;rw[if_neg qF]
  by_cases h3:c∈figS.cps.toList
  ·rw[qC h3];rw[qC (rF _ (rF _ (yK _ h3)))]at q;exact iteT q
  rw[qB h3];refine iteF ⟨_,rfl,c,pointS,rfl,rfl,?_⟩;rw[if_neg qF];have e:decide (c∈small.cps.toList++(greatS.cps.toList++(figS.cps.toList++pointS.cps.toList)))=decide (c∈pointS.cps.toList):=by
   simp only[List.mem_append,h1,h2,h3,false_or]
  rw[e]at q;exact q
theorem scIsWord:FnScope ["value"] ["value"] (qai sIsWord):=⟨rfl,rfl,rfl,by ac_rfl,rfl,by ac_rfl,by ac_rfl⟩
theorem ok_is_word{f:Addr}{fd:FuncData}(F:Fun K "is_word" "is_word" sIsWord f fd)(T:Bn mg)(U:Glob mg)(F_is_word_sign:Fx P w K mg base CX0 1 "is_word_sign" ["sign"] spWSign):FnOk P w K mg base CX0 2 f fd ["value"] spWordB:=by
 refine F.ok scIsWord (λvs H Q E h=>?_) (λcdv A outer s H vs Q E hr h=>?_)
 ·obtain⟨x,rfl,_⟩:=h;rfl
 ·obtain⟨x,rfl,lo,le,q⟩:=h;obtain⟨_,g_MOST_WORD_SIGNS⟩:=U.mw;have hr_is_word_sign:=hr;have sz:sizeLine=16777216:=by decide
  have xs:x.cps.size=x.length:=rfl;have xl:x.cps.toList.length=x.length:=yS;refine⟨_,(qad (qaH (PW.pt (qdi (qb0 (qbk (qdY T.isinstance (by rfl) T.str (by rfl) b_str (pv 0)))) (qcg (qb0 (qdA op_le op_le qaf (qam call_len_str (by rfl) T.len b_len (qaa (pv 0) pa_nil)) (qak (v:=.int 20) (by rfl) g_MOST_WORD_SIGNS ⟨_,rfl⟩)))))) (qae (qap qeN)) pss_nil)
   (qae (qap (qam (qcP (by rfl)) (by rfl) T.all b_all (qaa (qbr (own:=["sign"]) (by rfl) (CompScope.plain (by rfl) (by ac_rfl) (by ac_rfl) (by ac_rfl)) (qhL (pv 0)) (λcl C s2 H2 fp=>(qas (i:=0) (by show(["sign"]:List Str).Nodup;ac_rfl) (by rfl) (by trivial) (by trivial))) (λcl C s2 H2 fp=>qbs) (λcl C s2 H2 fp=>(qaB F_is_word_sign hr_is_word_sign (by rfl) qaA (qaa (pv 0) pa_nil)))) pa_nil))))),?_⟩
  refine⟨_,rfl,_,_,_,_,rfl,.str x,⟨_,λu r=>r,k_ss⟩,_,rfl,iteF ?_⟩;refine⟨_,rfl,x,rfl,by omega,_,_,rfl,rfl,_,rfl,?_⟩;have no:¬(1<=(x.length:Int)/\(x.length:Int)<=20)->Q (.bl false) H:=λc=>by
   have:=q H (Same.refl H);unfold qeM at this;rw[qB c,yC]at this;exact this
  refine ite2 (λc1=>?_) (λc1=>?_)
  rotate_left
  ·refine⟨_,rfl,iteT ?_⟩;exact no λz=>c1 (qC z.1)
  refine⟨_,_,rfl,rfl,_,rfl,?_⟩
  by_cases c:1<=(x.length:Int)/\(x.length:Int)<=20
  rotate_left
  ·rw[qB (λz=>c ⟨rL c1,z⟩:¬(x.length:Int)<=20)];exact iteT (no c)
  rw[qC c.2];refine iteF ?_;refine⟨_,rfl,x,rfl,lo,qfe (λi ys σ' H'=>H'=H/\ys=((x.cps.toList.take i).map λc=>decide (c∈wordSigns)).map V.bl/\∃z,σ'=[z]) (by omega) ⟨rfl,rfl,none,rfl⟩ ?_ ?_ ?_⟩
  ·rintro i ys σ' H' hi ⟨rfl,rfl,_⟩;rw[qA,qA,rK];exact yQ _ _
  ·rintro i c ys σ' H' hc ⟨rfl,rfl,z,rfl⟩;refine⟨_,rfl,c,rfl,rfl,?_,_,rfl⟩;rw[xE,xE,qdm (V.bl∘λc=>decide (c∈wordSigns)) (by simpa using hc)];rfl
  ·rintro ys σ' H' ⟨rfl,rfl,_⟩ D hD;have eT:x.cps.toList.take x.cps.size=x.cps.toList:=rZ (by omega);rw[eT];refine⟨D,_,rfl,SqL.of qac,?_⟩;have:=q _ (qab hD (.lst ((x.cps.toList.map λc=>decide (c∈wordSigns)).map V.bl)));unfold qeM at this;rw[qC c,xG]at this;exact this
theorem scIsName:FnScope ["value"] ["value"] (qai sIsName):=⟨rfl,rfl,rfl,by ac_rfl,rfl,by ac_rfl,by ac_rfl⟩
theorem ok_is_name{f:Addr}{fd:FuncData}(F:Fun K "is_name" "is_name" sIsName f fd)(T:Bn mg)(U:Glob mg):FnOk P w K mg base CX0 1 f fd ["value"] spNameB:=by
 refine F.ok scIsName (λvs H Q E h=>?_) (λcdv A outer s H vs Q E hr h=>?_)
 ·obtain⟨x,rfl,_⟩:=h;rfl
 ·obtain⟨x,rfl,lo,le,q⟩:=h;obtain⟨_,g_MOST_NAME_SIGNS⟩:=U.mn;obtain⟨_,g_SMALL_LETTERS⟩:=U.sm;have sz:sizeLine=16777216:=by decide
  have xs:x.cps.size=x.length:=rfl;have xl:x.cps.toList.length=x.length:=yS;refine⟨_,(qad (qaH (PW.pt (qdi (qb0 (qbk (qdY T.isinstance (by rfl) T.str (by rfl) b_str (pv 0)))) (qcg (qb0 (qdA op_le op_le qaf (qam call_len_str (by rfl) T.len b_len (qaa (pv 0) pa_nil)) (qak (v:=.int 8) (by rfl) g_MOST_NAME_SIGNS ⟨_,rfl⟩)))))) (qae (qap qeN)) pss_nil)
   (qae (qap (qam (qcP (by rfl)) (by rfl) T.all b_all (qaa (qbr (own:=["sign"]) (by rfl) (CompScope.plain (by rfl) (by ac_rfl) (by ac_rfl) (by ac_rfl)) (qhL (pv 0)) (λcl C s2 H2 fp=>(qas (i:=0) (by show(["sign"]:List Str).Nodup;ac_rfl) (by rfl) (by trivial) (by trivial))) (λcl C s2 H2 fp=>qbs) (λcl C s2 H2 fp=>(qa2 qeQ (pv 0) (qak (v:=.str (Str.ofString "abcdefghijklmnopqrstuvwxyz")) (by rfl) g_SMALL_LETTERS ⟨_,rfl⟩) (by with_unfolding_all rfl)))) pa_nil))))),?_⟩
  refine⟨_,rfl,_,_,_,_,rfl,.str x,⟨_,λu r=>r,k_ss⟩,_,rfl,iteF ?_⟩;refine⟨_,rfl,x,rfl,by omega,_,_,rfl,rfl,_,rfl,?_⟩;have no:¬(1<=(x.length:Int)/\(x.length:Int)<=8)->Q (.bl false) H:=λc=>by
   have:=q H (Same.refl H);unfold qdM at this;rw[qB c,yC]at this;exact this
  refine ite2 (λc1=>?_) (λc1=>?_)
  rotate_left
  ·refine⟨_,rfl,iteT ?_⟩;exact no λz=>c1 (qC z.1)
  refine⟨_,_,rfl,rfl,_,rfl,?_⟩
  by_cases c:1<=(x.length:Int)/\(x.length:Int)<=8
  rotate_left
  ·rw[qB (λz=>c ⟨rL c1,z⟩:¬(x.length:Int)<=8)];exact iteT (no c)
  rw[qC c.2];refine iteF ?_;refine⟨_,rfl,x,rfl,lo,qfe (λi ys σ' H'=>H'=H/\ys=((x.cps.toList.take i).map λc=>decide (c∈small.cps.toList)).map V.bl/\∃z,σ'=[z]) (by omega) ⟨rfl,rfl,none,rfl⟩ ?_ ?_ ?_⟩
  ·rintro i ys σ' H' hi ⟨rfl,rfl,_⟩;rw[qA,qA,rK];exact yQ _ _
  ·rintro i c ys σ' H' hc ⟨rfl,rfl,z,rfl⟩;refine⟨_,rfl,c,small,rfl,rfl,rfl,?_,_,rfl⟩;rw[xE,xE,qdm (V.bl∘λc=>decide (c∈small.cps.toList)) (by simpa using hc)];rfl
  ·rintro ys σ' H' ⟨rfl,rfl,_⟩ D hD;have eT:x.cps.toList.take x.cps.size=x.cps.toList:=rZ (by omega);rw[eT];refine⟨D,_,rfl,SqL.of qac,?_⟩;have:=q _ (qab hD (.lst ((x.cps.toList.map λc=>decide (c∈small.cps.toList)).map V.bl)));unfold qdM at this;rw[qC c,xG]at this;exact this
theorem scIsPiece:FnScope ["piece"] ["piece"] (qai sIsPiece):=⟨rfl,rfl,rfl,by ac_rfl,rfl,by ac_rfl,by ac_rfl⟩
theorem ok_is_piece{f:Addr}{fd:FuncData}(F:Fun K "is_piece" "is_piece" sIsPiece f fd)(T:Bn mg)(U:Glob mg)(N:Nums mg)(F_is_whole:Fx P w K mg base CX0 1 "is_whole" ["value", "low", "high"] spWhole)(F_is_word:Fx P w K mg base CX0 2 "is_word" ["value"] spWordB)(F_is_name:Fx P w K mg base CX0 1 "is_name" ["value"] spNameB):FnOk P w K mg base CX0 3 f fd ["piece"] spPieceB:=by
 refine F.ok scIsPiece (λvs H Q E h=>?_) (λcdv A outer s H vs Q E hr h=>?_)
 ·obtain⟨a,so,x,t,rfl,_⟩:=h;rfl
 ·obtain⟨a,so,x,t,rfl,ha,fm,q⟩:=h;obtain⟨_,g_SORT⟩:=N.sort;obtain⟨_,g_THING⟩:=N.thing;obtain⟨_,g_TONE⟩:=N.tone;obtain⟨_,g_MOST_PIECES⟩:=U.pieces;obtain⟨_,g_GREATEST_TONE⟩:=U.tone;have hr_is_whole:Room 1 _:=hr.mono (by decide);have hr_is_name:Room 1 _:=hr.mono (by decide);have hr_is_word:=hr;refine⟨_,(qad (qaH (PW.pt (qdi (qb0 (qbk (qdY T.isinstance (by rfl) T.tuple (by rfl) b_tuple (pv 0)))) (qcg (qah op_ne (qam call_len_seq (by rfl) T.len b_len (qaa (pv 0) pa_nil)) qaf (qao _))))) (qae (qap qeN)) pss_nil)
   (qad (qaH (qah op_eq (qan ix_tup (pv 0) (qak (v:=.int 0) (by rfl) g_SORT ⟨_,rfl⟩) (λ_ _=>rfl)) qag (qao _)) (qae (qap (qdr (qaB F_is_whole hr_is_whole (by rfl) qaA (qaa (qan ix_tup (pv 0) (qak (v:=.int 1) (by rfl) g_THING ⟨_,rfl⟩) (λ_ _=>rfl)) (qaa qaf (qaa (qak (v:=.int 60) (by rfl) g_MOST_PIECES ⟨_,rfl⟩) pa_nil)))) (qdb (qaB F_is_whole hr_is_whole (by rfl) qaA (qaa (qan ix_tup (pv 0) (qak (v:=.int 2) (by rfl) g_TONE ⟨_,rfl⟩) (λ_ _=>rfl)) (qaa qaf (qaa qaf pa_nil)))))))) pss_nil)
   (qad (qaH (qb0 (qbk (qaB F_is_whole hr_is_whole (by rfl) qaA (qaa (qan ix_tup (pv 0) (qak (v:=.int 2) (by rfl) g_TONE ⟨_,rfl⟩) (λ_ _=>rfl)) (qaa qaf (qaa (qak (v:=.int 3) (by rfl) g_GREATEST_TONE ⟨_,rfl⟩) pa_nil)))))) (qae (qap qeN)) pss_nil)
   (qad (qaH (qah op_eq (qan ix_tup (pv 0) (qak (v:=.int 0) (by rfl) g_SORT ⟨_,rfl⟩) (λ_ _=>rfl)) qag (qao _)) (qae (qap (qaB F_is_word hr_is_word (by rfl) qaA (qaa (qan ix_tup (pv 0) (qak (v:=.int 1) (by rfl) g_THING ⟨_,rfl⟩) (λ_ _=>rfl)) pa_nil)))) pss_nil)
   (qae (qap (qdr (qa2 op_eq (qan ix_tup (pv 0) (qak (v:=.int 0) (by rfl) g_SORT ⟨_,rfl⟩) (λ_ _=>rfl)) qag (qao _)) (qdb (qaB F_is_name hr_is_name (by rfl) qaA (qaa (qan ix_tup (pv 0) (qak (v:=.int 1) (by rfl) g_THING ⟨_,rfl⟩) (λ_ _=>rfl)) pa_nil)))))))))),?_⟩
  refine⟨_,rfl,_,_,_,_,rfl,.tup ha,⟨_,λu r=>r,k_tt⟩,_,rfl,iteF ?_⟩;refine⟨_,rfl,a,_,rfl,.inr (SqT.of ha),rfl,_,rfl,iteF ?_⟩;refine⟨_,rfl,a,_,_,_,rfl,rfl,SqT.of ha,rfl,rfl,_,rfl,?_⟩;rw[show decide (V.str so.s=V.str (Str.ofString "note"))=decide (so=.note)from sot so .note];cases so<;>cases x<;>first | (exfalso;exact fm) | skip
  ·-- a word
   refine iteF ?_;refine⟨_,rfl,a,_,_,_,rfl,rfl,SqT.of ha,rfl,t,0,3,rfl,_,rfl,?_⟩
   by_cases c:0<=t/\t<=3
   rotate_left
   ·rw[qB c];refine iteT ?_;have:=q H (Same.refl H);dsimp only[pieceB]at this;rw[qB c,yC]at this;exact this
   rw[qC c];refine iteF ?_;refine⟨_,rfl,a,_,_,_,rfl,rfl,SqT.of ha,rfl,rfl,_,rfl,?_⟩;rw[show decide (V.str So.word.s=V.str (Str.ofString "word"))=decide (So.word=.word)from sot .word .word];refine iteT ?_;refine⟨_,rfl,a,_,_,_,rfl,rfl,SqT.of ha,rfl,_,rfl,fm.1,fm.2,λH' s'=>?_⟩;have:=q H' s';dsimp only[pieceB]at this;rw[qC c,xG]at this;exact this
  ·-- a page
   refine iteF ?_;refine⟨_,rfl,a,_,_,_,rfl,rfl,SqT.of ha,rfl,t,0,3,rfl,_,rfl,?_⟩
   by_cases c:0<=t/\t<=3
   rotate_left
   ·rw[qB c];refine iteT ?_;have:=q H (Same.refl H);dsimp only[pieceB]at this;rw[qB c,yC]at this;exact this
   rw[qC c];refine iteF ?_;refine⟨_,rfl,a,_,_,_,rfl,rfl,SqT.of ha,rfl,rfl,_,rfl,?_⟩;rw[show decide (V.str So.page.s=V.str (Str.ofString "word"))=decide (So.page=.word)from sot .page .word];refine iteF ?_;refine⟨_,rfl,a,_,_,_,rfl,rfl,SqT.of ha,rfl,rfl,_,rfl,?_⟩;rw[show decide (V.str So.page.s=V.str (Str.ofString "page"))=decide (So.page=.page)from sot .page .page];refine iteT ?_;refine⟨_,rfl,a,_,_,_,rfl,rfl,SqT.of ha,rfl,_,rfl,fm.1,fm.2,λH' s'=>?_⟩;have:=q H' s';dsimp only[pieceB]at this;rw[qC c,xG]at this;exact this
  ·-- a note
   rename_i k;refine iteT ?_;refine⟨_,rfl,a,_,_,_,rfl,rfl,SqT.of ha,rfl,k,0,60,rfl,_,rfl,?_⟩;have:=q H (Same.refl H);dsimp only[pieceB]at this
   by_cases c:0<=k/\k<=60
   ·rw[qC c]at this⊢;refine iteT ?_;rw[xG]at this;exact⟨_,rfl,a,_,_,_,rfl,rfl,SqT.of ha,rfl,t,0,0,rfl,this⟩
   ·rw[qB c]at this⊢;exact iteF this
  ·-- another sort
   refine iteF ?_;have qq:=q H (Same.refl H);refine⟨_,rfl,a,_,_,_,rfl,rfl,SqT.of ha,rfl,t,0,3,rfl,_,rfl,?_⟩
   by_cases c:0<=t/\t<=3
   rotate_left
   ·rw[qB c];exact iteT qq
   rw[qC c];refine iteF ?_;refine⟨_,rfl,a,_,_,_,rfl,rfl,SqT.of ha,rfl,rfl,_,rfl,?_⟩;rw[show decide (V.str So.sign.s=V.str (Str.ofString "word"))=decide (So.sign=.word)from sot .sign .word];refine iteF ?_;refine⟨_,rfl,a,_,_,_,rfl,rfl,SqT.of ha,rfl,rfl,_,rfl,?_⟩;rw[show decide (V.str So.sign.s=V.str (Str.ofString "page"))=decide (So.sign=.page)from sot .sign .page];exact iteF qq
end
end K09
namespace Bk
open PySem L2
def eldR(ds:List Nd):Nat->Int->List Int
 | 0,_=>[]
 | m+1,ab=>ab::eldR ds m (match ds[ab.toNat]? with | some d=>d.e | none=>-1)
theorem qd1(ds:List Nd):∀(m:Nat) (ab:Int),(eldR ds m ab).length=m
 | 0,_=>rfl
 | m+1,ab=>by rw[eldR,rC,qd1 ds m]
theorem qfW{ds:List Nd}{j m:Nat}{d:Nd}(h:ds[j]?=some d):eldR ds (m+1) (j:Int)=(j:Int)::eldR ds m d.e:=by
 rw[eldR,rP,h]
def RemE(ds:List Nd)(ab:Int)(m:Nat):Prop:=(ab=-1/\m=0)\/∃j k:Nat,ab=j/\Lev ds j k/\m=k+1
theorem qgn{ds:List Nd}{i l:Nat}{d:Nd}(h:Lev ds i l)(e':ds[i]?=some d):RemE ds d.e l:=by
 cases h with
 | top e h=>rw[e']at e;cases e;exact .inl ⟨h,rfl⟩
 | up e h1 h2 h3=>rw[e']at e;cases e;exact .inr ⟨_,_,h1,h3,rfl⟩
theorem Lev.nd{ds:List Nd}{i l:Nat}(h:Lev ds i l):∃d,ds[i]?=some d:=by
 cases h with
 | top e h=>exact⟨_,e⟩
 | up e h1 h2 h3=>exact⟨_,e⟩
theorem same_put{H H':Hp}{L:Addr}{o:HO}(s:Same H H')(h:H L=none):Same H (upd H' L o):=λb u e=>by rw[qal (qar e h)];exact s b u e
end Bk
namespace Gen
open PySem L2 Bk
def spElders:Sp:=λvs H Q _=>∃(p:Addr) (i l:Nat) (d:Nd) (ds:List Nd) (N:Addr->Prop),vs=[.ref p,.int i]/\BookAt N H p ds/\ds[i]?=some d/\Lev ds i l/\l<=999 /\
 ∀(L:Addr) (H':Hp),H L=none->Same H H'->H' L=some (.lst ((eldR ds l d.e).map V.int))->Q (.ref L) H'
end Gen
namespace L2
open PySem PySem.Spec PyProof.Rows
section
variable{X:Cx}{CX:CXT}{k:Nat}{ps:List Str}{sp:Sp}{E:XK}{x:Str}{p pos:Pos}
theorem qa8{es':List Expr}{x1:Nat}{pos':Pos}{es:List Expr}{te:TE}{t:TA}(ha:PE X (.Tuple es' x1 pos') te)(hr:PA X es t):PA X (.Tuple es' x1 pos'::es) (qfu te t):=qaa ha hr (by rfl)
theorem qfU(F:Fx X.prog X.w X.K X.mg X.base CX k x ps sp)(hr:Room k X.A)(hg:Gl X x)(hx:qee CX X E)(hdb:(x == ("__debug__" : Str))=false:=by decide):PE X (.Call (.Name x p) [] [] pos) (qhZ sp [] E tNil):=by
 obtain⟨f,fd,G,b,kp,m⟩:=F.ex;exact pe_call0 G hr hg m kp b .nil hx hdb
end
end L2
namespace Bk
open PySem L2
theorem qea(x:Str)(l:List Str):inV (.str x) (l.map V.str)=decide (x∈l):=by
 by_cases h:x∈l
 ·rw[qC h];unfold inV;rw[List.any_eq_true];exact⟨.str x,vH h,by show(x == x)=true;simp⟩
 ·rw[qB h];unfold inV;rw[vU];intro v hv;obtain⟨y,hy,rfl⟩:=rG.mp hv;show¬(y == x)=true;intro z;exact h ((beq_iff_eq.mp z) ▸ hy)
end Bk
namespace Bk
open PySem L2
open PySem.W (Dat kqdOk)
end Bk
namespace Gen
open PySem L2 Bk
end Gen
namespace L2
open PySem PySem.Spec PyProof.Rows
section
variable{κ:Type}[DecidableEq κ]
def valV(kvs:List (κ×V))(k:κ):Option V:=(kvs.find? λkv=>decide (kv.1=k)).map (·.2)
def putK(kvs:List (κ×V))(k:κ)(v:V):List (κ×V) :=
 if(kvs.any λkv=>decide (kv.1=k))=true then kvs.map (λkv=>if kv.1=k then(kv.1,v)else kv)else kvs++[(k,v)]
theorem qbJ{p:κ×V}{r:List (κ×V)}{k:κ}(e:p.1=k):valV (p::r) k=some p.2:=by simp[valV,List.find?_cons,e]
theorem qbI{p:κ×V}{r:List (κ×V)}{k:κ}(e:¬p.1=k):valV (p::r) k=valV r k:=by simp[valV,List.find?_cons,e]
theorem qeb(k:κ):∀kvs:List (κ×V),(kvs.any λkv=>decide (kv.1=k))=(valV kvs k).isSome
 | []=>rfl
 | p :: r => by
   rw[xJ]
   by_cases e:p.1=k
   · simp only[qbJ e,decide_eq_true e,Bool.true_or,Option.isSome_some]
   · rw[qbI e,qB e,uT];exact qeb k r
theorem qgo(k j:κ)(y:V):∀kvs:List (κ×V),valV (kvs.map λkv=>if kv.1=k then(kv.1,y)else kv) j=(valV kvs j).map λx=>if j=k then y else x
 | []=>rfl
 | p :: r => by
   have ih:=qgo k j y r
   rw[r8]
   by_cases h:p.1=k
   · rw[if_pos h]
     by_cases e:p.1=j
     · rw[qbJ (p:=(p.1,y)) e,qbJ e,vA,if_pos (e.symm.trans h)]
     · rw[qbI (p:=(p.1,y)) e,qbI e,ih]
   · rw[if_neg h]
     by_cases e:p.1=j
     · rw[qbJ (p:=p) e,qbJ e,vA,if_neg (λz=>h (e.trans z))]
     · rw[qbI (p:=p) e,qbI e,ih]
theorem qfV(k j:κ)(y:V):∀kvs:List (κ×V),valV kvs k=none->valV (kvs++[(k,y)]) j=if j=k then some y else valV kvs j
 | [], _ => by
   by_cases e:k=j
   · rw[if_pos e.symm];exact qbJ (p:=(k,y)) e
   · rw[if_neg (λz=>e z.symm)];exact qbI (p:=(k,y)) e
 | p :: r, hn => by
   rw[yA]
   have hk:¬p.1=k:=λz=>by rw[qbJ z]at hn;cases hn
   rw[qbI hk]at hn
   have ih:=qfV k j y r hn
   by_cases e:p.1=j
   · rw[qbJ e,qbJ e,if_neg (λz=>hk (e.trans z))]
   · rw[qbI e,qbI e,ih]
theorem qgt(kvs:List (κ×V))(k j:κ)(y:V):valV (putK kvs k y) j=if j=k then some y else valV kvs j:=by
 unfold putK
 by_cases a:(kvs.any λkv=>decide (kv.1=k))=true
 ·rw[if_pos a,qgo];rw[qeb]at a
  by_cases e:j=k
  ·obtain⟨x,hx⟩:=Option.isSome_iff_exists.mp a;rw[if_pos e,e,hx,vA,if_pos rfl]
  ·rw[if_neg e];cases valV kvs j with
   | none=>rfl
   | some x=>rw[vA,if_neg e]
 ·rw[if_neg a];refine qfV k j y kvs ?_;rw[qeb]at a;cases q:valV kvs k with
  | none=>rfl
  | some x=>rw[q]at a;exact(a rfl).elim
theorem qct(kvs:List (κ×V))(k:κ)(v:V):(putK kvs k v).length<=kvs.length+1:=by
 unfold putK
 split
 ·rw[qA];omega
 ·rw[qD,rC,List.length_nil];omega
theorem RelO.isSome_eq{o:Option V}{u:Option Value}(r:RelO o u):o.isSome=u.isSome:=by
 cases o with
 | none => cases u with
   | none=>rfl
   | some _=>exact(show False from r).elim
 | some _ => cases u with
   | none=>exact(show False from r).elim
   | some _=>rfl
theorem KV.val{kvs:List (κ×V)}{vs:List (κ×Value)}(r:KV kvs vs)(k:κ):RelO (valV kvs k) (valueAt vs k):=by
 unfold KV at r
 induction r with
 | nil=>exact True.intro
 | @cons p q ps qs h t ih =>
   obtain⟨h1,h2⟩:=h
   by_cases e:p.1=k
   · have e':q.1=k:=h1.symm.trans e
     have b:valueAt (q::qs) k=some q.2:=by simp[valueAt,List.find?_cons,e']
     rw[qbJ e,b];exact h2
   · have e':¬q.1=k:=λz=>e (h1.trans z)
     have b:valueAt (q::qs) k=valueAt qs k:=by simp[valueAt,List.find?_cons,e']
     rw[qbI e,b];exact ih
theorem KV.any{kvs:List (κ×V)}{vs:List (κ×Value)}(r:KV kvs vs)(k:κ):(kvs.any λkv=>decide (kv.1=k))=vs.any λkv=>decide (kv.1=k):=by
 unfold KV at r
 induction r with
 | nil=>rfl
 | cons h t ih=>rw[xJ,xJ,ih,h.1]
theorem KV.repl{kvs:List (κ×V)}{vs:List (κ×Value)}(r:KV kvs vs)(k:κ){y:V}{u:Value}(ry:RelV y u) :
  KV (kvs.map λkv=>if kv.1=k then(kv.1,y)else kv) (vs.map λkv=>if kv.1=k then(kv.1,u)else kv):=by
 unfold KV at r⊢
 induction r with
 | nil=>exact .nil
 | @cons p q ps qs h t ih =>
   rw[r8,r8]
   refine .cons ?_ ih
   obtain⟨h1,h2⟩:=h
   by_cases e:p.1=k
   · rw[if_pos e,if_pos (h1.symm.trans e)];exact⟨h1,ry⟩
   · rw[if_neg e,if_neg (λz=>e (h1.trans z))];exact⟨h1,h2⟩
theorem KV.put{kvs:List (κ×V)}{vs:List (κ×Value)}(r:KV kvs vs)(k:κ){y:V}{u:Value}(ry:RelV y u):KV (putK kvs k y) (stored vs k u):=by
 unfold putK stored;rw[r.any k]
 by_cases e:(vs.any λkv=>decide (kv.1=k))=true
 ·rw[if_pos e,if_pos e];exact r.repl k ry
 ·rw[if_neg e,if_neg e];exact Paired.snoc r ⟨rfl,ry⟩
theorem KV.length{kvs:List (κ×V)}{vs:List (κ×Value)}(r:KV kvs vs):kvs.length=vs.length:=Paired.length r
end
theorem qh1{P:Program}{w:World}{k:Key}{u:Value}(r:RelV (kV k) u):(qbh P w).is k u=true:=by
 cases k with
 | inl i=>obtain⟨t,e⟩:=(show∃t,u=Value.int i t from r);subst e;exact mixKind_int P w i t
 | inr x=>obtain⟨t,e⟩:=(show∃t,u=Value.str x t from r);subst e;exact qaT P w x t
theorem qfL{P:Program}{w:World}:∀{ks:List Key} {us:List Value},Vals (ks.map kV) us->ItemsAre (qbh P w) ks us
 | [],_,r=>by rw[wA]at r;cases r;exact .nil
 | k :: ks, _, r => by
   rw[r8]at r
   cases r with
   | cons h t=>exact .cons (qh1 h) (qfL t)
abbrev KT(H:Hp):List (List Key×V)->List (List Key×Addr×Value)->Prop:=Paired λp q=>p.1=q.1/\H q.2.1=some (.tup (p.1.map kV))/\RelV p.2 q.2.2
theorem KT.val{H:Hp}{kvs:List (List Key×V)}{xs:List (List Key×Addr×Value)}(r:KT H kvs xs)(k:List Key):RelO (valV kvs k) ((atKey xs k).map (·.2)):=by
 induction r with
 | nil=>exact True.intro
 | @cons p q ps qs h t ih =>
   obtain⟨h1,_,h2⟩:=h
   by_cases e:p.1=k
   · have e':q.1=k:=h1.symm.trans e
     have b:atKey (q::qs) k=some q.2:=by simp[atKey,List.find?_cons,e']
     rw[qbJ e,b];exact h2
   · have e':¬q.1=k:=λz=>e (h1.trans z)
     have b:atKey (q::qs) k=atKey qs k:=by simp[atKey,List.find?_cons,e']
     rw[qbI e,b];exact ih
theorem KT.repl{H:Hp}{kvs:List (List Key×V)}{xs:List (List Key×Addr×Value)}(r:KT H kvs xs)(k:List Key){y:V}{u:Value}(ry:RelV y u) :
  KT H (kvs.map λkv=>if kv.1=k then(kv.1,y)else kv) (xs.map (putAt k u)):=by
 induction r with
 | nil=>exact .nil
 | @cons p q ps qs h t ih =>
   rw[r8,r8]
   refine .cons ?_ ih
   obtain⟨h1,h2,h3⟩:=h
   unfold putAt
   by_cases e:p.1=k
   · rw[if_pos e,if_pos (h1.symm.trans e)];exact⟨h1,h2,ry⟩
   · rw[if_neg e,if_neg (λz=>e (h1.trans z))];exact⟨h1,h2,h3⟩
theorem KT.put{H:Hp}{kvs:List (List Key×V)}{xs:List (List Key×Addr×Value)}(r:KT H kvs xs)(k:List Key){b:Addr}{y:V}{u:Value}(hb:H b=some (.tup (k.map kV)))(ry:RelV y u) :
  KT H (putK kvs k y) (storedH xs k b u):=by
 have e:(kvs.any λkv=>decide (kv.1=k))=(atKey xs k).isSome:=by
  rw[qeb,(r.val k).isSome_eq,Option.isSome_map]
 unfold putK storedH;rw[e]
 by_cases q:(atKey xs k).isSome=true
 ·rw[if_pos q,if_pos q];exact r.repl k ry
 ·rw[if_neg q,if_neg q];exact Paired.snoc r ⟨rfl,hb,ry⟩
theorem KT.keeps{H H':Hp}{kvs:List (List Key×V)}{xs:List (List Key×Addr×Value)}(r:KT H kvs xs)(ht:∀b ys,H b=some (.tup ys)->H' b=some (.tup ys)):KT H' kvs xs :=
 Paired.mapP r λ_ _ z=>⟨z.1,ht _ _ z.2.1,z.2.2⟩
section
variable{P:Program}{w:World}{H:Hp}{h:Heap}{a:Addr}
theorem qiG{u:HO}(ok:HOk P w H h)(e:Rd H a u):ObjOk P w H h a u:=e.ok ok
theorem qiu{kvs:List (Key×V)}(ok:HOk P w H h)(e:Rd H a (.dK kvs)):kvs.length<=sizeLine/\(a == sysModules)=false/\∃vs,KV kvs vs/\h.DictOf (qbh P w) a vs :=
 show ObjOk P w H h a (.dK kvs)from qiG ok e
theorem qiJ{kvs:List (Key×V)}(ok:HOk P w H h)(e:H a=some (.dK kvs)):kvs.length<=sizeLine/\(a == sysModules)=false/\∃vs,KV kvs vs/\h.DictOf (qbh P w) a vs:=qiu ok (.inl e)
theorem qhy{ks:List Key}(ok:HOk P w H h)(e:H a=some (.tup (ks.map kV))):(tupleKind (qbh P w)).is h ks a:=by
 obtain⟨_,its,r,o,h1,h2,n,h3⟩:=(show ObjOk P w H h a (.tup (ks.map kV))from ok a _ e);exact⟨o,its.toArray,n,h1,h2,h3,by simpa using qfL r⟩
theorem qiy{kvs:List (List Key×V)}(ok:HOk P w H h)(e:Rd H a (.dT kvs)):kvs.length<=sizeLine/\(a == sysModules)=false /\
  ∃xs,KT H kvs xs/\h.DictOfH (tupleKind (qbh P w)) a xs:=by
 obtain⟨z,y,xs,r,o,es,ep,h1,h2,h3,h4,h5⟩:=(show ObjOk P w H h a (.dT kvs)from qiG ok e);refine⟨z,y,xs,r,o,es,ep,h1,h2,h3,h4,λx hx=>?_,h5⟩;have all:∀{l:List (List Key×V)} {m:List (List Key×Addr×Value)},KT H l m->∀x∈m,(tupleKind (qbh P w)).is h x.1 x.2.1:=by
  intro l m q
  induction q with
  | nil=>intro x hx;exact nomatch hx
  | @cons p q ps qs hq t ih =>
    intro x hx
    rcases qV.mp hx with e | hx
    · subst e
      exact qhy ok (by rw[<-hq.1];exact hq.2.1)
    · exact ih x hx
 exact all r x hx
theorem dt_of{kvs:List (List Key×V)}(ok:HOk P w H h)(e:H a=some (.dT kvs)):kvs.length<=sizeLine/\(a == sysModules)=false /\
  ∃xs,KT H kvs xs/\h.DictOfH (tupleKind (qbh P w)) a xs:=qiy ok (.inl e)
end
def DGet(H:Hp)(a:Addr)(y:V)(r:Option V):Prop :=
 (∃kvs k,Rd H a (.dK kvs)/\y=kV k/\r=valV kvs k)\/∃kvs k b,Rd H a (.dT kvs)/\y=.ref b/\H b=some (.tup (k.map kV))/\r=valV kvs k
def DPut(H:Hp)(a:Addr)(y v:V)(H':Hp):Prop :=
 (∃kvs k,H a=some (.dK kvs)/\y=kV k/\kvs.length<sizeLine/\H'=upd H a (.dK (putK kvs k v))) \/
 ∃kvs k b,H a=some (.dT kvs)/\y=.ref b/\H b=some (.tup (k.map kV))/\kvs.length<sizeLine/\H'=upd H a (.dT (putK kvs k v))
theorem DGet.k{H:Hp}{a:Addr}{kvs:List (Key×V)}{k:Key}(e:H a=some (.dK kvs)):DGet H a (kV k) (valV kvs k):=.inl ⟨kvs,k,.inl e,rfl,rfl⟩
theorem DPut.k{H:Hp}{a:Addr}{kvs:List (Key×V)}{k:Key}{v:V}(e:H a=some (.dK kvs))(hl:kvs.length<sizeLine):DPut H a (kV k) v (upd H a (.dK (putK kvs k v))):=.inl ⟨kvs,k,e,rfl,hl,rfl⟩
section
variable{X:Cx}{pins:List (Addr×Obj)}{σ:St}{H:Hp}{s:Shared}{a:Addr}{y v:V}{u r:Value}{o:Option V}{A:Around}{E:Value->Shared->Prop}
theorem Inv.big(I:Inv X pins σ H s):sysModules<s.heap.objs.size:=by
 have h:mainGlobals<s.heap.objs.size:=(I.mod.glob.keeps I.bk).lt;exact uQ (by decide) h
theorem d_getItem{Q:Value->Shared->Prop}(hu:A.units+1<cLine)(I:Inv X pins σ H s)(g:DGet H a y (some v))(ry:RelV y u)(h:∀w' s',Inv X pins σ H s'->RelV v w'->Q w' s') :
  wpAny (model X.prog X.w) A (getItem (.ref a) u) Q E s:=by
 rcases g with⟨kvs,k,e,ey,l⟩ | ⟨kvs,k,b,e,ey,eb,l⟩
 ·subst ey;obtain⟨z,hd,vs,rel,dd⟩:=qiu I.hok e;obtain⟨w',hw,rw'⟩:=RelO.some_of (v:=v) (o:=valueAt vs k) (by rw[l];exact rel.val k);exact wpAny_getItem_of (qh1 ry) dd.mapOf hw (h w' _ (I.tok _) rw')
 ·subst ey;cases(show u=Value.ref b from ry);obtain⟨z,hd,xs,rel,dd⟩:=qiy I.hok e;obtain⟨w',hw,rw'⟩:=RelO.some_of (v:=v) (o:=(atKey xs k).map (·.2)) (by rw[l];exact rel.val k);obtain⟨p,hp,hp2⟩:=Option.map_eq_some_iff.mp hw;refine wpAny_getItem_heap (tupleKind_room_in1 hu) (qhy I.hok eb) dd hp ?_;rw[hp2];exact h w' _ (I.tok _) rw'
theorem qgj{h':Heap}{t':Nat}{ob:HO}(I:Inv X pins σ H s)(mu:Mut (H a))(hs:Heap.SameBut a s.heap h')(he:∃q,h'.get? a=some q)(new:ObjOk X.prog X.w (upd H a ob) h' a ob) :
  Inv X pins σ (upd H a ob) {s with heap:=h',toks:=t'} :=
 I.write (x:=a) (e:=a) mu (.inl rfl) (λb q hb z=>(hs.2 b hb).trans z) he new
theorem qil{P:Program}{w:World}{H':Hp}{h':Heap}{kvs:List (Key×V)}{vs:List (Key×Value)}(z:kvs.length<=sizeLine)(hd:(a == sysModules)=false)(rel:KV kvs vs)(dd:h'.DictOf (qbh P w) a vs) :
  ObjOk P w H' h' a (.dK kvs):=⟨z,hd,vs,rel,dd⟩
theorem d_setItem{H':Hp}{Q:Unit->Shared->Prop}(hu:A.units+1<cLine)(I:Inv X pins σ H s)(g:DPut H a y v H')(ry:RelV y u)(rv:RelV v r)(h:∀s',Inv X pins σ H' s'->Q () s') :
  wpAny (model X.prog X.w) A (setItem (.ref a) u r) Q E s:=by
 rcases g with⟨kvs,k,e,ey,l,eH⟩ | ⟨kvs,k,b,e,ey,eb,l,eH⟩
 ·subst ey eH;obtain⟨z,hd,vs,rel,dd⟩:=qiJ I.hok e;have hz:vs.length<=sizeLine:=by rw[<-rel.length];exact z
  have hl:(putK kvs k v).length<=sizeLine:=by have:=qct kvs k v;omega
  refine wpAny_setItem_pairs (hsz:=hz) (qh1 ry) dd λh' dd' hs=>h _ ?_
  have he:∃q,h'.get? a=some q:=let⟨q,_,_,hq,_⟩:=dd';⟨q,hq⟩;exact qgj I (by rw[e];exact True.intro) hs he (qil hl hd (rel.put k rv) dd')
 ·subst ey eH;cases(show u=Value.ref b from ry);obtain⟨z,hd,xs,rel,dd⟩:=dt_of I.hok e;have hz:xs.length<=sizeLine:=by rw[<-Paired.length rel];exact z
  have hl:(putK kvs k v).length<=sizeLine:=by have:=qct kvs k v;omega
  refine wpAny_setItem_heap (hsz:=hz) (tupleKind_room_in1 hu) (qhy I.hok eb) dd λh' dd' hs=>h _ ?_
  obtain⟨q,es,ep,hq,h2,h3,h4,_,h5⟩:=dd';refine qgj I (by rw[e];exact True.intro) hs ⟨q,hq⟩ ⟨hl,hd,_,(rel.put k eb rv).keeps λc ys ec=>?_,q,es,ep,hq,h2,h3,h4,h5⟩;rw[qal (qgb ec e (λz=>nomatch z))];exact ec
end
def NoSl(i:Expr):Prop:=∀ov iv,subscripted i false ov iv=operate [ov,iv] (getItem ov iv)
theorem subD_of{prog:Program}{w:World}{A:Around}{E:Value->Shared->Prop}{s:Shared}{env:Env}{value slice:Expr}{pos:Pos}{T id:String}{Q:Value->Shared->Prop}(hl:typeLookup (.type T) "__getitem__" = pure (some (.builtin id)))(hs:NoSl slice)(h:wpAny (model prog w) A (eval value env) (λo s₁=>wpAny (model prog w) A (eval slice env) (λi s₂=>s₂.TypeIs o T/\wpAny (model prog w) A (getItem o i) Q E s₂) E s₁) E s) :
  wpAny (model prog w) A (eval (.Subscript value slice pos) env) Q E s:=by
 refine Subscript_ (xC h (λo s₁ h₁=>xC h₁ (λi s₂ h₂=>?_) λ_ _ x=>x) λ_ _ x=>x);obtain⟨hT,h₂⟩:=h₂;unfold subscriptTail;refine qE ?_;rw[getitemInPython_of_ne hT.not_modules];refine qE (vD hT hl ?_);have fin:wpAny (model prog w) A (subscripted slice false o i) (λr s₃=>wpAny (model prog w) A (letTemporaryGo value o r>>=λ_=>pure r) Q E s₃) E s₂:=by
  rw[hs o i];exact wpAny_operating (xC h₂ (λr s₃ h₃=>qE (wpAny_letTemporaryGo (qU h₃))) λ_ _ x=>x)
 first
  | exact qU (qE fin)
  | exact qE (qU (qE fin))
  | exact qE fin
theorem dict_typeIs{X:Cx}{pins:List (Addr×Obj)}{σ:St}{H:Hp}{s:Shared}{a:Addr}{y:V}{o:Option V}(I:Inv X pins σ H s)(g:DGet H a y o):s.TypeIs (.ref a) "dict":=by
 rcases g with⟨kvs,k,e,_,_⟩ | ⟨kvs,k,b,e,_,_,_⟩
 ·obtain⟨_,_,vs,_,dd⟩:=qiu I.hok e;exact dd.typeIs
 ·obtain⟨_,_,xs,_,dd⟩:=qiy I.hok e;exact dd.typeIs
def tDGet(td ty:TE):TE:=λσ H Q=>td σ H λx H1=>ty σ H1 λy H2=>∃a v,x=.ref a/\DGet H2 a y (some v)/\Q v H2
def sDPut(td ty tv:TE):TS:=λD σ H=>tv σ H λv H1=>td σ H1 λx H2=>ty σ H2 λy H3=>∃a H4,x=.ref a/\DPut H3 a y v H4/\D.nx σ H4
section
variable{X:Cx}{o i e value:Expr}{pos pos' tpos:Pos}{td ty tv:TE}
theorem pe_dget(hu:X.A.units+1<cLine)(ho:PE X o td)(hi:PE X i ty)(hs:NoSl i):PE X (.Subscript o i pos) (tDGet td ty):=by
 intro pins s σ H Q I h;refine subD_of PySem.F.slot_dict_getitem.lookup hs (thn (ho pins s σ H _ I h) λu s1 ⟨x,H1,I1,rx,q1⟩=>thn (hi pins s1 σ H1 _ I1 q1) λiv s2 ⟨y,H2,I2,ry,a,v,ex,g,q2⟩=>?_);subst ex;obtain rfl:u=Value.ref a:=rx;exact⟨dict_typeIs I2 g,d_getItem hu I2 g ry λw' s3 I3 rw'=>⟨v,H2,I3,rw',q2⟩⟩
theorem ps_dput(hu:X.A.units+1<cLine)(ho:PE X o td)(hi:PE X i ty)(hv:PE X value tv)(hs:swapsWith value (some (.Subscript o i pos')) pos.line X.env=pure false) :
  PS X (.Assign [.Subscript o i pos'] value pos) (sDPut td ty tv):=by
 intro pins s σ H D I h;refine wpAny_Assign_Subscript (thn (hv pins s σ H _ I h) λr s1 ⟨v,H1,I1,rv,q1⟩=>thn (ho pins s1 σ H1 _ I1 q1) λu s2 ⟨x,H2,I2,rx,q2⟩=>thn (hi pins s2 σ H2 _ I2 q2) λiv s3 ⟨y,H3,I3,ry,a,H4,ex,g,q3⟩=>?_) hs;subst ex;obtain rfl:u=Value.ref a:=rx;exact d_setItem hu I3 g ry rv λs4 I4=>⟨σ,H4,I4,q3⟩
end
theorem dk_empty{P:Program}{w:World}{H:Hp}(h:Heap)(hb:sysModules<h.objs.size):ObjOk P w H (h.push {cls:=.type "dict",data:=.dict #[]}) h.objs.size (.dK []) :=
 ⟨rS _,beq_eq_false_iff_ne.mpr (Ne.symm (rJ hb)),[],.nil,Heap.DictOf.new h⟩
end L2
namespace Gd
open PySem L2 Gen
end Gd
namespace L2
open PySem PySem.Spec PyProof.Rows
end L2
namespace Gen
open PySem L2 Bk
end Gen
namespace L2
open PySem PySem.Spec PyProof.Rows
def Itd(hi:Int)(n:Nat):It:=⟨λi _=>i<n,λi H x H'=>H'=H/\x=.int (hi-i),λi _=>n<=i⟩
theorem turn_down{P:Program}{w:World}{K:W.Frag}{tg:Expr}(it:Addr)(hi:Int)(n:Nat):Turn P w K tg (Itd hi n) [it] it (λi h=>IsRangeIter h it (hi+(i:Nat)*(-1)) ((n:Int)-(i:Nat)) (-1)) where
 mem:=by simp
 obj:=λi h st b hb=>by
  obtain rfl:b=it:=by simpa using hb
  refine⟨_,st,λv z=>?_⟩;have z':Data.fields _=Data.cell v:=z;cases z'
 keep:=λi h h' st k=>k it (by simp) _ st
 item:=by
  intro X hP hw hK hc i pins s σ H E I hf st hg;subst hP hw hK;obtain⟨f0,f1,f2,f3,f4,f5⟩:=hf it (by simp);refine(Walks.range (prog:=X.prog) (w:=X.w) (I.ok.hd hc) it hi (-1) n).item i s _ _ hg st λv h' tk hv st' kk=>?_
  obtain⟨t,rfl⟩:=hv;have I1:Inv X pins σ H {s with heap:=h',toks:=tk}:=I.turned (λb o hb e=>kk b o (by simpa using hb) e) f0 f1 f3 f4 f5;refine⟨_,rfl,qhY (s:={s with heap:=h',toks:=tk}) (n := "range_iterator") st' rfl rfl (by decide) ⟨.int (hi-i),H,I1,⟨t,?_⟩,⟨rfl,rfl⟩,st',λb hb=>(hf b hb).1⟩⟩;rw[show hi+(i:Int)*(-1)=hi-i by omega]
 done:=by
  intro X hP hw hK hc i pins s σ H E I hf st hg;subst hP hw hK;obtain⟨f0,f1,f2,f3,f4,f5⟩:=hf it (by simp);refine wpAny_pyNext_range_end (I.ok.hd hc) st (by have z:n<=i:=hg;omega) λh' eb=>⟨rfl,I.turned (t':=s.toks) (λb o hb e=>eb b o hb e) f0 f1 f3 f4 f5⟩
 self:=λ_ _ _ _ _ st h=>wpAny_pyIter_rangeiter st h
theorem qfz(a b:Int):Builtin.Range.rangeSize a b (-1)=if a>b then a-b else 0:=by
 unfold Builtin.Range.rangeSize;rw[if_neg (by decide)]
 split
 ·rw[show -(-1:Int)=1 by decide,Int.ediv_one];omega
 ·rfl
theorem small_down{a b:Int}(ha:-(2 ^ 62)<=a)(ha':a<2 ^ 62)(hb:-(2 ^ 62)<=b)(hb':b<2 ^ 62):Builtin.Range.small a b (-1)=true:=by
 unfold Builtin.Range.small;rw[qfz];rw[if_neg (show¬((-1:Int)>0) by decide)];simp only[Builtin.Range.rangeFitsLong,Bool.and_eq_true,Bool.or_eq_true,decide_eq_true_eq,beq_iff_eq]
 split<;>omega
def iRngD(ta:TA):TI:=λσ H R=>ta σ H λvs H1=>∃i j:Int,vs=[.int i,.int j,.int (-1)]/\(-(2 ^ 62)<=i/\i<2 ^ 62/\-(2 ^ 62)<=j/\j<2 ^ 62)/\R (Itd i (i-j).toNat) H1
section
variable{X:Cx}{tg:Expr}
theorem down_it{pins:List (Addr×Obj)}{σ:St}{H:Hp}{s:Shared}{R:It->Hp->Prop}{E:Value->Shared->Prop}{lo hi:Int}{t u v:Tok}{tk:Nat}(I:Inv X pins σ H s)(h1:-(2 ^ 62)<=lo)(h2:lo<2 ^ 62)(h3:-(2 ^ 62)<=hi)(h4:hi<2 ^ 62)(q:R (Itd lo (lo-hi).toNat) H) :
  wpAny (model X.prog X.w) X.A (pyIter (.ref s.heap.objs.size)) (PIE X pins σ tg R) E {s with heap:=s.heap.push {cls:=.type "range",data:=.fields #[.int lo t,.int hi u,.int (-1) v]},toks:=tk}:=by
 refine wpAny_pyIter_range (IsRange.new ..) (small_down h1 h2 h3 h4) ?_;have I1:Inv X pins σ H {s with heap:=s.heap.push {cls:=.type "range",data:=.fields #[.int lo t,.int hi u,.int (-1) v]},toks:=tk}:=I.kept λb o e=>qL _ e
 refine⟨(s.heap.push {cls:=.type "range",data:=.fields #[.int lo t,.int hi u,.int (-1) v]}).objs.size,[(s.heap.push {cls:=.type "range",data:=.fields #[.int lo t,.int hi u,.int (-1) v]}).objs.size],_,_,H,rfl,I1.kept (t':=tk) λb o e=>qL _ e,turn_down _ lo (lo-hi).toNat,?_,λb hb=>?_,q⟩
 ·have e1:lo+((0:Nat):Int)*(-1)=lo:=by simp
  have e2:(((lo-hi).toNat:Nat):Int)-((0:Nat):Int)=Builtin.Range.rangeSize lo hi (-1):=by rw[qfz];split<;>omega
  show IsRangeIter _ _ (lo+((0:Nat):Int)*(-1)) ((((lo-hi).toNat:Nat):Int)-((0:Nat):Int)) (-1);rw[e1,e2];exact rE _ rfl
 ·obtain rfl:b=(s.heap.push {cls:=.type "range",data:=.fields #[.int lo t,.int hi u,.int (-1) v]}).objs.size:=by simpa using hb
  exact I1.fpOk (qN _) (I1.hok.fresh (qN _))
theorem qem{a b c:Expr}{ta:TA}{p pos:Pos}(hg:Gl X "range")(hm:X.mg "range" = none)(ha:PA X [a,b,c] ta)(hs:starEach [a,b,c] X.env=[(false,eval a X.env),(false,eval b X.env),(false,eval c X.env)]:=by rfl)(hs2:starEach [b,c] X.env=[(false,eval b X.env),(false,eval c X.env)]:=by rfl) :
  PI X tg (.Call (.Name "range" p) [a,b,c] [] pos) (iRngD ta):=by
 intro pins s σ H R I h;refine Call_ (qdz I hg hm boot_range (xD (thn (ha pos pins s σ H _ I h) λus s1 ⟨vs,H1,I1,r1,q1⟩=>?_) (by rw[hs,hs2]) (by rw[hs2];rfl)));obtain⟨i,j,e,⟨q1,q2,q3,q4⟩,q⟩:=q1;subst e;cases r1 with
 | cons r rr => cases rr with
   | cons r' rr => cases rr with
     | cons r'' rr =>
       cases rr
       obtain⟨t,rfl⟩:=r
       obtain⟨t',rfl⟩:=r'
       obtain⟨t'',rfl⟩:=r''
       exact call_range_3 (by decide) (down_it I1 q1 q2 q3 q4 q) (.inl (PyProof.noPylong_small (by decide)))
end
theorem qff{hi:Int}{n:Nat}{g:TG}{tb:TS}{D:Ends}{σ:St}{H:Hp}(Pv:Nat->St->Hp->Prop)(h0:Pv 0 σ H)(hs:∀i σ H,i<n->Pv i σ H->g (.int (hi-i)) σ H λσ2 H2=>tb {D with nx:=Pv (i+1),ct:=Pv (i+1),bk:=D.nx} σ2 H2)(hd:∀σ H,Pv n σ H->D.nx σ H) :
  ∃W:Nat->Nat->St->Hp->Prop,(∃m,W 0 m σ H)/\∀i m σ H,W i m σ H ->
   ((Itd hi n).stop i H/\D.nx σ H)\/((Itd hi n).go i H/\∃N:St->Hp->Prop,(∀σ' H',N σ' H'->∃m',m'<m/\W (i+1) m' σ' H')/\∀x H',(Itd hi n).yld i H x H'->g x σ H' λσ2 H2=>tb {D with nx:=N,ct:=N,bk:=D.nx} σ2 H2):=by
 refine⟨λi m σ H=>m=n-i/\i<=n/\Pv i σ H,⟨n,by simp,rS _,h0⟩,λi m σ H ⟨em,hi',p⟩=>?_⟩;subst em
 by_cases hlt:i<n
 ·refine .inr ⟨hlt,Pv (i+1),λσ' H' p'=>⟨n-(i+1),by omega,rfl,hlt,p'⟩,λx H' ⟨e,y⟩=>?_⟩;subst e y;exact hs i σ _ hlt p
 ·obtain rfl:i=n:=by omega
  exact .inl ⟨qN _,hd σ H p⟩
end L2
namespace Bk
open PySem L2 Gen
end Bk
namespace Gen
open PySem L2 Bk
def kindsAll:List Kd:=[.body,.case,.shelf,.grid,.text,.head,.picture,.aside,.note]
def spNotesA:Sp:=λvs H Q _=>∃(s:Addr) (st:List Th) (N:Addr->Prop),vs=[.ref s]/\StAt N H s st/\(∀x∈st,PcOk x)/\st.length<=60/\∀l H',H l=none->Same H H'->H' l=some (.lst ((qaw st).map V.int))->Q (.ref l) H'
theorem rise_eq:∀{l m:List Str},l.Perm m->(l.Pairwise λa b=>a.cps.toList<b.cps.toList)->(m.Pairwise λa b=>a.cps.toList<b.cps.toList)->l=m
 | [],m,p,_,_=>p.nil_eq
 | x::l,[],p,_,_=>absurd p.eq_nil (by simp)
 | x :: l, y :: m, p, h1, h2 => by
   rw[List.pairwise_cons]at h1 h2
   have e:x=y:=by
     have hx:x∈y::m:=p.subset qM
     have hy:y∈x::l:=p.symm.subset qM
     rcases qV.mp hx with z | hx
     · exact z
     rcases qV.mp hy with z | hy
     · exact z.symm
     exact absurd (h1.1 y hy) (List.lt_asymm (h2.1 x hx))
   subst e
   rw[rise_eq ((List.perm_cons x).mp p) h1.2 h2.2]
end Gen
namespace Bk
open PySem L2
end Bk
namespace L2
open PySem PySem.Spec PyProof.Rows
end L2
namespace Gen
open PySem L2 Bk
end Gen
namespace Bd
open PySem L2 Bk Gen Gd
theorem pc_ok5{x:Th}(h:PcOk x):PySem.W.kqdOk 5 (thD x)=true:=by
 cases x with
 | int n=>cases h
 | tri s x t =>
   cases s<;>cases x<;>first | (exfalso;exact h) | skip
   · have:=qg0 h.1
     simp[thD,thgD,PySem.W.kqdOk,this,qeS]
   · have:=qd0 (.inr h.1)
     simp[thD,thgD,PySem.W.kqdOk,this,qeS]
   · simp[thD,thgD,PySem.W.kqdOk,qeS]
theorem stuff_ok5{k:Kd}{l:List Th}(h:Stuff k l):∀x∈l,PySem.W.kqdOk 5 (thD x)=true:=by
 intro x hx;cases k<;>first
  | (obtain⟨h1,_⟩:=h;exact pc_ok5 (h1 x hx))
  | (obtain⟨a,b,rfl,_⟩:=h;rcases qV.mp hx with rfl | hx;rfl;have:x=.int b:=(by simpa using hx);subst this;rfl)
  | (have:l=[]:=h;subst this;cases hx)
theorem bk_ok8{ds:List Nd}(h:∀d∈ds,Form d):PySem.W.kqdOk 8 (bkD ds)=true:=by
 simp only[bkD,PySem.W.kqdOk,List.all_eq_true,List.mem_map];rintro _ ⟨d,hd,rfl⟩;have f:=h d hd;have h1:=qd0 f.nm;have h2:∀m∈d.mks,PyData.strOk m=true:=λm hm=>qd0 (.inr (f.mks.2.1 m hm))
 have h3:=stuff_ok5 f.st;simp only[ndD,PySem.W.kqdOk,List.all_cons,List.all_nil,Bool.and_true,Bool.and_eq_true,List.all_eq_true,List.mem_map];refine⟨trivial,kd_str _,h1,?_,?_⟩
 ·rintro x ⟨m,hm,rfl⟩;exact h2 m hm
 ·rintro x ⟨m,hm,rfl⟩;exact h3 m hm
end Bd
namespace Br
open PySem L2 Bk Gen Gd Bd
section
variable{X:Cx}{pos:Pos}
def gTupL(K:W.Frag)(n:Nat)(t:TGs):TG:=λv σ H Q=>∃a xs,v=.ref a/\SqL K H a xs/\xs.length=n/\t xs σ H Q
theorem pg_tupL{es:List Expr}{k:Nat}{t:TGs}{n:Nat}(hc:X.calm=true)(h:PGs X es t)(hn:(assignEach es X.env).length=n:=by rfl)(hst:(assignEach es X.env).findIdx? (·.1)=none:=by rfl):PG X (.Tuple es k pos) (gTupL X.K n t):=by
 intro pins s σ H v u Q I r hw;obtain⟨a,xs,e1,hq,hl,hw⟩:=hw;subst e1;cases r;obtain⟨its,rv,ht,hz⟩:=I.list hq;have hL:s.heap.IsList a its.toArray:=ht.isList;have hn':(assignEach es X.env).length=its.toArray.size:=by simp[hn,<-hl,rv.length]
 show wpAny _ _ (assign (.Tuple es k pos) X.env (.ref a)) _ _ s;rw[PyProof.Rows.assign_Tuple];refine qE (vY ?_);unfold unpack;rw[hn',hst];refine qE (yJ (PySem.W.kun_itemsOf (I.ok.hd hc) hL λh' hx=>?_));have I1:Inv X pins σ H {s with heap:=h'}:=I.kept (t':=s.toks) λb o e=>hx b o (rJ (qW e)) e
 exact h pins _ σ H xs _ Q I1 (by simpa using rv) hw
end
def ov:Option Int->V
 | none=>.non
 | some x=>.int x
end Br
namespace L2
open PySem PySem.Spec PyProof.Rows
section
variable{X:Cx}
def rIndexO(K:W.Frag):V->List V->Hp->VK->Prop:=λx vs H Q=>∃(l:Addr) (os:List (Option Int)) (y:Int) (j:Nat),x=.ref l/\vs=[.int y]/\H l=some (.lst (os.map Br.ov))/\os.length<=1000/\os[j]?=some (some y)/\(∀i:Nat,i<j->os[i]?≠some (some y))/\Q (.int j) H
theorem mt_indexO:MtR X "list.index" (rIndexO X.K):=by
 intro pins s σ H x xs v us Q I rx rv h;obtain⟨l,os,y,j,rfl,rfl,hH,lz,hj,hlt,q⟩:=h;cases rx;obtain⟨u,rfl,ru⟩:=Vals.one rv;obtain⟨t,rfl⟩:=ru;obtain⟨z,its,n,r,hl,e⟩:=I.lstM hH;rw[qA]at hl;have at':∀(i:Nat) (hi:i<its.toArray.size),∃o,os[i]?=some o/\RelV (Br.ov o) its.toArray[i]:=λi hi=>by
  have hi':i<os.length:=by rw[hl];simpa using hi
  obtain⟨w',e2,r2⟩:=r.get (i:=i) (x:=Br.ov os[i]) (by rw[qR,qG hi'];rfl);refine⟨os[i],qG hi',?_⟩;have e3:its.toArray[i]=w':=by
   have:=(qI.mp e2).2;simpa using this
  rw[e3];exact r2
 have jl:j<its.toArray.size:=by
  have:=(qI.mp hj).1;rw[qZ];omega
 have eqv:∀w':Value,∀o:Option Int,RelV (Br.ov o) w'->(match w' with | .int i _=>i == y | _=>false)=decide (o=some y):=λw' o ro=>by
  cases o with
  | none=>have:w'=Value.none:=ro;subst this;simp
  | some i=>obtain⟨t',rfl⟩:=ro;show(i == y)=_;by_cases h:i=y<;>simp[h]
 refine uH F.slot_list_index ⟨_,e,rfl⟩ F.entry_list_index (F.args_list_index_2 _ _)
  (PySem.SeqAt.list_indexAt l its.toArray n none #[] (.int y t) (λw'=>match w' with | .int i _=>i == y | _=>false) j jl (by rw[qZ]at jl;omega) ?_ (λm hm hmj=>?_)) ⟨e,λw' hw'=>?_,⟨.int j,H,I.tok _,⟨_,rfl⟩,q⟩⟩
 ·obtain⟨o,eo,ro⟩:=at' j jl;rw[eqv _ o ro];rw[hj]at eo;exact qC (rD eo).symm
 ·obtain⟨o,eo,ro⟩:=at' m hm;rw[eqv _ o ro];exact qB λz=>hlt m hmj (by rw[eo,z])
 ·obtain⟨i,hi,rfl⟩:=Array.mem_iff_getElem.mp hw';obtain⟨o,eo,ro⟩:=at' i hi;cases o with
  | none =>
    have ev:its.toArray[i]=Value.none:=ro
    rw[ev]
    exact PySem.SeqAt.EqAt.none_int _ _
  | some k =>
    obtain⟨t',ev⟩:=ro
    rw[ev]
    exact PySem.SeqAt.EqAt.int_int _ _ _ _
def rIndexS(K:W.Frag):V->List V->Hp->VK->Prop:=λx vs H Q=>∃(l:Addr) (os:List Str) (y:Str) (j:Nat),x=.ref l/\vs=[.str y]/\H l=some (.lst (os.map V.str))/\os.length<=100000/\os[j]?=some y/\(∀i:Nat,i<j->os[i]?≠some y)/\Q (.int j) H
theorem mt_indexS:MtR X "list.index" (rIndexS X.K):=by
 intro pins s σ H x xs v us Q I rx rv h;obtain⟨l,os,y,j,rfl,rfl,hH,lz,hj,hlt,q⟩:=h;cases rx;obtain⟨u,rfl,ru⟩:=Vals.one rv;obtain⟨t,rfl⟩:=ru;obtain⟨z,its,n,r,hl,e⟩:=I.lstM hH;rw[qA]at hl;have at':∀(i:Nat) (hi:i<its.toArray.size),∃o t',os[i]?=some o/\its.toArray[i]=.str o t':=λi hi=>by
  have hi':i<os.length:=by rw[hl];simpa using hi
  obtain⟨w',e2,r2⟩:=r.get (i:=i) (x:=V.str os[i]) (by rw[qR,qG hi'];rfl);obtain⟨t',e4⟩:=r2;refine⟨os[i],t',qG hi',?_⟩;have e3:its.toArray[i]=w':=by
   have:=(qI.mp e2).2;simpa using this
  rw[e3,e4]
 have jl:j<its.toArray.size:=by
  have:=(qI.mp hj).1;rw[qZ];omega
 have sl:sizeLine=16777216:=by decide
 refine uH F.slot_list_index ⟨_,e,rfl⟩ F.entry_list_index (F.args_list_index_2 _ _)
  (PySem.SeqAt.list_indexAt l its.toArray n none #[] (.str y t) (λw'=>match w' with | .str i _=>i == y | _=>false) j jl (by rw[qZ]at jl;omega) ?_ (λm hm hmj=>?_)) ⟨e,λw' hw'=>?_,⟨.int j,H,I.tok _,⟨_,rfl⟩,q⟩⟩
 ·obtain⟨o,t',eo,ev⟩:=at' j jl;rw[hj]at eo;rw[ev,<-rD eo];show(y == y)=true;simp
 ·obtain⟨o,t',eo,ev⟩:=at' m hm;rw[ev];show(o == y)=false;rw[beq_eq_false_iff_ne];exact λz=>hlt m hmj (by rw[eo,z])
 ·obtain⟨i,hi,rfl⟩:=Array.mem_iff_getElem.mp hw';obtain⟨o,t',eo,ev⟩:=at' i hi;rw[ev];exact PySem.SeqAt.EqAt.str_str _ _ _ _
def isNo:V->Bool
 | .non=>true
 | _=>false
theorem op_inN(hu:X.A.units+64<cLine):OpR X (compareOp .In) (λx y H Q=>∃(p:Addr) (xs:List V),x=.non/\y=.ref p/\H p=some (.lst xs)/\(∀v∈xs,v=.non\/∃a ys,v=.ref a/\H a=some (.tup ys))/\Q (.bl (xs.any isNo)) H):=by
 intro pins s σ H x y v u Q I rx ry h;obtain⟨p,xs,rfl,rfl,hp,al,q⟩:=h;cases ry;have rx:v=Value.none:=rx;subst rx;obtain⟨z,its,n,r,hl,e⟩:=I.lstM hp;have un:X.A.in1.units<cLine:=by show X.A.units+1<cLine;omega
 have each:∀{xs:List V} {us:List Value},Vals xs us->(∀v∈xs,v=.non\/∃a ys,v=.ref a/\H a=some (.tup ys))->us.any (λw=>match w with | .none=>true | _=>false)=xs.any isNo/\∀w∈us,SeqAt.EqAt X.A.in1 s w Value.none (match w with | .none=>true | _=>false):=by
  intro xs us r
  induction r with
  | nil=>intro _;exact⟨rfl,λw hw=>by cases hw⟩
  | @cons y w ys us ry rt ih =>
    intro al
    obtain⟨i1,i2⟩:=ih λv hv=>al v (qQ _ hv)
    rcases al y qM with rfl | ⟨a,zs,rfl,ha⟩
    · have ry:w=Value.none:=ry
      subst ry
      refine⟨by rw[xJ,xJ,i1];rfl,λw' hw'=>?_⟩
      rcases qV.mp hw' with rfl | hw'
      · exact SeqAt.EqAt.same _
      · exact i2 w' hw'
    · have ry:w=Value.ref a:=ry.symm ▸ rfl
      subst ry
      refine⟨by rw[xJ,xJ,i1];rfl,λw' hw'=>?_⟩
      rcases qV.mp hw' with rfl | hw'
      · obtain⟨_,ws,_,ht⟩:=I.hok a _ ha
        exact SeqAt.EqAt.tuple_none ht un
      · exact i2 w' hw'
 obtain⟨e1,e2⟩:=each r al;refine SeqAt.in_listAt (λw=>match w with | .none=>true | _=>false) (items:=its.toArray) ⟨_,e,rfl,n,rfl⟩ (λw hw=>e2 w (by simpa using hw)) ⟨.bl _,H,I,rfl,?_⟩;rw[show its.toArray.any (λw=>match w with | .none=>true | _=>false)=its.any (λw=>match w with | .none=>true | _=>false) by simp,e1];exact q
theorem mt_starts:MtR X "str.startswith" (λx xs H Q=>∃y z:Str,x=.str y/\xs=[.str z]/\Q (.bl (Txt.startswith y z)) H):=by
 intro pins s σ H x xs v us Q I rx rv h;obtain⟨y,z,rfl,rfl,q⟩:=h;obtain⟨t,rfl⟩:=rx;obtain⟨u,rfl,ru⟩:=Vals.one rv;obtain⟨t2,rfl⟩:=ru;exact PySem.SC.startswith ⟨.bl _,H,I,rfl,q⟩
theorem mt_ends:MtR X "str.endswith" (λx xs H Q=>∃y z:Str,x=.str y/\xs=[.str z]/\Q (.bl (Txt.endswith y z)) H):=by
 intro pins s σ H x xs v us Q I rx rv h;obtain⟨y,z,rfl,rfl,q⟩:=h;obtain⟨t,rfl⟩:=rx;obtain⟨u,rfl,ru⟩:=Vals.one rv;obtain⟨t2,rfl⟩:=ru;exact PySem.SC.endswith ⟨.bl _,H,I,rfl,q⟩
theorem mt_lstripC:MtR X "str.lstrip" (λx xs H Q=>∃y z:Str,x=.str y/\xs=[.str z]/\y.length<=sizeLine/\Q (.str (Txt.lstripChars y z)) H):=by
 intro pins s σ H x xs v us Q I rx rv h;obtain⟨y,z,rfl,rfl,l,q⟩:=h;obtain⟨t,rfl⟩:=rx;obtain⟨u,rfl,ru⟩:=Vals.one rv;obtain⟨t2,rfl⟩:=ru;exact PySem.SC.lstripChars (λt' k=>⟨.str _,H,I.tok k,⟨_,rfl⟩,q⟩) l
end
end L2
namespace L2
open PySem PySem.Spec PyProof.Rows Builtin Builtin.Str
theorem vals_strs:∀(l:List (Str×Tok)),Vals ((l.map (·.1)).map V.str) (strValues l)
 | []=>.nil
 | (x,t)::l=>.cons ⟨t,rfl⟩ (vals_strs l)
section
variable{X:Cx}
theorem mt_split:MtR X "str.split" (λx xs H Q=>∃y z:Str,x=.str y/\xs=[.str z]/\(z.length == 0)=false/\y.length<=sizeLine/\(partsBetween y (occurrences y z 0 y.length (y.length+1)) z.length).length<=sizeLine /\
  ∀l,H l=none->Q (.ref l) (upd H l (.lst ((Txt.split y z).map V.str)))):=by
 intro pins s σ H x xs v us Q I rx rv h;obtain⟨y,z,rfl,rfl,hz,ly,lp,q⟩:=h;obtain⟨t,rfl⟩:=rx;obtain⟨u,rfl,ru⟩:=Vals.one rv;obtain⟨t2,rfl⟩:=ru;have one:(1:Nat)<=sizeLine:=by decide
 have fin:∀(l:List (Str×Tok)) (k:Nat),l.map (·.1)=Txt.split y z->l.length<=sizeLine->EP X pins σ Q (.ref s.heap.objs.size) {s with toks:=k,heap:=s.heap.push {cls:=.type "list",data:=.seq (strValues l).toArray}}:=λl k e n=>by
  refine⟨.ref s.heap.objs.size,_,I.laid (t':=k) (λb u e=>qL _ e) (qN _) (show ObjOk X.prog X.w _ _ _ (.lst ((Txt.split y z).map V.str))from⟨?_,strValues l,0,?_,rE _ rfl⟩),rfl,q _ (I.hok.fresh (qN _))⟩
  ·rw[qA,<-e,qA];exact n
  ·rw[<-e];exact vals_strs l
 cases h1:(decide (y.length<z.length) || decide (strKind y<strKind z))with
 | true=>exact uH vZ (uO _ _ _) vT (vL _ _) (meets_str_split_cannot_occur y z t t2 h1) (fin [(y,t)] s.toks (by unfold Txt.split;rw[if_pos h1];rfl) one)
 | false =>
   cases hf:(occurrences y z 0 y.length (y.length+1)).isEmpty with
   | true=>exact uH vZ (uO _ _ _) vT (vL _ _) (meets_str_split_not_found y z t t2 h1 hz hf) (fin [(y,t)] s.toks (by unfold Txt.split;rw[if_neg (by rw[h1];decide),if_pos hf];rfl) one)
   | false =>
     refine uH vZ (uO _ _ _) vT (vL _ _) (meets_str_split_sep y z t t2 h1 hz hf ly lp) ?_
     have w:=fin (numbered s.toks (partsBetween y (occurrences y z 0 y.length (y.length+1)) z.length)) (s.toks+(partsBetween y (occurrences y z 0 y.length (y.length+1)) z.length).length) (by rw[numbered_texts];unfold Txt.split;rw[if_neg (by rw[h1];decide),if_neg (by rw[hf];decide)]) (by rw[<-qA (f:=(·.1)),numbered_texts];exact lp)
     rw[<-strsFrom_eq]at w
     exact w
end
end L2
namespace L2
open PySem Builtin Builtin.Str
theorem qgm(x:Str)(c:Nat):Txt.startswith x ⟨#[c]⟩=decide (x.cps.toList.head?=some c):=by
 obtain⟨a⟩:=x;obtain⟨l⟩:=a;rw[r9,rA];unfold Txt.startswith subAt;cases l with
 | nil=>simp[Str.length]
 | cons d l =>
   simp[Str.length]
theorem ends1(x:Str)(c:Nat):Txt.endswith x ⟨#[c]⟩=decide (x.cps.toList.getLast?=some c):=by
 obtain⟨a⟩:=x;obtain⟨l⟩:=a;rw[r9,rA];unfold Txt.endswith subAt;rcases List.eq_nil_or_concat l with rfl | ⟨r,d,rfl⟩
 ·simp[Str.length]
 ·simp[Str.length]
end L2
namespace L2
open PySem Builtin Builtin.Str StrLaws
def posC(c:Nat):Nat->List Nat->List Nat
 | _,[]=>[]
 | a,d::r=>if d=c then a::posC c (a+1) r else posC c (a+1) r
theorem sub1{x:Str}{a d:Nat}{r:List Nat}(h:x.cps.toList.drop a=d::r)(c:Nat):subAt x ⟨#[c]⟩ a=true↔d=c:=by
 obtain⟨⟨l⟩⟩:=x;have h:l.drop a=d::r:=h;unfold subAt;have e:(({toList:=l}:Array Nat).extract a (a+(⟨#[c]⟩:Str).length))=#[d]:=by
  apply Array.ext';simp[Str.length,h]
 show(({toList:=l}:Array Nat).extract a (a+(⟨#[c]⟩:Str).length) == #[c])=true↔_;rw[e];simp
theorem qga(x:Str)(c:Nat):∀(r:List Nat) (a:Nat) (st:Array Nat×Nat),x.cps.toList.drop a=r->a+r.length=x.length->st.2<=a->st.1.size<=a ->
  (forIn (List.range' a (r.length+1)) st (occBody x ⟨#[c]⟩ x.length (x.length+1))).run.fst.toList=st.1.toList++posC c a r
 | [], a, st, h, l, h1, h2 => by
   have l:a=x.length:=l
   rw[show List.range' a (([]:List Nat).length+1)=[a]from rfl,u8]
   unfold occBody
   rw[if_neg (λz=>by have z2:a+1<=x.length:=z.1.2;omega)]
   show st.1.toList=_
   rw[posC,qX]
 | d :: r, a, st, h, l, h1, h2 => by
   rw[rC]at l
   have hd:x.cps.toList.drop (a+1)=r:=by rw[<-List.drop_drop,h];rfl
   rw[rC,List.range'_succ,u8]
   unfold occBody
   by_cases e:d=c
   · rw[if_pos ⟨⟨⟨by show st.1.size<x.length+1;omega,h1⟩,by show a+1<=x.length;omega⟩,(sub1 h c).mpr e⟩]
     show(forIn (List.range' (a+1) (r.length+1)) (st.1.push a,a+1) (occBody x ⟨#[c]⟩ x.length (x.length+1))).run.fst.toList=_
     rw[qga x c r (a+1) (st.1.push a,a+1) hd (by omega) (qN _) (by show(st.1.push a).size<=a+1;rw[Array.size_push];omega),posC,if_pos e]
     simp
   · rw[if_neg (λz=>e ((sub1 h c).mp z.2))]
     show(forIn (List.range' (a+1) (r.length+1)) st (occBody x ⟨#[c]⟩ x.length (x.length+1))).run.fst.toList=_
     rw[qga x c r (a+1) st hd (by omega) (by omega) (by omega),posC,if_neg e]
theorem occ1(x:Str)(c:Nat):occurrences x ⟨#[c]⟩ 0 x.length (x.length+1)=posC c 0 x.cps.toList:=by
 rw[occ_eq];have h:=qga x c x.cps.toList 0 (#[],0) rfl (by obtain⟨⟨l⟩⟩:=x;simp[Str.length]) (qN _) (qN _);rw[show x.cps.toList.length=x.length from by obtain⟨⟨l⟩⟩:=x;rfl]at h;simpa using h
def pref(a:List Nat):List (List Nat)->List (List Nat)
 | []=>[a]
 | p::q=>(a++p)::q
def qbS(c:Nat):List Nat->List (List Nat)
 | []=>[[]]
 | d::r=>if d=c then[]::qbS c r else pref [d] (qbS c r)
theorem pref_pref(a b:List Nat):∀l:List (List Nat),pref a (pref b l)=pref (a++b) l
 | []=>by simp[pref]
 | p::q=>by simp[pref]
theorem qe2(c:Nat):∀l:List Nat,∃p q,qbS c l=p::q
 | []=>⟨[],[],rfl⟩
 | d :: r => by
   obtain⟨p,q,e⟩:=qe2 c r
   by_cases h:d=c
   · exact⟨[],qbS c r,by rw[qbS,if_pos h]⟩
   · exact⟨d::p,q,by rw[qbS,if_neg h,e];rfl⟩
abbrev mkS(l:List Nat):Str:=⟨l.toArray⟩
theorem qfp(x:Str)(a b:Nat):strSub x a b=mkS ((x.cps.toList.drop a).take (b-a)):=by
 obtain⟨⟨l⟩⟩:=x;unfold strSub mkS
 congr 1
 apply Array.ext';simp[List.take_drop]
theorem qdC(x:Str)(c:Nat):∀(r:List Nat) (a b:Nat),a<=b->x.cps.toList.drop b=r->b+r.length=x.length ->
  partsFrom x 1 a (posC c b r)=(pref ((x.cps.toList.drop a).take (b-a)) (qbS c r)).map mkS
 | [], a, b, ab, h, l => by
   have l:b=x.length:=l
   rw[posC,partsFrom,qfp,qbS,l]
   simp[pref]
 | d :: r, a, b, ab, h, l => by
   rw[rC]at l
   have hd:x.cps.toList.drop (b+1)=r:=by rw[<-List.drop_drop,h];rfl
   by_cases e:d=c
   · rw[posC,if_pos e,partsFrom,qdC x c r (b+1) (b+1) (qN _) hd (by omega),qfp,qbS,if_pos e]
     obtain⟨p,q,eq⟩:=qe2 c r
     rw[eq]
     simp[pref]
   · rw[posC,if_neg e,qdC x c r a (b+1) (by omega) hd (by omega),qbS,if_neg e,pref_pref]
     congr 2
     have e1:b+1-a=(b-a)+1:=by omega
     rw[e1,rO]
     congr 1
     rw[List.getElem?_drop,show a+(b-a)=b by omega]
     have:x.cps.toList[b]?=some d:=by
       have:=xN (·[0]?) h
       simpa using this
     rw[this]
     rfl
theorem qfc(c:Nat):∀{l:List Nat},c∉l->qbS c l=[l]
 | [],_=>rfl
 | d :: r, h => by
   rw[qbS,if_neg (λe=>h (by rw[e];exact qM)),qfc c (λm=>h (qQ _ m))]
   rfl
theorem qg7(c:Nat):∀{l:List Nat} {a:Nat},posC c a l=[]->c∉l
 | [],_,_=>by simp
 | d :: r, a, h => by
   rw[posC]at h
   by_cases e:d=c
   · rw[if_pos e]at h;cases h
   · rw[if_neg e]at h
     intro m
     rcases qV.mp m with z | z
     · exact e z.symm
     · exact qg7 c h z
theorem split_cut(x:Str)(c:Nat)(hk:¬strKind x<strKind ⟨#[c]⟩):Txt.split x ⟨#[c]⟩=(qbS c x.cps.toList).map mkS:=by
 unfold Txt.split
 have self:[x]=[x.cps.toList].map mkS:=by obtain⟨⟨l⟩⟩:=x;rfl
 by_cases h0:x.length<(⟨#[c]⟩:Str).length
 ·rw[if_pos (by simp[h0])];have:x.cps.toList=[]:=by
   have h0:x.length<1:=h0;obtain⟨⟨l⟩⟩:=x;have h0:l.length<1:=h0;exact qO (by show l.length=0;omega)
  rw[self,this];rfl
 ·rw[if_neg (by simp[h0,hk]),occ1]
  by_cases h1:posC c 0 x.cps.toList=[]
  ·rw[if_pos (by rw[h1];rfl),self,qfc c (qg7 c h1)]
  ·rw[if_neg (by simpa using h1),partsBetween_eq];have:=qdC x c x.cps.toList 0 0 (qN _) rfl (by obtain⟨⟨l⟩⟩:=x;simp[Str.length]);rw[show(⟨#[c]⟩:Str).length=1 from rfl,this];obtain⟨p,q,e⟩:=qe2 c x.cps.toList;rw[e];simp[pref]
theorem kind_low(x:Str){c:Nat}(h:c<256):¬Str.strKind x<Str.strKind ⟨#[c]⟩:=by
 have e:Str.strKind ⟨#[c]⟩=1:=by unfold Str.strKind;rw[if_pos (by simp[h])]
 rw[e];unfold Str.strKind
 split
 ·decide
 ·split<;>decide
theorem split_low(x:Str){c:Nat}(h:c<256):Txt.split x ⟨#[c]⟩=(qbS c x.cps.toList).map mkS:=split_cut x c (kind_low x h)
theorem qbH(p:Nat->Bool):∀l:List Nat,l.drop (l.takeWhile p).length=l.dropWhile p
 | []=>rfl
 | d :: r => by
   cases h:p d with
   | true=>simp[List.takeWhile_cons,List.dropWhile_cons,h,qbH p r]
   | false=>simp[List.takeWhile_cons,List.dropWhile_cons,h]
theorem qhz(x:Str)(c:Nat):Txt.lstripChars x ⟨#[c]⟩=mkS (x.cps.toList.dropWhile (·== c)):=by
 have ec:(λd=>(#[c]:Array Nat).contains d)=λd=>d == c:=by funext d;simp[Bool.beq_eq_decide_eq]
 unfold Txt.lstripChars Txt.stripBy;show(if stripSame (λd=>(#[c]:Array Nat).contains d) true false x then x else stripped (λd=>(#[c]:Array Nat).contains d) true false x)=_;rw[ec];unfold stripSame stripped stripLo stripHi;rw[if_pos rfl,if_neg qF]
 by_cases h:(x.cps.toList.takeWhile λd=>d == c).length=0
 ·rw[if_pos (by simp[h]),<-qbH,h];obtain⟨⟨l⟩⟩:=x;rfl
 ·rw[if_neg (by simp[h]),qfp,<-qbH]
  congr 2
  rw[rZ];rw[rV];obtain⟨⟨l⟩⟩:=x;exact qN _
end L2
namespace L2
open PySem
def qcf(n:Nat):Bool:=n == 32 || (9<=n && n<=13)
def figI(n:Nat):Option Nat :=
 if 48<=n && n<=57 then some (n-48)else if 97<=n && n<=122 then some (n-87)else if 65<=n && n<=90 then some (n-55)else none
def qhO(q:Nat)(p:Array Nat×Bool)(n:Nat):Option (Array Nat×Bool) :=
 match p with
 | (r, f) => if n == 95 then (if f then some (r, false) else none)
   else match figI n with
     | some k=>if k<q then some (r.push k,true)else none
     | none=>none
def qix(q:Nat)(l:List Nat):Option (Array Nat):=do
 let (r,f) <- l.foldlM (qhO q) ((#[]:Array Nat),false)
 if f then some r else none
def baseI:List Nat->Option Nat
 | 48::n::_=>if n == 120 || n == 88 then some 16 else if n == 111 || n == 79 then some 8 else if n == 98 || n == 66 then some 2 else none
 | _=>none
def qew(w:List Nat):Bool×List Nat:=match w with
 | 45::r=>(true,r)
 | 43::r=>(false,r)
 | _=>(false,w)
def behI(w:List Nat):List Nat:=match w.drop 2 with
 | 95::r=>r
 | r=>r
def askI(q:Nat)(w:List Nat):Nat×Bool×List Nat:=match baseI w with
 | some p=>if q == 0 || q == p then(p,false,behI w)else(q,false,w)
 | none=>if q == 0 then(10,w.head? == some 48,w)else(q,false,w)
def qiH{N:Type}(no:N)(long:Nat->N)(lib:N)(val:Int->N)(m q:Nat)(l:List Nat):N :=
 match qix (askI q (qew (l.dropWhile qcf)).2).1 ((askI q (qew (l.dropWhile qcf)).2).2.2.reverse.dropWhile qcf).reverse with
 | none=>no
 | some ds =>
   if ![2,4,8,16,32].contains (askI q (qew (l.dropWhile qcf)).2).1 && m != 0 && ds.size>m then long ds.size else
   if(askI q (qew (l.dropWhile qcf)).2).1 == 10 && ds.size>6000 then lib else
   if(askI q (qew (l.dropWhile qcf)).2).2.1 && ds.foldl (λu d=>u*(askI q (qew (l.dropWhile qcf)).2).1+d) 0 != 0 then no else val (if(qew (l.dropWhile qcf)).1 then -((ds.foldl (λu d=>u*(askI q (qew (l.dropWhile qcf)).2).1+d) 0:Nat):Int)else(ds.foldl (λu d=>u*(askI q (qew (l.dropWhile qcf)).2).1+d) 0:Nat))
def Fig(n:Nat):Prop:=48<=n/\n<=57
def numI(l:List Nat):Nat:=(l.map (·- 48)).foldl (λu d=>u*10+d) 0
theorem fig_blank{n:Nat}(h:Fig n):qcf n=false:=by
 obtain⟨h1,h2⟩:=h;unfold qcf;simp;omega
theorem fig_val{n:Nat}(h:Fig n):figI n=some (n-48):=by
 obtain⟨h1,h2⟩:=h;unfold figI;rw[if_pos (by simp;omega)]
theorem qgM{l:List Nat}(h:∀n∈l,Fig n):l.dropWhile qcf=l:=by
 cases l with
 | nil=>rfl
 | cons a r=>rw[uD,fig_blank (h a qM)];rfl
theorem step_fig{a:Nat}(ha:Fig a)(r:Array Nat)(f:Bool):qhO 10 (r,f) a=some (r.push (a-48),true):=by
 have z:a≠95:=by have:=ha.2;omega
 have y:a-48<10:=by have:=ha.2;omega
 unfold qhO;simp[fig_val ha,z,y]
theorem figs_run:∀(l:List Nat) (r:Array Nat) (f:Bool),(∀n∈l,Fig n)->l.foldlM (qhO 10) (r,f)=some (r++(l.map (·- 48)).toArray,if l=[]then f else true)
 | [],r,f,_=>by simp
 | a :: l, r, f, h => by
   rw[List.foldlM_cons,step_fig (h a qM)]
   show l.foldlM (qhO 10) (r.push (a-48),true)=_
   rw[figs_run l (r.push (a-48)) true λn hn=>h n (qQ _ hn)]
   simp
theorem figs_all{l:List Nat}(h:∀n∈l,Fig n)(ne:l≠[]):qix 10 l=some (l.map (·- 48)).toArray:=by
 unfold qix;rw[figs_run l #[] false h,if_neg ne];simp
theorem no_zero:∀{l:List Nat},(∀n∈l,Fig n)->l.takeWhile (λx=>x != 0)=l
 | [],_=>rfl
 | a :: l, h => by
   have:a≠0:=by have:=(h a qM).1;omega
   rw[vJ,if_pos (by simp[this]),no_zero λn hn=>h n (qQ _ hn)]
theorem qec{N:Type}{no:N}{long:Nat->N}{lib:N}{val:Int->N}{l:List Nat}(h:∀n∈l,Fig n)(ne:l≠[])(h0:l.head?≠some 48)(sz:l.length<=100):qiH no long lib val 0 10 l=val (numI l:Int):=by
 have d2:(l.reverse.dropWhile qcf).reverse=l:=by rw[qgM λn hn=>h n (List.mem_reverse.mp hn),List.reverse_reverse]
 have s1:qew l=(false,l):=by
  cases l with
  | nil=>exact absurd rfl ne
  | cons a r =>
    have ha:=h a qM
    have z3:a≠45:=by have:=ha.1;omega
    have z4:a≠43:=by have:=ha.1;omega
    unfold qew;split<;>simp_all
 have h1:baseI l=none:=by
  cases l with
  | nil=>rfl
  | cons a r =>
    have z:a≠48:=λe=>h0 (by rw[e];rfl)
    unfold baseI;split<;>simp_all
 have k1:askI 10 l=(10,false,l):=by unfold askI;rw[h1];rfl
 unfold qiH;rw[qgM h,s1];simp only[k1,d2,figs_all h ne];have l6:¬6000<l.length:=by omega
 simp[l6,numI]
theorem sno_int:typeLookup (.type "str") "__int__" = pure none:=by rw[y3,xV];kernel_rfl
theorem sno_index:typeLookup (.type "str") "__index__" = pure none:=by rw[y3,xV];kernel_rfl
theorem sno_trunc:typeLookup (.type "str") "__trunc__" = pure none:=by rw[y3,xV];kernel_rfl
theorem meets_int(x:Str)(u:Tok)(h:∀n∈x.cps.toList,Fig n)(ne:x.cps.toList≠[])(h0:x.cps.toList.head?≠some 48)(sz:x.cps.toList.length<=100) :
  Meets (Builtin.«int.__new__» ⟨[.type "int",.str x u],[]⟩) (Made.int (numI x.cps.toList:Int)).spec :=
 Meets.of_wp λprog w A R s hs=>by
  obtain⟨hp,g,d,tk,os⟩:=s;have f1:=F.conv_sub_int;have f2:=F.madeHere_int;have g1:=sno_int;have g2:=sno_index;have g3:=sno_trunc;have ha:x.cps.all (·< 128)=true:=by
   rw[yG];intro c hc;have:=(h c (by simpa using hc)).2;exact qC (by omega)
  have hT:(⟨hp,g,d,tk,os⟩:Shared).TypeIs (.str x u) "str":=rfl
  repeat (any_goals (first | assumption | wp_step))
  rw[if_pos ha];have tw:=no_zero h;rw[tw,if_pos (by omega)]
  repeat (any_goals (first | assumption | wp_step))
  split
  case h_1 n hh=>exact nomatch hh.symm.trans (qec h ne h0 sz)
  case h_2 hh=>exact nomatch hh.symm.trans (qec h ne h0 sz)
  case h_3 i hh =>
   have e:=hh.symm.trans (qec h ne h0 sz);injection e with e
   subst e;rw[if_pos (by simp)]
   repeat (any_goals (first | assumption | wp_step))
   all_goals first | exact⟨_,rfl,hs⟩ | skip
  case h_4 hh=>exact nomatch hh.symm.trans (qec h ne h0 sz)
end L2
namespace L2
open PySem PySem.Spec PyProof.Rows
section
variable{X:Cx}
theorem call_intS:qdT X (.type "int") (λxs H Q=>∃x:Str,xs=[.str x]/\(∀n∈x.cps.toList,Fig n)/\x.cps.toList≠[]/\x.cps.toList.head?≠some 48/\x.cps.toList.length<=100/\Q (.int (numI x.cps.toList:Int)) H):=by
 intro pins s σ H xs us Q I r h;obtain⟨x,rfl,h1,ne,h0,sz,q⟩:=h;obtain⟨u,rfl,rx⟩:=qfx r;obtain⟨t,rfl⟩:=rx;exact call_int_1 (meets_int x t h1 ne h0 sz) (show(Made.int (numI x.cps.toList:Int)).post _ s from⟨rfl,⟨.int _,H,I.tok _,⟨_,rfl⟩,q⟩⟩)
end
end L2
namespace Bk
open PySem L2 Gen
theorem wordB_iff{x:Str}:qeM x=true↔Word x:=by
 refine⟨λh=>?_,qgJ⟩;unfold qeM at h;rw[rH,rA,all_map]at h;exact⟨by omega,by omega,λc hc=>rL (h.2 c hc)⟩
theorem nameB_iff{x:Str}:qdM x=true↔Name x:=by
 refine⟨λh=>?_,qfa⟩;unfold qdM at h;rw[rH,rA,all_map]at h;exact⟨by omega,by omega,λc hc=>(qfP c).mp (rL (h.2 c hc))⟩
theorem pieceB_iff{x:Th}:pieceB x=true↔PcOk x:=by
 refine⟨λh=>?_,qdq⟩;cases x with
 | int n=>cases h
 | tri s x t =>
   cases s<;>cases x<;>first | cases h | skip
   · have h:(decide _ && qeM _)=true:=h
     rw[rH,rA,wordB_iff]at h
     exact⟨h.2,h.1⟩
   · have h:(decide _ && qdM _)=true:=h
     rw[rH,rA,nameB_iff]at h
     exact⟨h.2,h.1⟩
   · have h:(decide _ && decide _)=true:=h
     rw[rH,rA,rA]at h
     exact⟨h.1.1,h.1.2,by omega⟩
def sideB:Th->Bool
 | .int n=>decide (1<=n/\n<=2000)
 | _=>false
def qcX(st:List Th):Prop:=(∀x∈st,PcOk x)/\(∃x r,st=x::r/\isNote x=false)/\st.length<=60
def RawSt(k:Kd)(st:List Th):Prop:=(ofPieces k=true->∀x∈st,PcForm x)/\(k=.picture->∀x∈st,∃n,x=.int n)/\st.length<=500
def qg5(l:List Str):Prop:=(∀m∈l,Low m/\m.length<=1000)/\l.length<=500
theorem stuff_pic{st:List Th}(h:st.length=2):(st.map sideB).all id=true↔Stuff .picture st:=by
 match st,h with
 | [x, y], _ =>
   cases x with
   | tri s x t=>simp[sideB,Stuff]
   | int a =>
     cases y with
     | tri s x t=>simp[sideB,Stuff]
     | int b =>
       show(decide (1<=a/\a<=2000) && (decide (1<=b/\b<=2000) && true))=true↔_
       rw[wL,rH,rA,rA]
       constructor
       · intro z
         exact⟨a,b,rfl,z.1.1,z.1.2,z.2.1,z.2.2⟩
       · rintro⟨a',b',e,z⟩
         cases e
         exact⟨⟨z.1,z.2.1⟩,z.2.2.1,z.2.2.2⟩
theorem qcA{k:Kd}{st:List Th}(h:k∈[Kd.text,.head,.note]):qcX st↔Stuff k st:=by
 rcases qV.mp h with rfl | h
 ·exact Iff.rfl
 rcases qV.mp h with rfl | h
 ·exact Iff.rfl
 have:k=.note:=by simpa using h
 subst this;exact Iff.rfl
theorem stuff_none{k:Kd}{st:List Th}(h1:k≠.picture)(h2:k∉[Kd.text,.head,.note]):st=[]↔Stuff k st:=by
 cases k<;>first | exact Iff.rfl | exact absurd rfl h1 | exact absurd (by decide) h2
theorem qia{x:Str}(h:Low x):PyData.strOk x=true:=by
 show(x.cps.all λc=>decide (c<0x110000))=true;unfold Low at h;rw[yG]at h⊢;intro c hc;have:=rL (h c hc);exact qC (by omega)
end Bk
namespace Gen
open PySem L2 Bk
def spPiecesX:Sp:=λvs H Q _=>∃(s:Addr) (st:List Th) (N:Addr->Prop),vs=[.ref s]/\StAt N H s st/\(∀x∈st,PcForm x)/\st.length<=500/\∀b H',Same H H'->(b=true↔qcX st)->Q (.bl b) H'
def spStuffX:Sp:=λvs H Q _=>∃(k:Kd) (s:Addr) (st:List Th) (N:Addr->Prop),vs=[.str k.s,.ref s]/\StAt N H s st/\RawSt k st/\∀b H',Same H H'->(b=true↔Stuff k st)->Q (.bl b) H'
def spMayX:Sp:=λvs H Q _=>∃e k:Kd,vs=[.str e.s,.str k.s]/\e∈kindsAll/\Q (.bl (mayHold e k)) H
end Gen
namespace L2
theorem Same.none{H H':Hp}{b:PySem.Addr}(s:Same H H')(h:H' b=.none):H b=.none:=by
 cases e:H b with
 | none=>rfl
 | some o=>rw[s b o e]at h;cases h
end L2
namespace Gen
open PySem L2 Bk
def KTup(K:W.Frag)(a:Addr)(ks:List Kd):Prop:=∀H,SqT K H a (ks.map λk=>V.str k.s)
theorem qco(ks:List Kd):(ks.map λk=>V.str k.s).all flatV=true:=by
 rw[yH];intro x hx;obtain⟨k,_,rfl⟩:=rG.mp hx;rfl
theorem qbl(k:Kd)(ks:List Kd):inV (.str k.s) (ks.map λk=>V.str k.s)=decide (k∈ks):=by
 unfold inV
 induction ks with
 | nil=>simp
 | cons c ks ih =>
   rw[r8,xJ,ih]
   have e:eqV (V.str c.s) (V.str k.s)=decide (c=k):=by
     show(c.s == k.s)=_
     rw[r9]
     simp[Kd.inj]
   rw[e]
   by_cases h:c=k
   · subst h;simp
   · have h':¬k=c:=λz=>h z.symm
     simp[h,h']
theorem qeI{α β:Type}{f:α->β}(hf:∀a b,f a=f b->a=b):∀{l m:List α},l.map f=m.map f->l=m
 | [],[],_=>rfl
 | a :: l, b :: m, h => by
   rw[r8,r8]at h
   injection h with h1 h2
   rw[hf a b h1,qeI hf h2]
def tl1(x:Str):Str:=⟨(x.cps.toList.drop 1).toArray⟩
def labB(c:Nat)(x:Str):Bool:=decide (x.cps.toList.head?=some c) && qdM (tl1 x)
def qcC(x:Str):Nat:=(x.cps.toList.takeWhile (·== 62)).length
def qbg(x:Str):List Str:=(qbS 32 (x.cps.toList.dropWhile (·== 62))).map mkS
def qb2(ws:List Str):Nat:=ws.findIdx (·== T "|")
def qbG(ws:List Str):List Str:=(ws.drop 1).take (qb2 ws-1)
def qck(ws:List Str):List Str:=ws.drop (qb2 ws+1)
def qbO(ls:List Str):Bool:=match ls with | []=>false | l::_=>labB 35 l
def qcD(ls:List Str):Bool:=((if qbO ls then ls.drop 1 else ls).map (labB 46)).all id
def qbV(ls:List Str):Str:=if qbO ls then tl1 (ls.headD noName)else noName
def qbo(ls:List Str):List Str:=(ls.filter (labB 46)).map tl1
def qaS(k:Kd):Bool:=decide (k=.picture) || decide (k∈[Kd.text,.head,.note])
def qdp(x:Str):Bool:=decide (1<=x.length/\x.length<=4) && !decide (x.cps.toList.head?=some 48) && (x.cps.toList.map λc=>decide (c∈figS.cps.toList)).all id
def qbj(x:Str):Int:=if qdp x then(numI x.cps.toList:Int)else 0
def qg1(l:List Nat):List Nat:=(l.drop 1).dropLast
def thing(x:Str):List Nat:=x.cps.toList.dropWhile (·== 42)
def qbW(x:Str):Th :=
 if(thing x).head?=some 123/\(thing x).getLast?=some 125 then .tri .page (.inl (mkS (qg1 (thing x)))) ((x.length:Int)-(thing x).length)
 else .tri .word (.inl (mkS (thing x))) ((x.length:Int)-(thing x).length)
def qbZ(n:Int):Th:=.tri .note (.inr n) 0
def qaI(x:Str):Option Th:=if x=T "{}" then some (qbZ 0)else if pieceB (qbW x)=true then some (qbW x)else none
open Classical in
noncomputable def qbb(k:Kd)(ws:List Str):Option (List Th) :=
 if k=.picture then(if Stuff .picture (ws.map λx=>Th.int (qbj x))then some (ws.map λx=>Th.int (qbj x))else none)
 else if(ws.map qaI).any Option.isNone || (qaS k != decide (0<ws.length))then none
 else some (ws.filterMap qaI)
def kindOf(x:Str):Option Kd:=kindsAll.find? λk=>k.s == x
noncomputable def qbB(x:Str):Option Nd :=
 match kindOf ((qbg x).headD noName)with
 | none=>none
 | some k => if !qcD (qbG (qbg x)) || (!qaS k && decide (qb2 (qbg x) < (qbg x).length)) then none
   else(qbb k (qck (qbg x))).map λst=>⟨(qcC x:Int),k,qbV (qbG (qbg x)),qbo (qbG (qbg x)),st⟩
structure RowOk(x:Str):Prop where
 low:Low x
 len:x.length<=100000
 ws:qg5 (qbg x)
 labs:(qbG (qbg x)).length<=60
def spLabel:Sp:=λvs H Q _=>∃(x:Str) (c:Nat),vs=[.str x,.str ⟨#[c]⟩]/\Low x/\x.length<=1000/\∀H',Same H H'->Q (.bl (labB c x)) H'
def spHasStuff:Sp:=λvs H Q _=>∃k:Kd,vs=[.str k.s]/\Q (.bl (qaS k)) H
def qfC(H:Hp)(l:Addr)(ls:List Str):Prop:=H l=some (.lst (ls.map V.str))/\qg5 ls
def spAreLabs:Sp:=λvs H Q _=>∃(l:Addr) (ls:List Str),vs=[.ref l]/\qfC H l ls/\∀H',Same H H'->Q (.bl (qcD ls)) H'
def spNameLab:Sp:=λvs H Q _=>∃(l:Addr) (ls:List Str),vs=[.ref l]/\qfC H l ls/\∀H',Same H H'->Q (.str (qbV ls)) H'
def spMarkLabs:Sp:=λvs H Q _=>∃(l:Addr) (ls:List Str),vs=[.ref l]/\qfC H l ls/\∀m H',H m=none->Same H H'->H' m=some (.lst ((qbo ls).map V.str))->Q (.ref m) H'
def spReadSide:Sp:=λvs H Q _=>∃x:Str,vs=[.str x]/\Low x/\x.length<=1000/\∀H',Same H H'->Q (.int (qbj x)) H'
def OpAt(N:Addr->Prop)(H:Hp)(v:V):Option Th->Prop
 | none=>v=.non
 | some th=>ItAt N H v th
def spReadPiece:Sp:=λvs H Q _=>∃x:Str,vs=[.str x]/\Low x/\x.length<=1000/\∀v H',Same H H'->OpAt (qbz H) H' v (qaI x)->Q v H'
def spReadStuff:Sp:=λvs H Q _=>∃(k:Kd) (l:Addr) (ws:List Str),vs=[.str k.s,.ref l]/\qfC H l ws/\(qbb k ws=none->∀H',Same H H'->Q .non H')/\(∀st,qbb k ws=some st->∀s H',Same H H'->StAt (qbz H) H' s st->Q (.ref s) H')
def spRowParts:Sp:=λvs H Q _=>∃x:Str,vs=[.str x]/\RowOk x/\(qbB x=none->∀H',Same H H'->Q .non H')/\(∀d,qbB x=some d->∀a H',Same H H'->NdAt (qbz H) H' a d->Q (.ref a) H')
theorem qhr{x:Str}{l:List Nat}(lo:Low x)(h:∀n∈l,n∈x.cps.toList):Low (mkS l):=qek λn hn=>by
 have hn:n∈x.cps.toList:=h n (by simpa using hn);unfold Low at lo;rw[yG]at lo;exact rL (lo n (by simpa using hn))
theorem qbM(x:Str):x.cps.toList.length=x.length:=by obtain⟨⟨l⟩⟩:=x;rfl
theorem qgP(l:List Nat):(mkS l).length=l.length:=rfl
theorem tl1_low{x:Str}(lo:Low x):Low (tl1 x):=qhr lo λn hn=>y9 hn
theorem tl1_len{x:Str}(le:x.length<=1000):(tl1 x).length<=1000:=by
 show(x.cps.toList.drop 1).toArray.size<=1000;rw[qZ,rV,qbM];omega
theorem qej{l m:List Str}(h:qg5 l)(s:∀x∈m,x∈l)(le:m.length<=l.length):qg5 m:=⟨λx hx=>h.1 x (s x hx),qS le h.2⟩
theorem qc3{xs:List V}(n:Nat):cutV xs (some (n:Int)) none=xs.drop n:=by
 unfold cutV;rw[HT.sIx_none,HT.sIx_nat]
 by_cases h:n<=xs.length
 ·rw[uI h,rZ (by rw[rV];omega)]
 ·rw[Nat.min_eq_right (by omega),yU (qN _),yU (by omega)];simp
theorem qhH{xs:List V}(n:Nat):cutV xs none (some (n:Int))=xs.take n:=by
 unfold cutV;rw[HT.sIx_none,HT.sIx_nat];rw[Nat.sub_zero,wH]
 by_cases h:n<=xs.length
 ·rw[uI h]
 ·rw[Nat.min_eq_right (by omega),rZ (qN _),rZ (by omega)]
theorem cut_mid{xs:List V}(a b:Nat)(h:b<=xs.length)(ha:a<=xs.length):cutV xs (some (a:Int)) (some (b:Int))=(xs.drop a).take (b-a):=by
 unfold cutV;rw[HT.sIx_nat,HT.sIx_nat,uI h,uI ha]
theorem slice_in{x:Str}(h:1<=x.length):Txt.slice x (some 1) (some (-1))=mkS (qg1 x.cps.toList):=by
 obtain⟨⟨l⟩⟩:=x
 match l,h with
 | [a],_=>rfl
 | a :: b :: l, _ =>
   show StrLaws.sliceText _ (some 1) (some (-1))=_
   rw[StrLaws.sliceText_neg_hi _ _ (by decide) (by show -(((a::b::l).length:Nat):Int)<=-1;simp;omega),StrLaws.sliceText_plain ⟨by decide,by show(1:Int)<=-1+(((a::b::l).length:Nat):Int);simp;omega,by show -1+(((a::b::l).length:Nat):Int)<=_;simp;omega⟩]
   show(⟨(((a::b::l).drop 1).take (-1+(((a::b::l).length:Nat):Int)-1).toNat).toArray⟩:Str)=mkS ((b::l).dropLast)
   rw[show(-1+(((a::b::l).length:Nat):Int)-1).toNat=(b::l).length-1 by simp;omega,List.dropLast_eq_take]
   rfl
theorem qc9(p:Nat->Bool)(l:List Nat):(l.dropWhile p).length<=l.length:=(uZ p).sublist.length_le
theorem while_len(p:Nat->Bool)(l:List Nat):l.length-(l.dropWhile p).length=(l.takeWhile p).length:=by
 have:=xN List.length (List.takeWhile_append_dropWhile (p:=p) (l:=l));rw[qD]at this;omega
theorem qhC(c:Nat):∀l:List Nat,(qbS c l).length<=l.length+1
 | []=>by simp[qbS]
 | d :: r => by
   have:=qhC c r
   rw[qbS]
   by_cases e:d=c
   · rw[if_pos e,rC,rC];omega
   · rw[if_neg e]
     obtain⟨p,q,eq⟩:=qe2 c r
     rw[eq]at this⊢
     rw[pref,rC,rC]at *
     omega
open Builtin Builtin.Str StrLaws in
theorem mt_split1{X:Cx}:MtR X "str.split" (λx xs H Q=>∃(y:Str) (c:Nat),x=.str y/\xs=[.str ⟨#[c]⟩]/\c<256/\y.length<=100000/\∀l,H l=none->Q (.ref l) (upd H l (.lst (((qbS c y.cps.toList).map mkS).map V.str)))):=by
 intro pins s σ H x xs v us Q I rx rv h;obtain⟨y,c,rfl,rfl,hc,hy,q⟩:=h;refine mt_split pins s σ H _ _ v us Q I rx rv ⟨y,⟨#[c]⟩,rfl,rfl,rfl,qS hy (by decide),?_,λl hl=>?_⟩
 ·rw[occ1,partsBetween_eq,show(⟨#[c]⟩:Str).length=1 from rfl,qdC y c y.cps.toList 0 0 (qN _) rfl (by rw[qbM];simp),qA];obtain⟨p,q',e⟩:=qe2 c y.cps.toList;have:=qhC c y.cps.toList;rw[qbM]at this;rw[e]at this⊢;rw[pref,rC]at *;exact qS this (qS (u5 hy) (by decide))
 ·rw[split_low y hc];exact q l hl
theorem qin(ws:List Str):qb2 ws<=ws.length:=List.findIdx_le_length
theorem qib{ws:List Str}(h:T "|" ∈ ws):ws[qb2 ws]?=some (T "|")/\(∀i:Nat,i<qb2 ws->ws[i]?≠some (T "|")):=by
 unfold qb2;have hl:ws.findIdx (·== T "|")<ws.length:=List.findIdx_lt_length_of_exists ⟨_,h,by simp⟩;refine⟨?_,λi hi e=>?_⟩
 ·rw[qG hl];have:=List.findIdx_getElem (w:=hl);simpa using this
 ·have hi':i<ws.length:=uQ hi hl;have:=List.not_of_lt_findIdx hi;rw[qG hi']at e;have e:ws[i]=T "|":=rD e;rw[e]at this;simp at this
theorem bar_out{ws:List Str}(h:T "|" ∉ ws):qb2 ws=ws.length:=by
 unfold qb2;rw[List.findIdx_eq_length];intro x hx;rw[beq_eq_false_iff_ne];rintro rfl;exact h hx
theorem qiq{n:Nat}(h:n∈figS.cps.toList):Fig n:=by
 have all:∀n∈figS.cps.toList,48<=n/\n<=57:=by ac_rfl
 exact all n h
theorem sg_hash:T "#" = ⟨#[35]⟩:=by ac_rfl
theorem sg_dot:T "." = ⟨#[46]⟩:=by ac_rfl
theorem sg_gt:T ">" = ⟨#[62]⟩:=by ac_rfl
theorem sg_sp:T " " = ⟨#[32]⟩:=by ac_rfl
theorem sg_star:T "*" = ⟨#[42]⟩:=by ac_rfl
theorem sg_open:T "{" = ⟨#[123]⟩:=by ac_rfl
theorem sg_close:T "}" = ⟨#[125]⟩:=by ac_rfl
theorem sg_zero:T "0" = ⟨#[48]⟩:=by ac_rfl
theorem qhP{x:Str}(h:1<=x.length):Txt.slice x (some 1) none=tl1 x:=qe6 (j:=1) (by decide) (by omega)
theorem qhT{c:Nat}{x:Str}(h:labB c x=true):1<=x.length:=by
 unfold labB at h;rw[rH,rA]at h;have h:=h.1;rw[<-qbM];cases e:x.cps.toList with
 | nil=>rw[e]at h;cases h
 | cons a r=>simp
theorem qdj{x:Str}{k:Kd}(h:kindOf x=some k):k.s=x/\k∈kindsAll:=by
 unfold kindOf at h;have h1:=List.find?_some h;exact⟨by simpa using h1,List.mem_of_find?_eq_some h⟩
theorem kindOf_in(x:Str):decide (x∈kindsAll.map Kd.s)=(kindOf x).isSome:=by
 unfold kindOf;rw[r9,rA,List.find?_isSome,rG];simp
theorem words_ne(x:Str):1<=(qbg x).length:=by
 unfold qbg;obtain⟨p,q,e⟩:=qe2 32 (x.cps.toList.dropWhile (·== 62));rw[e];simp
theorem qeR{α β γ:Type}{F:β->γ->Prop}{f:α->β}{g:α->γ}:∀{l:List α},(∀x∈l,F (f x) (g x))->Paired F (l.map f) (l.map g)
 | [],_=>.nil
 | x::r,h=>.cons (h x qM) (qeR λy hy=>h y (qQ _ hy))
theorem OpAt.same{N:Addr->Prop}{H H':Hp}{v:V}{o:Option Th}(h:OpAt N H v o)(s:Same H H'):OpAt N H' v o:=by
 cases o with
 | none=>exact h
 | some t=>exact ItAt.keep (N:=N) (N':=N) h s.keep λ_ n _=>n
theorem OpAt.sub{H0 H H':Hp}{v:V}{o:Option Th}(h:OpAt (qbz H) H' v o)(s:Same H0 H):OpAt (qbz H0) H' v o:=by
 cases o with
 | none=>exact h
 | some t=>exact ItAt.keep (N:=qbz H) (N':=qbz H0) h KeepN.refl λb n _=>s.none n
theorem read_tri(x:Str):∀t,qaI x=some t->∃s y n,t=.tri s y n:=by
 intro t h;unfold qaI at h
 by_cases e:x=T "{}"
 ·rw[if_pos e]at h;cases h;exact⟨_,_,_,rfl⟩
 ·rw[if_neg e]at h
  by_cases e2:pieceB (qbW x)=true
  ·rw[if_pos e2]at h;cases h;unfold qbW
   split<;>exact⟨_,_,_,rfl⟩
  ·rw[if_neg e2]at h;cases h
section
variable{N:Addr->Prop}{H:Hp}{vs:List V}{os:List (Option Th)}
theorem op_kinds(p:Paired (OpAt N H) vs os):(∀o∈os,∀t,o=some t->∃s y n,t=.tri s y n)->∀v∈vs,v=.non\/∃a ys,v=.ref a/\H a=some (.tup ys):=by
 induction p with
 | nil=>intro _ v hv;cases hv
 | @cons v o vs os q t ih =>
   intro h u hu
   rcases qV.mp hu with rfl | hu
   · cases o with
     | none=>exact .inl q
     | some th =>
       obtain⟨s,y,n,rfl⟩:=h _ qM th rfl
       obtain⟨a,e,_,g⟩:=q
       exact .inr ⟨a,_,e,g⟩
   · exact ih (λo ho=>h o (qQ _ ho)) u hu
theorem op_any(p:Paired (OpAt N H) vs os):vs.any isNo=os.any Option.isNone:=by
 induction p with
 | nil=>rfl
 | @cons v o vs os q t ih =>
   rw[xJ,xJ,ih]
   congr 1
   cases o with
   | none=>rw[show v=.non from q];rfl
   | some th =>
     cases th with
     | int n=>rw[show v=.int n from q];rfl
     | tri s y n =>
       obtain⟨a,e,_⟩:=q
       rw[e];rfl
theorem op_all(p:Paired (OpAt N H) vs os):os.any Option.isNone=false->Paired (ItAt N H) vs (os.filterMap id):=by
 induction p with
 | nil=>intro _;exact .nil
 | @cons v o vs os q t ih =>
   intro h
   rw[xJ,Bool.or_eq_false_iff]at h
   cases o with
   | none=>cases h.1
   | some th=>exact .cons q (ih h.2)
end
end Gen
namespace K09
open PySem L2 Bk Gen
abbrev sIsLabel:Stmt:=top 61
abbrev sHasStuff:Stmt:=top 59
abbrev sAreLabels:Stmt:=top 60
abbrev sNameLabel:Stmt:=top 62
abbrev sMarkLabels:Stmt:=top 63
abbrev sReadSide:Stmt:=top 65
section
variable{P:Program}{w:World}{K:W.Frag}{mg:Str->Option Value}{base:Heap}
theorem scIsLabel:FnScope ["label", "sign"] ["label", "sign"] (qai sIsLabel):=⟨rfl,rfl,rfl,by ac_rfl,rfl,by ac_rfl,by ac_rfl⟩
theorem ok_is_label{f:Addr}{fd:FuncData}(F:Fun K "is_label" "is_label" sIsLabel f fd)(F_is_name:Fx P w K mg base CX0 1 "is_name" ["value"] spNameB):FnOk P w K mg base CX0 2 f fd ["label", "sign"] spLabel:=by
 refine F.ok scIsLabel (λvs H Q E h=>?_) (λcdv A outer s H vs Q E hr h=>?_)
 ·obtain⟨x,c,rfl,_⟩:=h;rfl
 ·obtain⟨x,c,rfl,lo,le,q⟩:=h;have hr_is_name:=hr;refine⟨_,(qae (qap (qdr (qaV xH uM uN mt_starts (pv 0) (qaa (pv 1) pa_nil)) (qdb (qaB F_is_name hr_is_name (by rfl) qaA (qaa (qbd sl_str (pv 0) (qbc qaf) po_none) pa_nil)))))),?_⟩;refine⟨_,rfl,rfl,_,rfl,x,⟨#[c]⟩,rfl,rfl,_,rfl,?_⟩;rw[qgm]
  by_cases hs:x.cps.toList.head?=some c
  rotate_left
  ·rw[qB hs];refine iteF ?_;have e:labB c x=false:=by unfold labB;rw[qB hs];rfl
   have:=q H (Same.refl H);rw[e]at this;exact this
  rw[qC hs];refine iteT ⟨_,rfl,1,rfl,?_⟩;have l1:1<=x.length:=by
   rw[<-qbM];cases e:x.cps.toList with
   | nil=>rw[e]at hs;cases hs
   | cons a r=>simp
  refine⟨x,rfl,xY (qaz le),tl1 x,by rw[qhP l1];rfl,tl1_low lo,tl1_len le,λH' s'=>?_⟩;have e:labB c x=qdM (tl1 x):=by unfold labB;rw[qC hs];rfl
  rw[<-e];exact q H' s'
theorem scHasStuff:FnScope ["kind"] ["kind"] (qai sHasStuff):=⟨rfl,rfl,rfl,by ac_rfl,rfl,by ac_rfl,by ac_rfl⟩
theorem ok_has_stuff{f a_KINDS_OF_PIECES:Addr}{fd:FuncData}(F:Fun K "has_stuff" "has_stuff" sHasStuff f fd)(g_KINDS_OF_PIECES:mg "KINDS_OF_PIECES" = some (.ref a_KINDS_OF_PIECES))(KP:KTup K a_KINDS_OF_PIECES [.text,.head,.note]):FnOk P w K mg base CX0 1 f fd ["kind"] spHasStuff:=by
 refine F.ok scHasStuff (λvs H Q E h=>?_) (λcdv A outer s H vs Q E hr h=>?_)
 ·obtain⟨k,rfl,_⟩:=h;rfl
 ·obtain⟨k,rfl,q⟩:=h;refine⟨_,(qae (qap (qh0 (qa2 op_eq (pv 0) qag (qao _)) (qdb (qa2 op_in_seq (pv 0) (qak (v:=.ref a_KINDS_OF_PIECES) (by rfl) g_KINDS_OF_PIECES rfl) (by with_unfolding_all rfl)))))),?_⟩;refine⟨_,rfl,rfl,_,rfl,?_⟩;rw[show decide (V.str k.s=V.str (Str.ofString "picture"))=decide (k=.picture)from kdt k .picture]
  by_cases hk:k=.picture
  ·rw[qC hk];unfold qaS at q;rw[qC hk]at q;exact iteT q
  ·rw[qB hk];unfold qaS at q;rw[qB hk]at q;refine iteF ⟨_,rfl,a_KINDS_OF_PIECES,_,rfl,.inr (KP H),rfl,qco _,?_⟩;rw[if_neg qF,qbl];exact q
theorem scAreLabels:FnScope ["labels", "marks"] ["labels"] (qai sAreLabels):=⟨rfl,rfl,rfl,by ac_rfl,rfl,by ac_rfl,by ac_rfl⟩
theorem ok_are_labels{f:Addr}{fd:FuncData}(F:Fun K "are_labels" "are_labels" sAreLabels f fd)(T:Bn mg)(F_is_label:Fx P w K mg base CX0 2 "is_label" ["label", "sign"] spLabel):FnOk P w K mg base CX0 3 f fd ["labels"] spAreLabs:=by
 refine F.ok scAreLabels (λvs H Q E h=>?_) (λcdv A outer s H vs Q E hr h=>?_)
 ·obtain⟨l,ls,rfl,_⟩:=h;rfl
 ·obtain⟨l,ls,rfl,⟨hl,rk⟩,q⟩:=h;have hr_is_label:=hr;refine⟨_,(qad (qaq (i:=1) scAreLabels.nd (by rfl) (by trivial) (pv 0))
   (qad (qaH (PW.pt (qcb (qah op_gt (qam call_len_seq (by rfl) T.len b_len (qaa (pv 0) pa_nil)) qaf (qao _)) (qbD (qbk (qaB F_is_label hr_is_label (by rfl) qaA (qaa (qan ix_list (pv 0) qaf (λ_ _=>rfl)) (qaa qag pa_nil))))))) (qae (qaq (i:=1) scAreLabels.nd (by rfl) (by trivial) (qbd sl_list (pv 0) (qbc qaf) po_none))) pss_nil)
   (qae (qap (qam (qcP (by rfl)) (by rfl) T.all b_all (qaa (qbr (own:=["label"]) (by rfl) (CompScope.plain (by rfl) (by ac_rfl) (by ac_rfl) (by ac_rfl)) (qa1 (pv 1)) (λcl C s2 H2 fp=>(qas (i:=0) (by show(["label"]:List Str).Nodup;ac_rfl) (by rfl) (by trivial) (by trivial))) (λcl C s2 H2 fp=>qbs) (λcl C s2 H2 fp=>(qaB F_is_label hr_is_label (by rfl) qaA (qaa (pv 0) (qaa qag pa_nil))))) pa_nil)))))),?_⟩
  refine⟨_,rfl,?_⟩;dsimp only[tNext];refine qbf (λσ' H'=>∃m,σ'=[some (.ref l),some (.ref m)]/\Same H H'/\qfC H' m (if qbO ls then ls.drop 1 else ls)) (λD' k=>?_) ?_
  ·refine⟨_,rfl,l,_,rfl,.inl (SqL.of hl),_,_,rfl,rfl,_,rfl,?_⟩;cases ls with
   | nil=>exact iteF (iteF (k _ _ ⟨l,rfl,Same.refl H,hl,rk⟩))
   | cons x r =>
     rw[qC (by simp:(0:Int)<((((x::r).map V.str).length:Nat):Int))]
     have hx:=rk.1 x qM
     refine iteT ⟨_,rfl,l,_,_,_,rfl,rfl,SqL.of hl,(qbL (j:=0) rfl),x,35,by rw[<-sg_hash];rfl,hx.1,hx.2,λH2 s2=>⟨_,rfl,?_⟩⟩
     show if labB 35 x=true then _ else _
     cases e:labB 35 x with
     | false=>exact iteF (k _ _ ⟨l,rfl,s2,by rw[show qbO (x::r)=labB 35 x from rfl,e];exact⟨s2 _ _ hl,rk⟩⟩)
     | true =>
       refine iteT ⟨_,rfl,1,rfl,l,_,rfl,SqL.of (s2 _ _ hl),λp hp=>k _ _ ⟨p,rfl,s2.trans (qab hp _),?_⟩⟩
       rw[show qbO (x::r)=labB 35 x from rfl,e]
       refine⟨?_,qej rk (λy hy=>qQ _ hy) (by simp)⟩
       rw[qac]
       exact xN (λz=>some (HO.lst z)) (qc3 1)
  rintro σ1 H1 ⟨m,rfl,s1,hm,rm⟩;unfold qcD at q;generalize (if qbO ls then ls.drop 1 else ls)=ms at hm rm q;have zl:(ms.map V.str).length<sizeLine:=by rw[qA];exact qaz (qS rm.2 (by decide))
  refine⟨_,rfl,m,rfl,⟨_,SqL.of hm⟩,qaM (λi ys σ' H'=>Same H1 H'/\ys=((ms.take i).map (labB 46)).map V.bl/\∃z,σ'=[z]) zl ⟨Same.refl H1,rfl,none,rfl⟩ ?_ ?_ ?_⟩
  ·rintro i ys σ' H' hi ⟨s2,rfl,_⟩;exact⟨SqL.of (s2 _ _ hm),by simp;omega⟩
  ·rintro i x ys σ' H' hx ⟨s2,rfl,z,rfl⟩;rw[qR]at hx;cases e:ms[i]? with
   | none=>rw[e]at hx;cases hx
   | some nm =>
     rw[e]at hx
     cases hx
     have hn:=rm.1 nm (qP e)
     refine⟨_,rfl,nm,46,by rw[<-sg_dot];rfl,hn.1,hn.2,λH3 s3=>⟨s2.trans s3,?_,_,rfl⟩⟩
     rw[rO,e,xB,qT,qT]
     rfl
  ·rintro ys σ' H' ⟨s2,rfl,_⟩ D hD;rw[qA,rM];exact⟨D,_,rfl,SqL.of qac,q _ ((s1.trans s2).trans (qab hD _))⟩
theorem scNameLabel:FnScope ["labels"] ["labels"] (qai sNameLabel):=⟨rfl,rfl,rfl,by ac_rfl,rfl,by ac_rfl,by ac_rfl⟩
theorem ok_name_label{f:Addr}{fd:FuncData}(F:Fun K "name_label" "name_label" sNameLabel f fd)(T:Bn mg)(F_is_label:Fx P w K mg base CX0 2 "is_label" ["label", "sign"] spLabel):FnOk P w K mg base CX0 3 f fd ["labels"] spNameLab:=by
 refine F.ok scNameLabel (λvs H Q E h=>?_) (λcdv A outer s H vs Q E hr h=>?_)
 ·obtain⟨l,ls,rfl,_⟩:=h;rfl
 ·obtain⟨l,ls,rfl,⟨hl,rk⟩,q⟩:=h;have hr_is_label:=hr;refine⟨_,(qad (qaH (PW.pt (qcb (qah op_gt (qam call_len_seq (by rfl) T.len b_len (qaa (pv 0) pa_nil)) qaf (qao _)) (qbD (qbk (qaB F_is_label hr_is_label (by rfl) qaA (qaa (qan ix_list (pv 0) qaf (λ_ _=>rfl)) (qaa qag pa_nil))))))) (qae (qap (qbd sl_str (qan ix_list (pv 0) qaf (λ_ _=>rfl)) (qbc qaf) po_none))) pss_nil)
   (qae (qap qag))),?_⟩
  refine⟨_,rfl,l,_,rfl,.inl (SqL.of hl),_,_,rfl,rfl,_,rfl,?_⟩;cases ls with
  | nil=>exact iteF (iteF (q H (Same.refl H)))
  | cons x r =>
    rw[qC (by simp:(0:Int)<((((x::r).map V.str).length:Nat):Int))]
    have hx:=rk.1 x qM
    refine iteT ⟨_,rfl,l,_,_,_,rfl,rfl,SqL.of hl,(qbL (j:=0) rfl),x,35,by rw[<-sg_hash];rfl,hx.1,hx.2,λH2 s2=>⟨_,rfl,?_⟩⟩
    have q2:=q H2 s2
    unfold qbV at q2
    rw[show qbO (x::r)=labB 35 x from rfl]at q2
    cases e:labB 35 x with
    | false =>
      rw[e]at q2
      exact iteF q2
    | true =>
      rw[e]at q2
      refine iteT ⟨_,rfl,l,_,_,_,rfl,rfl,SqL.of (s2 _ _ hl),(qbL (j:=0) rfl),1,rfl,x,rfl,xY (qaz hx.2),?_⟩
      rw[qhP (qhT e)]
      exact q2
theorem scMarkLabels:FnScope ["labels"] ["labels"] (qai sMarkLabels):=⟨rfl,rfl,rfl,by ac_rfl,rfl,by ac_rfl,by ac_rfl⟩
theorem ok_mark_labels{f:Addr}{fd:FuncData}(F:Fun K "mark_labels" "mark_labels" sMarkLabels f fd)(F_is_label:Fx P w K mg base CX0 2 "is_label" ["label", "sign"] spLabel):FnOk P w K mg base CX0 3 f fd ["labels"] spMarkLabs:=by
 refine F.ok scMarkLabels (λvs H Q E h=>?_) (λcdv A outer s H vs Q E hr h=>?_)
 ·obtain⟨l,ls,rfl,_⟩:=h;rfl
 ·obtain⟨l,ls,rfl,⟨hl,rk⟩,q⟩:=h;have hr_is_label:=hr;have zl:(ls.map V.str).length<sizeLine:=by rw[qA];exact qaz (qS rk.2 (by decide))
  refine⟨_,(qae (qap (qbr (own:=["label"]) (by rfl) (CompScope.plain (by rfl) (by ac_rfl) (by ac_rfl) (by ac_rfl)) (qa1 (pv 0)) (λcl C s2 H2 fp=>(qas (i:=0) (by show(["label"]:List Str).Nodup;ac_rfl) (by rfl) (by trivial) (by trivial))) (λcl C s2 H2 fp=>(qbX (qbk (qaB F_is_label hr_is_label (by rfl) qaA (qaa (pv 0) (qaa qag pa_nil)))))) (λcl C s2 H2 fp=>(qbd sl_str (pv 0) (qbc qaf) po_none))))),?_⟩;refine⟨_,rfl,l,rfl,⟨_,SqL.of hl⟩,qaM (λi ys σ' H'=>Same H H'/\ys=(qbo (ls.take i)).map V.str/\∃z,σ'=[z]) zl ⟨Same.refl H,rfl,none,rfl⟩ ?_ ?_ ?_⟩
  ·rintro i ys σ' H' hi ⟨s1,rfl,_⟩;refine⟨SqL.of (s1 _ _ hl),?_⟩;unfold qbo;rw[qA,qA];exact qS (xL ..) (by rw[rK];omega)
  ·rintro i x ys σ' H' hx ⟨s1,rfl,z,rfl⟩;rw[qR]at hx;cases e:ls[i]? with
   | none=>rw[e]at hx;cases hx
   | some nm =>
     rw[e]at hx
     cases hx
     have hn:=rk.1 nm (qP e)
     have et:ls.take (i+1)=ls.take i++[nm]:=by rw[rO,e];rfl
     refine⟨_,rfl,nm,46,by rw[<-sg_dot];rfl,hn.1,hn.2,λH2 s2=>⟨_,rfl,?_⟩⟩
     cases eb:labB 46 nm with
     | false =>
       refine iteF ⟨s1.trans s2,?_,_,rfl⟩
       rw[et]
       unfold qbo
       rw[xQ]
       simp[eb]
     | true =>
       refine iteT ⟨_,rfl,1,rfl,nm,rfl,xY (qaz hn.2),s1.trans s2,?_,_,rfl⟩
       rw[et,qhP (qhT eb)]
       unfold qbo
       rw[xQ]
       simp[eb]
  ·rintro ys σ' H' ⟨s1,rfl,_⟩ D hD;rw[qA,rM];exact q D _ (s1.none hD) (s1.trans (qab hD _)) qac
theorem scReadSide:FnScope ["word"] ["word"] (qai sReadSide):=⟨rfl,rfl,rfl,by ac_rfl,rfl,by ac_rfl,by ac_rfl⟩
theorem ok_read_side{f:Addr}{fd:FuncData}(F:Fun K "read_side" "read_side" sReadSide f fd)(T:Bn mg)(U:Glob mg)(gf:∃t,mg "MOST_SIDE_FIGURES" = some (.int 4 t)):FnOk P w K mg base CX0 1 f fd ["word"] spReadSide:=by
 refine F.ok scReadSide (λvs H Q E h=>?_) (λcdv A outer s H vs Q E hr h=>?_)
 ·obtain⟨x,rfl,_⟩:=h;rfl
 ·obtain⟨x,rfl,lo,le,q⟩:=h;obtain⟨_,g_MOST_SIDE_FIGURES⟩:=gf;obtain⟨_,g_FIGURES⟩:=U.fi;have zl:=qaz le;have xl:=qbM x;have no:qdp x=false->Q (.int 0) H:=λe=>by
   have:=q H (Same.refl H);unfold qbj at this;rw[e]at this;exact this
  refine⟨_,(qad (qaH (PW.pt (qdi (qb0 (qdA op_le op_le qaf (qam call_len_str (by rfl) T.len b_len (qaa (pv 0) pa_nil)) (qak (v:=.int 4) (by rfl) g_MOST_SIDE_FIGURES ⟨_,rfl⟩))) (qcg (qbk (qaV xH uM uN mt_starts (pv 0) (qaa qag pa_nil)))))) (qae (qap qaf)) pss_nil)
   (qae (qap (qcd (qbk (qam (qcP (by rfl)) (by rfl) T.all b_all (qaa (qbr (own:=["sign"]) (by rfl) (CompScope.plain (by rfl) (by ac_rfl) (by ac_rfl) (by ac_rfl)) (qhL (pv 0)) (λcl C s2 H2 fp=>(qas (i:=0) (by show(["sign"]:List Str).Nodup;ac_rfl) (by rfl) (by trivial) (by trivial))) (λcl C s2 H2 fp=>qbs) (λcl C s2 H2 fp=>(qa2 qeQ (pv 0) (qak (v:=.str (Str.ofString "0123456789")) (by rfl) g_FIGURES ⟨_,rfl⟩) (by with_unfolding_all rfl)))) pa_nil))) (qcm call_intS (by rfl) T.int b_int (qaa (pv 0) pa_nil)) qaf)))),?_⟩
  refine⟨_,rfl,x,rfl,xY zl,_,_,rfl,rfl,_,rfl,?_⟩
  by_cases g1:1<=x.length
  rotate_left
  ·rw[qB (by omega:¬(1:Int)<=(x.length:Nat))];refine iteF ⟨_,rfl,iteT (iteT (no ?_))⟩;unfold qdp;rw[qB (λz=>g1 z.1)];rfl
  rw[qC (by omega:(1:Int)<=(x.length:Nat))];refine iteT ⟨_,_,rfl,rfl,_,rfl,?_⟩
  by_cases g2:x.length<=4
  rotate_left
  ·rw[qB (by omega:¬((x.length:Nat):Int)<=4)];refine iteT (iteT (no ?_));unfold qdp;rw[qB (λz=>g2 z.2)];rfl
  rw[qC (by omega:((x.length:Nat):Int)<=4)];refine iteF ⟨_,rfl,rfl,x,Str.ofString "0",rfl,rfl,_,rfl,?_⟩;rw[show Str.ofString "0" = ⟨#[48]⟩from sg_zero,qgm]
  by_cases g3:x.cps.toList.head?=some 48
  ·rw[qC g3];refine iteT (no ?_);unfold qdp;rw[qC g3,Bool.not_true,wG,yC]
  rw[qB g3];refine iteF ?_;refine⟨_,rfl,x,rfl,lo,qfe (λi ys σ' H'=>H'=H/\ys=((x.cps.toList.take i).map λc=>decide (c∈figS.cps.toList)).map V.bl/\∃z,σ'=[z]) zl ⟨rfl,rfl,none,rfl⟩ ?_ ?_ ?_⟩
  ·rintro i ys σ' H' hi ⟨rfl,rfl,_⟩;rw[qA,qA,rK];exact yQ _ _
  ·rintro i c ys σ' H' hc ⟨rfl,rfl,z,rfl⟩;refine⟨_,rfl,c,figS,rfl,rfl,rfl,?_,_,rfl⟩;rw[xE,xE,qdm (V.bl∘λc=>decide (c∈figS.cps.toList)) (by simpa using hc)];rfl
  ·rintro ys σ' H' ⟨rfl,rfl,_⟩ D hD;have eT:x.cps.toList.take x.cps.size=x.cps.toList:=rZ (by rw[xl];exact qN _);rw[eT];refine⟨D,_,rfl,SqL.of qac,_,rfl,?_⟩;have q2:=q _ (qab hD (.lst ((x.cps.toList.map λc=>decide (c∈figS.cps.toList)).map V.bl)));unfold qbj qdp at q2;rw[qC (⟨g1,g2⟩:1<=x.length/\x.length<=4),qB g3,Bool.not_false,xG,xG]at q2;cases ea:(x.cps.toList.map λc=>decide (c∈figS.cps.toList)).all id with
   | false =>
     rw[ea]at q2
     exact iteF q2
   | true =>
     rw[ea]at q2
     refine iteT ⟨_,rfl,x,rfl,λn hn=>qiq (rL (all_map.mp ea n hn)),λz=>?_,g3,by omega,q2⟩
     rw[z]at xl
     simp at xl
     omega
abbrev sArePieces:Stmt:=top 33
abbrev sIsStuff:Stmt:=top 32
theorem scArePieces:FnScope ["stuff"] ["stuff"] (qai sArePieces):=⟨rfl,rfl,rfl,by ac_rfl,rfl,by ac_rfl,by ac_rfl⟩
theorem ok_are_pieces{f:Addr}{fd:FuncData}(F:Fun K "are_pieces" "are_pieces" sArePieces f fd)(T:Bn mg)(U:Glob mg)(N:Nums mg)(F_is_piece:Fx P w K mg base CX0 3 "is_piece" ["piece"] spPieceB):FnOk P w K mg base CX0 4 f fd ["stuff"] spPiecesX:=by
 refine F.ok scArePieces (λvs H Q E h=>?_) (λcdv A outer s H vs Q E hr h=>?_)
 ·obtain⟨sf,st,N',rfl,_⟩:=h;rfl
 ·obtain⟨sf,st,N',rfl,⟨nsf,vs,hs,its⟩,fm,le,q⟩:=h;obtain⟨_,g_SORT⟩:=N.sort;obtain⟨_,g_MOST_PIECES⟩:=U.pieces;have hr_is_piece:=hr;have lv:vs.length=st.length:=its.length;have zl:vs.length<sizeLine:=qaz (by omega);refine⟨_,(qad (qaH (PW.pt (qdi (qb0 (qdA op_le op_le qaf (qam call_len_seq (by rfl) T.len b_len (qaa (pv 0) pa_nil)) (qak (v:=.int 60) (by rfl) g_MOST_PIECES ⟨_,rfl⟩))) (qcg (qb0 (qbk (qam (qcP (by rfl)) (by rfl) T.all b_all (qaa (qbr (own:=["piece"]) (by rfl) (CompScope.plain (by rfl) (by ac_rfl) (by ac_rfl) (by ac_rfl)) (qa1 (pv 0)) (λcl C s2 H2 fp=>(qas (i:=0) (by show(["piece"]:List Str).Nodup;ac_rfl) (by rfl) (by trivial) (by trivial))) (λcl C s2 H2 fp=>qbs) (λcl C s2 H2 fp=>(qaB F_is_piece hr_is_piece (by rfl) qaA (qaa (pv 0) pa_nil)))) pa_nil))))))) (qae (qap qeN)) pss_nil)
   (qae (qap (qa2 op_ne (qan ix_tup (qan ix_list (pv 0) qaf (λ_ _=>rfl)) (qak (v:=.int 0) (by rfl) g_SORT ⟨_,rfl⟩) (λ_ _=>rfl)) qag (qao _))))),?_⟩
  refine⟨_,rfl,sf,_,rfl,.inl (SqL.of hs),_,_,rfl,rfl,_,rfl,?_⟩
  by_cases g1:1<=st.length
  rotate_left
  ·rw[qB (by omega:¬(1:Int)<=(vs.length:Nat))];refine iteF ⟨_,rfl,iteT (q false H (Same.refl H) ⟨λz=>(by cases z),λz=>?_⟩)⟩;obtain⟨_,⟨x,r,rfl,_⟩,_⟩:=z;exact absurd (by simp) g1
  rw[qC (by omega:(1:Int)<=(vs.length:Nat))];refine iteT ⟨_,_,rfl,rfl,_,rfl,?_⟩
  by_cases g2:st.length<=60
  rotate_left
  ·rw[qB (by omega:¬((vs.length:Nat):Int)<=60)];exact iteT (q false H (Same.refl H) ⟨λz=>(by cases z),λz=>absurd z.2.2 g2⟩)
  rw[qC (by omega:((vs.length:Nat):Int)<=60)];refine iteF ?_;refine⟨_,rfl,sf,rfl,⟨_,SqL.of hs⟩,qaM (λi ys σ' H'=>Same H H'/\ys=((st.take i).map pieceB).map V.bl/\∃z,σ'=[z]) zl ⟨Same.refl H,rfl,none,rfl⟩ ?_ ?_ ?_⟩
  ·rintro i ys σ' H' hi ⟨s1,rfl,_⟩;exact⟨SqL.of (s1 _ _ hs),by simp;omega⟩
  ·rintro i x ys σ' H' hx ⟨s1,rfl,z,rfl⟩;obtain⟨th,et,it⟩:=qaR its hx;have pk:=fm th (qP et);cases th with
   | int n=>cases pk
   | tri so x t =>
     obtain⟨a,rfl,_,ha⟩:=it
     refine⟨_,rfl,a,so,x,t,rfl,s1 _ _ ha,pk,λH2 s2=>⟨s1.trans s2,?_,_,rfl⟩⟩
     rw[rO,et,xB,qT,qT]
     rfl
  ·rintro ys σ' H' ⟨s1,rfl,_⟩ D hD;rw[lv,rM]at *;have s2:=s1.trans (qab hD (.lst ((st.map pieceB).map V.bl)));refine⟨D,_,rfl,SqL.of qac,_,rfl,?_⟩
   by_cases al:(st.map pieceB).all id=true
   rotate_left
   ·rw[vS.mpr al];refine iteT (q false _ s2 ⟨λz=>(by cases z),λz=>absurd ?_ al⟩);rw[yH];intro b hb;obtain⟨x,hx,rfl⟩:=rG.mp hb;exact qdq (z.1 x hx)
   rw[al];refine iteF ?_;have ok:∀x∈st,PcOk x:=λx hx=>pieceB_iff.mp (yH.mp al _ (rG.mpr ⟨x,hx,rfl⟩))
   cases its with
   | nil=>exact absurd g1 (by decide)
   | @cons v x0 vs' r it rest =>
     have pk:=ok x0 qM
     cases x0 with
     | int n=>cases pk
     | tri so x t =>
       obtain⟨a,rfl,_,ha⟩:=it
       refine⟨_,rfl,sf,_,_,_,rfl,rfl,SqL.of (s2 _ _ hs),(qbL (j:=0) rfl),a,_,_,_,rfl,rfl,SqT.of (s2 _ _ ha),rfl,rfl,?_⟩
       rw[show decide (V.str so.s=V.str (Str.ofString "note"))=decide (so=.note)from sot so .note]
       refine q _ _ s2 ⟨λz=>⟨ok,⟨_,r,rfl,?_⟩,g2⟩,λz=>?_⟩
       · cases so<;>first | rfl | exact absurd z (by decide)
       · obtain⟨_,⟨y,r',e,nn⟩,_⟩:=z
         cases e
         cases so<;>first | rfl | cases nn
theorem scIsStuff:FnScope ["kind", "stuff"] ["kind", "stuff"] (qai sIsStuff):=⟨rfl,rfl,rfl,by ac_rfl,rfl,by ac_rfl,by ac_rfl⟩
theorem ok_is_stuff{f a_KINDS_OF_PIECES:Addr}{fd:FuncData}(F:Fun K "is_stuff" "is_stuff" sIsStuff f fd)(T:Bn mg)(U:Glob mg)(g_KINDS_OF_PIECES:mg "KINDS_OF_PIECES" = some (.ref a_KINDS_OF_PIECES))(KP:KTup K a_KINDS_OF_PIECES [.text,.head,.note])(F_is_whole:Fx P w K mg base CX0 1 "is_whole" ["value", "low", "high"] spWhole)(F_are_pieces:Fx P w K mg base CX0 4 "are_pieces" ["stuff"] spPiecesX):FnOk P w K mg base CX0 5 f fd ["kind", "stuff"] spStuffX:=by
 refine F.ok scIsStuff (λvs H Q E h=>?_) (λcdv A outer s H vs Q E hr h=>?_)
 ·obtain⟨k,sf,st,N',rfl,_⟩:=h;rfl
 ·obtain⟨k,sf,st,N',rfl,⟨nsf,vs,hs,its⟩,ok,q⟩:=h;obtain⟨_,g_GREATEST_PICTURE⟩:=U.pict;have hr_is_whole:Room 1 _:=hr.mono (by decide);have hr_are_pieces:=hr;have lv:vs.length=st.length:=its.length;refine⟨_,(qad (qaH (qb0 (qbk (qdY T.isinstance (by rfl) T.list (by rfl) b_list (pv 1)))) (qae (qap qeN)) pss_nil)
   (qad (qaH (qah op_eq (pv 0) qag (qao _)) (qae (qap (qdr (qa2 op_eq (qam call_len_seq (by rfl) T.len b_len (qaa (pv 1) pa_nil)) qaf (qao _)) (qdb (qam (qcP (by rfl)) (by rfl) T.all b_all (qaa (qbr (own:=["side"]) (by rfl) (CompScope.plain (by rfl) (by ac_rfl) (by ac_rfl) (by ac_rfl)) (qa1 (pv 1)) (λcl C s2 H2 fp=>(qas (i:=0) (by show(["side"]:List Str).Nodup;ac_rfl) (by rfl) (by trivial) (by trivial))) (λcl C s2 H2 fp=>qbs) (λcl C s2 H2 fp=>(qaB F_is_whole hr_is_whole (by rfl) qaA (qaa (pv 0) (qaa qaf (qaa (qak (v:=.int 2000) (by rfl) g_GREATEST_PICTURE ⟨_,rfl⟩) pa_nil)))))) pa_nil)))))) pss_nil)
   (qad (qaH (qah op_in_seq (pv 0) (qak (v:=.ref a_KINDS_OF_PIECES) (by rfl) g_KINDS_OF_PIECES rfl) (by with_unfolding_all rfl)) (qae (qap (qaB F_are_pieces hr_are_pieces (by rfl) qaA (qaa (pv 1) pa_nil)))) pss_nil)
   (qae (qap (qa2 op_eq (qam call_len_seq (by rfl) T.len b_len (qaa (pv 1) pa_nil)) qaf (qao _))))))),?_⟩
  refine⟨_,rfl,_,_,_,_,rfl,.lst hs,⟨_,λu r=>r,k_ll⟩,_,rfl,iteF ?_⟩;refine⟨_,rfl,rfl,_,rfl,?_⟩;rw[show decide (V.str k.s=V.str (Str.ofString "picture"))=decide (k=.picture)from kdt k .picture];have l5:=ok.2.2
  by_cases hk:k=.picture
  ·rw[qC hk];subst hk;have zl:vs.length<sizeLine:=qaz (by omega);refine iteT ⟨_,rfl,sf,_,rfl,.inl (SqL.of hs),rfl,_,rfl,?_⟩
   by_cases l2:st.length=2
   rotate_left
   ·rw[qB (λz=>l2 (by injection z with z;omega):¬V.int (vs.length:Nat)=V.int 2)];refine iteF (q false H (Same.refl H) ⟨λz=>(by cases z),λz=>?_⟩);obtain⟨a,b,rfl,_⟩:=z;exact absurd rfl l2
   rw[qC (by rw[lv,l2];rfl:V.int (vs.length:Nat)=V.int 2)];refine iteT ?_;refine⟨_,rfl,sf,rfl,⟨_,SqL.of hs⟩,qaM (λi ys σ' H'=>H'=H/\ys=((st.take i).map sideB).map V.bl/\∃z,σ'=[z]) zl ⟨rfl,rfl,none,rfl⟩ ?_ ?_ ?_⟩
   ·rintro i ys σ' H' hi ⟨rfl,rfl,_⟩;exact⟨SqL.of hs,by simp;omega⟩
   ·rintro i v ys σ' H' hx ⟨rfl,rfl,z,rfl⟩;obtain⟨th,et,it⟩:=qaR its hx;obtain⟨n,rfl⟩:=ok.2.1 rfl th (qP et);cases it;refine⟨_,rfl,n,1,2000,rfl,rfl,?_,_,rfl⟩;rw[rO,et,xB,qT,qT];rfl
   ·rintro ys σ' H' ⟨rfl,rfl,_⟩ D hD;rw[lv,rM]at *;refine⟨D,_,rfl,SqL.of qac,?_⟩;exact q _ _ (qab hD _) (stuff_pic l2)
  ·rw[qB hk];refine iteF ⟨_,rfl,a_KINDS_OF_PIECES,_,rfl,.inr (KP H),rfl,qco _,_,rfl,?_⟩;rw[if_neg qF,qbl]
   by_cases hp:k∈[Kd.text,.head,.note]
   ·rw[qC hp];refine iteT ⟨_,rfl,sf,st,N',rfl,⟨nsf,vs,hs,its⟩,ok.1 ?_,l5,λb H2 s2 i=>q b H2 s2 (i.trans (qcA hp))⟩;cases k<;>first | rfl | exact absurd hp (by decide)
   ·rw[qB hp];refine iteF ⟨_,rfl,sf,_,rfl,.inl (SqL.of hs),rfl,?_⟩;refine q _ H (Same.refl H) (Iff.trans ?_ (stuff_none hk hp));rw[rA];constructor
    ·intro z;injection z with z
     exact qO (by omega)
    ·rintro rfl;rw[lv];rfl
end
end K09
namespace L2
open PySem PySem.Spec PyProof.Rows
theorem qau{t u:TS}{D:Ends}{σ:St}{H:Hp}(P:St->Hp->Prop)(h:∀N:St->Hp->Prop,(∀σ' H',P σ' H'->N σ' H')->t {D with nx:=N} σ H)(k:∀σ' H',P σ' H'->u D σ' H'):tSeq t u D σ H:=h _ k
end L2
namespace Br
open PySem L2 Bk Gen Gd Bd
end Br
namespace K09
open PySem L2 Bk Gen
abbrev sReadPiece:Stmt:=top 66
abbrev sReadStuff:Stmt:=top 64
abbrev sRowParts:Stmt:=top 58
section
variable{P:Program}{w:World}{K:W.Frag}{mg:Str->Option Value}{base:Heap}
theorem scReadPiece:FnScope ["word", "thing", "tone", "piece"] ["word"] (qai sReadPiece):=⟨rfl,rfl,rfl,by ac_rfl,rfl,by ac_rfl,by ac_rfl⟩
theorem ok_read_piece{f:Addr}{fd:FuncData}(F:Fun K "read_piece" "read_piece" sReadPiece f fd)(T:Bn mg)(F_is_piece:Fx P w K mg base CX0 3 "is_piece" ["piece"] spPieceB):FnOk P w K mg base CX0 4 f fd ["word"] spReadPiece:=by
 refine F.ok scReadPiece (λvs H Q E h=>?_) (λcdv A outer s H vs Q E hr h=>?_)
 ·obtain⟨x,rfl,_⟩:=h;rfl
 ·obtain⟨x,rfl,lo,le,q⟩:=h;have hr_is_piece:=hr;have zl:=xY (qaz le);have tl:(thing x).length<=x.length:=by
   have:=qc9 (·== 42) x.cps.toList;rw[qbM]at this;exact this
  have lo1:Low (mkS (thing x)):=qhr lo λn hn=>(uZ _).subset hn
  refine⟨_,(qad (qaH (qah op_eq (pv 0) qag (qao _)) (qae (qap (qaK (qaa qag (qaa qaf (qaa qaf pa_nil)))))) pss_nil)
   (qad (qaq (i:=1) scReadPiece.nd (by rfl) (by trivial) (qaV xH PySem.F.slot_str_lstrip PySem.F.type_str_lstrip mt_lstripC (pv 0) (qaa qag pa_nil)))
   (qad (qaq (i:=2) scReadPiece.nd (by rfl) (by trivial) (qaO op_sub (qam call_len_str (by rfl) T.len b_len (qaa (pv 0) pa_nil)) (qam call_len_str (by rfl) T.len b_len (qaa (pv 1) pa_nil))))
   (qad (qaq (i:=3) scReadPiece.nd (by rfl) (by trivial) (qaK (qaa qag (qaa (pv 1) (qaa (pv 2) pa_nil)))))
   (qad (qaH (PW.pt (qcb (qbk (qaV xH uM uN mt_starts (pv 1) (qaa qag pa_nil))) (qbD (qbk (qaV xH PySem.F.slot_str_endswith PySem.F.type_str_endswith mt_ends (pv 1) (qaa qag pa_nil)))))) (qae (qaq (i:=3) scReadPiece.nd (by rfl) (by trivial) (qaK (qaa qag (qaa (qbd sl_str (pv 1) (qbc qaf) (qbc (qcy un_neg qaf))) (qaa (pv 2) pa_nil)))))) pss_nil)
   (qae (qap (qcd (qbk (qaB F_is_piece hr_is_piece (by rfl) qaA (qaa (pv 3) pa_nil))) (pv 3) qdc)))))))),?_⟩
  refine⟨_,rfl,rfl,_,rfl,?_⟩
  by_cases e0:x=Str.ofString "{}"
  ·rw[qC (by rw[e0]:V.str x=V.str (Str.ofString "{}"))];refine iteT ⟨(by show 3<=sizeLine;decide),λt ht=>q _ _ (qab ht _) ?_⟩;unfold qaI;rw[if_pos e0];exact⟨t,rfl,ht,qac⟩
  rw[qB (λz=>e0 (V.str.inj z):¬V.str x=V.str (Str.ofString "{}"))];refine iteF ⟨_,rfl,rfl,x,Str.ofString "*",rfl,rfl,zl,?_⟩;rw[show Str.ofString "*" = ⟨#[42]⟩from sg_star,qhz];refine⟨_,rfl,x,rfl,zl,_,rfl,_,rfl,qS tl zl,_,_,rfl,rfl,?_⟩;refine⟨_,rfl,_,rfl,(by show 3<=sizeLine;decide),λt ht=>?_⟩;dsimp only[tNext];refine qbf (λσ' H'=>∃(p:Addr) (so:So) (y:Str) (n:Int),σ'=[some (.str x),some (.str (mkS (thing x))),some (.int ((x.length:Int)-(thing x).length)),some (.ref p)]/\Same H H'/\H p=none/\H' p=some (.tup [.str so.s,.str y,.int n])/\qbW x=.tri so (.inl y) n/\PcForm (.tri so (.inl y) n)) (λD' k=>?_) ?_
  ·refine⟨_,rfl,rfl,mkS (thing x),Str.ofString "{",rfl,rfl,_,rfl,?_⟩;rw[show Str.ofString "{" = ⟨#[123]⟩from sg_open,qgm];have wordCase:¬((thing x).head?=some 123/\(thing x).getLast?=some 125)->D'.nx [some (.str x),some (.str (mkS (thing x))),some (.int ((x.length:Int)-(thing x).length)),some (.ref t)] (upd H t (.tup [.str So.word.s,.str (mkS (thing x)),.int ((x.length:Int)-(thing x).length)])):=λhn =>
    k _ _ ⟨t,.word,_,_,rfl,qab ht _,ht,qac,by unfold qbW;rw[if_neg hn],lo1,qS tl le⟩
   by_cases h1:(thing x).head?=some 123
   rotate_left
   ·rw[qB h1];exact iteF (iteF (wordCase λz=>h1 z.1))
   rw[qC h1];refine iteT ⟨_,rfl,rfl,mkS (thing x),Str.ofString "}",rfl,rfl,_,rfl,?_⟩;rw[show Str.ofString "}" = ⟨#[125]⟩from sg_close,ends1]
   by_cases h2:(thing x).getLast?=some 125
   rotate_left
   ·rw[qB h2];exact iteF (wordCase λz=>h2 z.2)
   rw[qC h2];refine iteT ⟨_,rfl,1,rfl,_,rfl,-1,rfl,mkS (thing x),rfl,qS tl zl,_,rfl,(by show 3<=sizeLine;decide),λt2 ht2=>?_⟩;have l1:1<=(mkS (thing x)).length:=by
    rw[qgP];cases e:thing x with
    | nil=>rw[e]at h1;cases h1
    | cons a r=>simp
   rw[slice_in l1];refine k _ _ ⟨t2,.page,mkS (qg1 (thing x)),(x.length:Int)-(thing x).length,rfl,(qab ht _).trans (qab ht2 _),(qab ht _).none ht2,qac,by unfold qbW;rw[if_pos ⟨h1,h2⟩],qhr lo1 λn hn=>y9 (List.dropLast_subset _ hn),?_⟩;rw[qgP];unfold qg1;rw[List.length_dropLast,rV];omega
  rintro σ1 H1 ⟨p,so,y,n,rfl,s1,hp,hp1,ep,pf⟩;refine⟨_,rfl,p,so,.inl y,n,rfl,hp1,pf,λH2 s2=>⟨_,rfl,?_⟩⟩;have rp:qaI x=if pieceB (.tri so (.inl y) n)=true then some (.tri so (.inl y) n)else none:=by
   unfold qaI;rw[if_neg e0,ep]
  cases eb:pieceB (.tri so (.inl y) n)with
  | false =>
    refine iteF (q _ _ (s1.trans s2) ?_)
    rw[rp,eb]
    exact rfl
  | true =>
    refine iteT ⟨_,rfl,q _ _ (s1.trans s2) ?_⟩
    rw[rp,eb]
    exact⟨p,rfl,hp,s2 _ _ hp1⟩
theorem scReadStuff:FnScope ["kind", "words", "sides", "pieces"] ["kind", "words"] (qai sReadStuff):=⟨rfl,rfl,rfl,by ac_rfl,rfl,by ac_rfl,by ac_rfl⟩
theorem ok_read_stuff{f:Addr}{fd:FuncData}(F:Fun K "read_stuff" "read_stuff" sReadStuff f fd)(T:Bn mg)(F_read_side:Fx P w K mg base CX0 1 "read_side" ["word"] spReadSide)(F_is_stuff:Fx P w K mg base CX0 5 "is_stuff" ["kind", "stuff"] spStuffX)(F_read_piece:Fx P w K mg base CX0 4 "read_piece" ["word"] spReadPiece)(F_has_stuff:Fx P w K mg base CX0 1 "has_stuff" ["kind"] spHasStuff):FnOk P w K mg base CX0 6 f fd ["kind", "words"] spReadStuff:=by
 refine F.ok scReadStuff (λvs H Q E h=>?_) (λcdv A outer s H vs Q E hr h=>?_)
 ·obtain⟨k,l,ws,rfl,_⟩:=h;rfl
 ·obtain⟨k,l,ws,rfl,⟨hl,rk⟩,qn,qs⟩:=h;have hr_read_side:Room 1 _:=hr.mono (by decide);have hr_has_stuff:Room 1 _:=hr.mono (by decide);have hr_read_piece:Room 4 _:=hr.mono (by decide);have hr_is_stuff:=hr;have hu:=hr.units;have zl:(ws.map V.str).length<sizeLine:=by rw[qA];exact qaz (qS rk.2 (by decide))
  refine⟨_,(qad (qaH (qah op_eq (pv 0) qag (qao _)) (qad (qbU (i:=2) (by rfl) scReadStuff.nd (by rfl) (by trivial) (own:=["word"]) (CompScope.plain (by rfl) (by ac_rfl) (by ac_rfl) (by ac_rfl)) (qa1 (pv 1)) (λcl C s2 H2 fp=>(qas (i:=0) (by show(["word"]:List Str).Nodup;ac_rfl) (by rfl) (by trivial) (by trivial))) (λcl C s2 H2 fp=>qbs) (λcl C s2 H2 fp=>(qaB F_read_side hr_read_side (by rfl) qaA (qaa (pv 0) pa_nil))))
   (qae (qap (qcd (qbk (qaB F_is_stuff hr_is_stuff (by rfl) qaA (qaa (pv 0) (qaa (pv 2) pa_nil)))) (pv 2) qdc)))) pss_nil)
   (qad (qbU (i:=3) (by rfl) scReadStuff.nd (by rfl) (by trivial) (own:=["word"]) (CompScope.plain (by rfl) (by ac_rfl) (by ac_rfl) (by ac_rfl)) (qa1 (pv 1)) (λcl C s2 H2 fp=>(qas (i:=0) (by show(["word"]:List Str).Nodup;ac_rfl) (by rfl) (by trivial) (by trivial))) (λcl C s2 H2 fp=>qbs) (λcl C s2 H2 fp=>(qaB F_read_piece hr_read_piece (by rfl) qaA (qaa (pv 0) pa_nil))))
   (qad (qaH (PW.pt (qdi (qah (op_inN hu) qdc (pv 3) (by with_unfolding_all rfl)) (qcg (qah op_ne (qaB F_has_stuff hr_has_stuff (by rfl) qaA (qaa (pv 0) pa_nil)) (qa2 op_gt (qam call_len_seq (by rfl) T.len b_len (qaa (pv 3) pa_nil)) qaf (qao _)) (qao _))))) (qae (qap qdc)) pss_nil)
   (qae (qap (pv 3)))))),?_⟩
  refine⟨_,rfl,rfl,_,rfl,?_⟩;rw[show decide (V.str k.s=V.str (Str.ofString "picture"))=decide (k=.picture)from kdt k .picture]
  by_cases hk:k=.picture
  ·rw[decide_eq_true hk];subst hk;refine iteT ⟨_,rfl,l,rfl,⟨_,SqL.of hl⟩,qaM (λi ys σ' H'=>Same H H'/\ys=((ws.take i).map qbj).map V.int/\∃z,σ'=[z]) zl ⟨Same.refl H,rfl,none,rfl⟩ ?_ ?_ ?_⟩
   ·rintro i ys σ' H' hi ⟨s2,rfl,_⟩;exact⟨SqL.of (s2 _ _ hl),by simp;omega⟩
   ·rintro i x ys σ' H' hx ⟨s2,rfl,z,rfl⟩;rw[qR]at hx;cases e:ws[i]? with
    | none=>rw[e]at hx;cases hx
    | some nm =>
      rw[e]at hx
      cases hx
      have hn:=rk.1 nm (qP e)
      refine⟨_,rfl,nm,rfl,hn.1,hn.2,λH3 s3=>⟨s2.trans s3,?_,_,rfl⟩⟩
      rw[rO,e,xB,qT,qT]
      rfl
   ·rintro ys σ' H' ⟨s2,rfl,_⟩ D hD;rw[qA,rM];have s3:=s2.trans (qab hD (.lst ((ws.map qbj).map V.int)));have st:StAt (qbz H) (upd H' D (.lst ((ws.map qbj).map V.int))) D (ws.map λx=>Th.int (qbj x)):=by
     refine⟨s2.none hD,_,qac,?_⟩;rw[xE];exact qeR λx _=>rfl
    refine⟨_,rfl,_,rfl,.picture,D,_,qbz H,rfl,st,⟨λz=>(by cases z),λ_ x hx=>?_,?_⟩,λb H4 s4 ib=>⟨_,rfl,?_⟩⟩
    ·obtain⟨y,_,rfl⟩:=rG.mp hx;exact⟨_,rfl⟩
    ·rw[qA];exact rk.2
    ·cases b with
     | false =>
       refine iteF (qn ?_ _ (s3.trans s4))
       unfold qbb
       rw[if_pos rfl,if_neg λz=>absurd (ib.mpr z) (by decide)]
     | true =>
       refine iteT ⟨_,rfl,qs _ ?_ _ _ (s3.trans s4) (st.keep s4.keep λ_ n _=>n)⟩
       unfold qbb
       rw[if_pos rfl,if_pos (ib.mp rfl)]
  rw[qB hk];refine iteF ⟨_,rfl,l,rfl,⟨_,SqL.of hl⟩,qaM (λi ys σ' H'=>Same H H'/\Paired (OpAt (qbz H) H') ys ((ws.take i).map qaI)/\∃z,σ'=[z]) zl ⟨Same.refl H,.nil,none,rfl⟩ ?_ ?_ ?_⟩
  ·rintro i ys σ' H' hi ⟨s2,pa,_⟩;exact⟨SqL.of (s2 _ _ hl),by rw[pa.length];simp;omega⟩
  ·rintro i x ys σ' H' hx ⟨s2,pa,z,rfl⟩;rw[qR]at hx;cases e:ws[i]? with
   | none=>rw[e]at hx;cases hx
   | some nm =>
     rw[e]at hx
     cases hx
     have hn:=rk.1 nm (qP e)
     refine⟨_,rfl,nm,rfl,hn.1,hn.2,λv H3 s3 o3=>⟨s2.trans s3,?_,_,rfl⟩⟩
     rw[rO,e,xB,qT]
     exact qaJ (pa.mono λv o h=>h.same s3) (.cons (o3.sub s2) .nil)
  ·rintro ys σ' H' ⟨s2,pa,_⟩ D hD;rw[qA,rM]at pa;have s3:=s2.trans (qab hD (.lst ys));have pa3:Paired (OpAt (qbz H) (upd H' D (.lst ys))) ys (ws.map qaI):=pa.mono λv o h=>h.same (qab hD _)
   have ly:ys.length=ws.length:=by rw[pa.length,qA]
   refine⟨_,rfl,D,ys,rfl,rfl,qac,λv hv=>op_kinds pa3 (λo ho=>?_) v hv,_,rfl,?_⟩
   ·obtain⟨x,_,rfl⟩:=rG.mp ho;exact read_tri x
   rw[op_any pa3];have rs:qbb k ws=if(ws.map qaI).any Option.isNone || (qaS k != decide (0<ws.length))then none else some (ws.filterMap qaI):=by
    unfold qbb;rw[if_neg hk]
   cases e1:(ws.map qaI).any Option.isNone with
   | true =>
     refine iteT (iteT (qn ?_ _ s3))
     rw[rs,e1]
     rfl
   | false =>
     refine iteF ⟨_,rfl,k,rfl,_,rfl,D,_,rfl,.inl (SqL.of qac),_,_,rfl,rfl,rfl,_,rfl,?_⟩
     rw[e1,uT]at rs
     have e2:(!decide (V.bl (qaS k)=V.bl (decide ((0:Int)<((ys.length:Nat):Int)))))=(qaS k != decide (0<ws.length)):=by
       rw[ly,show decide ((0:Int)<((ws.length:Nat):Int))=decide (0<ws.length)from by rw[r9];simp]
       cases qaS k<;>cases decide (0<ws.length)<;>rfl
     rw[e2]
     cases e3:(qaS k != decide (0<ws.length))with
     | true =>
       refine iteT (qn ?_ _ s3)
       rw[rs,e3]
       rfl
     | false =>
       refine iteF ⟨_,rfl,qs _ (by rw[rs,e3];rfl) _ _ s3 ⟨s2.none hD,ys,qac,?_⟩⟩
       have:=op_all pa3 e1
       rw[vP]at this
       exact this
theorem scRowParts:FnScope ["row", "level", "words", "kind", "bar", "stuff"] ["row"] (qai sRowParts):=⟨rfl,rfl,rfl,by ac_rfl,rfl,by ac_rfl,by ac_rfl⟩
theorem ok_row_parts{f a_KINDS:Addr}{fd:FuncData}(F:Fun K "row_parts" "row_parts" sRowParts f fd)(T:Bn mg)(g_KINDS:mg "KINDS" = some (.ref a_KINDS))(KP:KTup K a_KINDS kindsAll)(F_are_labels:Fx P w K mg base CX0 3 "are_labels" ["labels"] spAreLabs)(F_has_stuff:Fx P w K mg base CX0 1 "has_stuff" ["kind"] spHasStuff)(F_read_stuff:Fx P w K mg base CX0 6 "read_stuff" ["kind", "words"] spReadStuff)(F_name_label:Fx P w K mg base CX0 3 "name_label" ["labels"] spNameLab)(F_mark_labels:Fx P w K mg base CX0 3 "mark_labels" ["labels"] spMarkLabs):FnOk P w K mg base CX0 7 f fd ["row"] spRowParts:=by
 refine F.ok scRowParts (λvs H Q E h=>?_) (λcdv A outer s H vs Q E hr h=>?_)
 ·obtain⟨x,rfl,_⟩:=h;rfl
 ·obtain⟨x,rfl,ok,qn,qs⟩:=h;have hr_are_labels:Room 3 _:=hr.mono (by decide);have hr_name_label:Room 3 _:=hr.mono (by decide);have hr_mark_labels:Room 3 _:=hr.mono (by decide);have hr_has_stuff:Room 1 _:=hr.mono (by decide);have hr_read_stuff:=hr;have zl:x.length<=sizeLine:=qS ok.len (by decide);have dl:=qc9 (·== 62) x.cps.toList;rw[qbM]at dl;have rk:=ok.ws;have wne:=words_ne x;have bl:=qin (qbg x);have rp:qbB x=match kindOf ((qbg x).headD noName)with
   | none=>none
   | some k => if !qcD (qbG (qbg x)) || (!qaS k && decide (qb2 (qbg x) < (qbg x).length)) then none
     else(qbb k (qck (qbg x))).map λst=>⟨(qcC x:Int),k,qbV (qbG (qbg x)),qbo (qbG (qbg x)),st⟩:=rfl
  have ew:(qbS 32 (x.cps.toList.dropWhile (·== 62))).map mkS=qbg x:=rfl;refine⟨_,(qad (qaq (i:=1) scRowParts.nd (by rfl) (by trivial) (qaO op_sub (qam call_len_str (by rfl) T.len b_len (qaa (pv 0) pa_nil)) (qam call_len_str (by rfl) T.len b_len (qaa (qaV xH PySem.F.slot_str_lstrip PySem.F.type_str_lstrip mt_lstripC (pv 0) (qaa qag pa_nil)) pa_nil))))
   (qad (qaq (i:=2) scRowParts.nd (by rfl) (by trivial) (qaV xH PySem.F.slot_str_split PySem.F.type_str_split mt_split1 (qbd sl_str (pv 0) (qbc (pv 1)) po_none) (qaa qag pa_nil)))
   (qad (qaq (i:=3) scRowParts.nd (by rfl) (by trivial) (qan ix_list (pv 2) qaf (λ_ _=>rfl)))
   (qad (qaq (i:=4) scRowParts.nd (by rfl) (by trivial) (qcd (qah op_in_seq qag (pv 2) (by with_unfolding_all rfl)) (qaV qH PySem.F.slot_list_index PySem.F.type_list_index mt_indexS (pv 2) (qaa qag pa_nil)) (qam call_len_seq (by rfl) T.len b_len (qaa (pv 2) pa_nil))))
   (qad (qaH (PW.pt (qdi (qah op_notIn_seq (pv 3) (qak (v:=.ref a_KINDS) (by rfl) g_KINDS rfl) (by with_unfolding_all rfl)) (qcg (qb0 (qbk (qaB F_are_labels hr_are_labels (by rfl) qaA (qaa (qbd sl_list (pv 2) (qbc qaf) (qbc (pv 4))) pa_nil))))))) (qae (qap qdc)) pss_nil)
   (qad (qaH (PW.pt (qcb (qb0 (qbk (qaB F_has_stuff hr_has_stuff (by rfl) qaA (qaa (pv 3) pa_nil)))) (qbD (qah op_lt (pv 4) (qam call_len_seq (by rfl) T.len b_len (qaa (pv 2) pa_nil)) (qao _))))) (qae (qap qdc)) pss_nil)
   (qad (qaq (i:=5) scRowParts.nd (by rfl) (by trivial) (qaB F_read_stuff hr_read_stuff (by rfl) qaA (qaa (pv 3) (qaa (qbd sl_list (pv 2) (qbc (qaO op_add (pv 4) qaf)) po_none) pa_nil))))
   (qad (qaH (qgX (qhQ (pv 5))) (qae (qap qdc)) pss_nil)
   (qae (qap (qaK (qaa (pv 1) (qaa (pv 3) (qaa (qaB F_name_label hr_name_label (by rfl) qaA (qaa (qbd sl_list (pv 2) (qbc qaf) (qbc (pv 4))) pa_nil)) (qaa (qaB F_mark_labels hr_mark_labels (by rfl) qaA (qaa (qbd sl_list (pv 2) (qbc qaf) (qbc (pv 4))) pa_nil)) (qaa (pv 5) pa_nil)))))))))))))))),?_⟩
  refine⟨_,rfl,x,rfl,zl,_,rfl,rfl,x,Str.ofString ">",rfl,rfl,zl,_,rfl,?_⟩;rw[show Str.ofString ">" = ⟨#[62]⟩from sg_gt,qhz];refine⟨qS dl zl,_,_,rfl,rfl,?_⟩;have el:(x.length:Int)-((mkS (x.cps.toList.dropWhile (·== 62))).length:Nat)=(qcC x:Nat):=by
   have:=while_len (·== 62) x.cps.toList;rw[qbM]at this;rw[qgP (x.cps.toList.dropWhile (·== 62))];unfold qcC;omega
  have ll:qcC x<=x.length:=by omega
  dsimp only[qbu];rw[el];have es:Txt.slice x (some ((qcC x:Nat):Int)) none=mkS (x.cps.toList.dropWhile (·== 62)):=by
   rw[qe6 (by omega) (by omega),rP];unfold qcC;rw[qbH]
  refine⟨_,rfl,_,rfl,_,rfl,x,rfl,zl,rfl,mkS (x.cps.toList.dropWhile (·== 62)),32,by rw[es],by rw[<-sg_sp],by decide,by rw[qgP];exact qS dl ok.len,λl hl=>?_⟩;dsimp only[mkS];rw[List.toList_toArray,ew];clear ew el es dl;generalize qbg x=ws at rp rk wne bl⊢;have h1:upd H l (.lst (ws.map V.str)) l=some (.lst (ws.map V.str)):=qac;have s1:Same H (upd H l (.lst (ws.map V.str))):=qab hl _;generalize upd H l (.lst (ws.map V.str))=H1 at h1 s1⊢;cases ws with
  | nil=>exact absurd wne (by decide)
  | cons w0 ws =>
  refine⟨_,rfl,l,_,_,_,rfl,rfl,SqL.of h1,(qbL (j:=0) rfl),?_⟩;dsimp only[qbu];refine qbf (λσ' H'=>σ'=[some (.str x),some (.int (qcC x:Nat)),some (.ref l),some (.str w0),some (.int (qb2 (w0::ws):Nat)),none]/\H'=H1) (λD' k=>?_) ?_
  ·refine⟨_,rfl,l,_,rfl,.inl (SqL.of h1),rfl,qex _,_,rfl,?_⟩;rw[if_neg qF,qea]
   by_cases hb:Str.ofString "|" ∈ w0::ws
   ·rw[qC hb];exact iteT ⟨_,rfl,.inl ⟨rfl,_,SqL.of h1⟩,l,w0::ws,_,qb2 (w0::ws),rfl,rfl,h1,qS rk.2 (by decide),(qib hb).1,(qib hb).2,k _ _ ⟨rfl,rfl⟩⟩
   ·rw[qB hb];refine iteF ⟨_,rfl,l,_,rfl,.inl (SqL.of h1),k _ _ ⟨?_,rfl⟩⟩;rw[bar_out hb,qA];rfl
  rintro _ H1 ⟨rfl,rfl⟩;have eb:∀ws:List Str,cutV ((w0::ws).map V.str) (some 1) (some ((qb2 (w0::ws):Nat):Int))=(qbG (w0::ws)).map V.str:=λws=>by
   rw[show(1:Int)=((1:Nat):Int)from rfl,cut_mid 1 _ (by rw[qA];exact qin _) (by simp),<-vX,<-wM];rfl
  have rl:qg5 (qbG (w0::ws)):=qej rk (λy hy=>y9 (uA hy)) (by unfold qbG;rw[rK,rV];omega);have rr:qg5 (qck (w0::ws)):=qej rk (λy hy=>y9 hy) (by unfold qck;rw[rV];omega);refine⟨_,rfl,a_KINDS,_,rfl,.inr (KP H1),rfl,qco _,_,rfl,?_⟩;rw[if_pos rfl,show(kindsAll.map λk=>V.str k.s)=(kindsAll.map Kd.s).map V.str by rw[xE];rfl,qea,kindOf_in];rw[show(w0::ws).headD noName=w0 from rfl]at rp;cases ek:kindOf w0 with
  | none =>
    rw[ek]at rp
    exact iteT (iteT (qn rp _ s1))
  | some k =>
  rw[ek]at rp;obtain⟨rfl,hk⟩:=qdj ek;refine iteF ⟨_,rfl,1,rfl,_,rfl,_,rfl,l,_,rfl,SqL.of h1,λp2 hp2=>?_⟩;rw[eb];refine⟨p2,_,rfl,⟨qac,rl⟩,λH2 s2=>⟨_,rfl,?_⟩⟩;have s12:=s1.trans ((qab hp2 _).trans s2);have h2:H2 l=_:=s2 _ _ (qab hp2 _ _ _ h1);dsimp only at rp;cases ea:qcD (qbG (k.s::ws))with
  | false =>
    rw[ea]at rp
    exact iteT (qn rp _ s12)
  | true =>
  rw[ea,Bool.not_true,uT]at rp;refine iteF ?_;dsimp only[tNext];refine qau (λσ' H'=>σ'=[some (.str x),some (.int (qcC x:Nat)),some (.ref l),some (.str k.s),some (.int (qb2 (k.s::ws):Nat)),none]/\H'=H2/\(!qaS k && decide (qb2 (k.s::ws)<(k.s::ws).length))=false) (λN0 kk=>?_) ?_
  ·refine⟨_,rfl,k,rfl,_,rfl,?_⟩;cases e1:qaS k with
   | true=>exact iteF (iteF (kk _ _ ⟨rfl,rfl,by rw[e1];rfl⟩))
   | false =>
     refine iteT ⟨_,rfl,_,rfl,l,_,rfl,.inl (SqL.of h2),_,_,rfl,rfl,_,rfl,?_⟩
     rw[qA]
     by_cases e2:qb2 (k.s::ws)<(k.s::ws).length
     · rw[qC (by omega:((qb2 (k.s::ws):Nat):Int)<((k.s::ws).length:Nat))]
       refine iteT (qn ?_ _ s12)
       rw[rp,e1,qC e2]
       rfl
     · rw[qB (by omega:¬((qb2 (k.s::ws):Nat):Int)<((k.s::ws).length:Nat))]
       exact iteF (kk _ _ ⟨rfl,rfl,by rw[e1,qB e2];rfl⟩)
  rintro _ H2 ⟨rfl,rfl,eh⟩;rw[eh]at rp;have er:cutV ((k.s::ws).map V.str) (some (((qb2 (k.s::ws):Nat):Int)+1)) none=(qck (k.s::ws)).map V.str:=by
   rw[show((qb2 (k.s::ws):Nat):Int)+1=((qb2 (k.s::ws)+1:Nat):Int) by omega,qc3,<-vX];rfl
  refine⟨_,rfl,_,rfl,_,rfl,_,_,rfl,rfl,_,rfl,l,_,rfl,SqL.of h2,λp3 hp3=>?_⟩;dsimp only;rw[er];have s3:=s12.trans (qab hp3 (.lst ((qck (k.s::ws)).map V.str)));refine⟨k,p3,_,rfl,⟨qac,rr⟩,λen H4 s4=>?_,λst est sa H4 s4 hst=>?_⟩
  ·refine⟨_,rfl,_,rfl,iteT (qn ?_ _ (s3.trans s4))⟩;rw[rp,en];rfl
  ·refine⟨_,rfl,_,rfl,iteF ?_⟩;have s14:=s3.trans s4;have h4:H4 l=_:=s4 _ _ (qab hp3 _ _ _ h2);refine⟨_,rfl,_,rfl,_,rfl,1,rfl,_,rfl,_,rfl,l,_,rfl,SqL.of h4,λp5 hp5=>?_⟩;rw[eb];refine⟨p5,_,rfl,⟨qac,rl⟩,λH6 s6=>?_⟩;have s46:=(qab hp5 (.lst ((qbG (k.s::ws)).map V.str))).trans s6;refine⟨_,rfl,1,rfl,_,rfl,_,rfl,l,_,rfl,SqL.of (s46 _ _ h4),λp7 hp7=>?_⟩;rw[eb];refine⟨p7,_,rfl,⟨qac,rl⟩,λm H8 hm s8 em=>?_⟩;have s68:=(qab hp7 (.lst ((qbG (k.s::ws)).map V.str))).trans s8;refine⟨_,rfl,(by show 5<=sizeLine;decide),λa ha=>?_⟩;have s48:=s46.trans s68;have s18:=(s14.trans s48).trans (qab ha (.tup [.int (qcC x:Nat),.str k.s,.str (qbV (qbG (k.s::ws))),.ref m,.ref sa]));refine qs ⟨(qcC x:Int),k,qbV (qbG (k.s::ws)),qbo (qbG (k.s::ws)),st⟩ (by rw[rp,est];rfl) a _ s18 ⟨(s14.trans s48).none ha,m,sa,qac,?_,?_,?_⟩
   ·exact(s14.trans (s46.trans (qab hp7 _))).none hm
   ·rw[qal (qar em ha)];exact em
   ·exact hst.keep (s48.trans (qab ha _)).keep λb n _=>s3.none n
end
end K09
namespace L2
open PySem PySem.Spec PyProof.Rows
end L2
namespace K09
open PySem L2 Bk Gen
abbrev sNoteNumbers:Stmt:=top 37
abbrev sMayHold:Stmt:=top 36
abbrev sElders:Stmt:=top 35
abbrev sHolds:Stmt:=top 38
section
variable{P:Program}{w:World}{K:W.Frag}{mg:Str->Option Value}{base:Heap}
theorem scNoteNumbers:FnScope ["stuff"] ["stuff"] (qai sNoteNumbers):=⟨rfl,rfl,rfl,by ac_rfl,rfl,by ac_rfl,by ac_rfl⟩
theorem ok_note_numbers{f:Addr}{fd:FuncData}(F:Fun K "note_numbers" "note_numbers" sNoteNumbers f fd)(N:Nums mg):FnOk P w K mg base CX0 1 f fd ["stuff"] spNotesA:=by
 refine F.ok scNoteNumbers (λvs H Q E h=>?_) (λcdv A outer s H vs Q E hr h=>?_)
 ·obtain⟨sf,st,N',rfl,_⟩:=h;rfl
 ·obtain⟨sf,st,N',rfl,⟨nsf,vs,hs,its⟩,ok,le,q⟩:=h;obtain⟨_,g_SORT⟩:=N.sort;obtain⟨_,g_THING⟩:=N.thing;have lv:vs.length=st.length:=its.length;have zl:vs.length<sizeLine:=qaz (by omega);refine⟨_,(qae (qap (qbr (own:=["piece"]) (by rfl) (CompScope.plain (by rfl) (by ac_rfl) (by ac_rfl) (by ac_rfl)) (qa1 (pv 0)) (λcl C s2 H2 fp=>(qas (i:=0) (by show(["piece"]:List Str).Nodup;ac_rfl) (by rfl) (by trivial) (by trivial))) (λcl C s2 H2 fp=>(qbX (qah op_eq (qan (r:=rIxT K) ix_tup (pv 0) (qak (v:=.int 0) (by rfl) g_SORT ⟨_,rfl⟩) (λ_ _=>rfl)) qag (qao _)))) (λcl C s2 H2 fp=>(qan (r:=rIxT K) ix_tup (pv 0) (qak (v:=.int 1) (by rfl) g_THING ⟨_,rfl⟩) (λ_ _=>rfl)))))),?_⟩;refine⟨_,rfl,sf,rfl,⟨_,SqL.of hs⟩,qaM (λi ys σ' H'=>H'=H/\ys=(qaw (st.take i)).map V.int/\∃z,σ'=[z]) zl ⟨rfl,rfl,none,rfl⟩ ?_ ?_ ?_⟩
  ·rintro i ys σ' H' hi ⟨rfl,rfl,_⟩;refine⟨SqL.of hs,?_⟩;rw[qA];unfold qaw;exact qS (List.length_filterMap_le ..) (by rw[rK];exact yQ _ _)
  ·rintro i x ys σ' H' hx ⟨rfl,rfl,z,rfl⟩;obtain⟨th,et,it⟩:=qaR its hx;have pk:=ok th (qP et);have tk:qaw (st.take (i+1))=qaw (st.take i)++qaw [th]:=by
    rw[rO,et,xB,notes_app]
   cases th with
   | int n=>cases pk
   | tri so x t =>
     obtain⟨a,rfl,_,ha⟩:=it
     refine⟨_,rfl,a,_,_,_,rfl,rfl,SqT.of ha,rfl,rfl,_,rfl,?_⟩
     rw[show decide (V.str so.s=V.str (Str.ofString "note"))=decide (so=.note)from sot so .note]
     rw[tk,qT]
     cases so<;>cases x<;>first | (exfalso;exact pk) | skip
     · exact iteF ⟨rfl,by simp[qaw,noteNum],_,rfl⟩
     · exact iteF ⟨rfl,by simp[qaw,noteNum],_,rfl⟩
     · exact iteT ⟨_,rfl,a,_,_,_,rfl,rfl,SqT.of ha,rfl,rfl,by simp[qaw,noteNum,thV],_,rfl⟩
  ·rintro ys σ' H' ⟨rfl,rfl,_⟩ D hD;refine q D _ hD (qab hD _) ?_;rw[qac,lv,rM]
def MayX(P:Program)(w:World)(K:W.Frag)(a:Addr):Prop:=∃kvs,KDict P w K a kvs/\∀e∈kindsAll,∃q ks,valueAt kvs (.inr e.s)=some (.ref q)/\KTup K q ks/\∀k,mayHold e k=decide (k∈ks)
theorem scMayHold:FnScope ["elder_kind", "kind"] ["elder_kind", "kind"] (qai sMayHold):=⟨rfl,rfl,rfl,by ac_rfl,rfl,by ac_rfl,by ac_rfl⟩
theorem ok_may_hold{f a_MAY_HOLD:Addr}{fd:FuncData}(F:Fun K "may_hold" "may_hold" sMayHold f fd)(g_MAY_HOLD:mg "MAY_HOLD" = some (.ref a_MAY_HOLD))(MD:MayX P w K a_MAY_HOLD):FnOk P w K mg base CX0 1 f fd ["elder_kind", "kind"] spMayX:=by
 refine F.ok scMayHold (λvs H Q E h=>?_) (λcdv A outer s H vs Q E hr h=>?_)
 ·obtain⟨e,k,rfl,_⟩:=h;rfl
 ·obtain⟨e,k,rfl,he,q⟩:=h;obtain⟨kvs,KD,all⟩:=MD;obtain⟨t,ks,hv,kt,hk⟩:=all e he;refine⟨_,(qae (qap (qa2 op_in_seq (pv 1) (qan (r:=rIxD P w K) ix_kdict (qak (v:=.ref a_MAY_HOLD) (by rfl) g_MAY_HOLD rfl) (pv 0) (λ_ _=>rfl)) (by with_unfolding_all rfl)))),?_⟩;refine⟨_,rfl,_,rfl,a_MAY_HOLD,e.s,kvs,.ref t,.ref t,rfl,rfl,KD,hv,rfl,t,_,rfl,.inr (kt H),rfl,qco _,?_⟩;rw[if_neg qF,qbl,<-hk k];exact q
theorem scElders:FnScope ["book", "node", "elders", "above"] ["book", "node"] (qai sElders):=⟨rfl,rfl,rfl,by ac_rfl,rfl,by ac_rfl,by ac_rfl⟩
theorem ok_elders_of{f:Addr}{fd:FuncData}(F:Fun K "elders_of" "elders_of" sElders f fd)(U:∃t,mg "ELDER" = some (.int 0 t)):FnOk P w K mg base CX0 1 f fd ["book", "node"] spElders:=by
 refine F.ok scElders (λvs H Q E h=>?_) (λcdv A outer s H vs Q E hr h=>?_)
 ·obtain⟨p,i,l,d,ds,N,rfl,_⟩:=h;rfl
 ·obtain⟨p,i,l,d,ds,N,rfl,⟨as,hp,nd⟩,ed,lv,ll,q⟩:=h;obtain⟨_,g_ELDER⟩:=U;refine⟨_,(qad (qaq (i:=2) scElders.nd (by rfl) (by trivial) (qay pa_nil))
   (qad (qaq (i:=3) scElders.nd (by rfl) (by trivial) (qan ix_tup (qan ix_list (pv 0) (pv 1) (λ_ _=>rfl)) (qak (v:=.int 0) (by rfl) g_ELDER ⟨_,rfl⟩) (λ_ _=>rfl)))
   (qad (qd7 rR (qah op_ne (pv 3) (qcy un_neg qaf) (qao _)) (qad (qaC (qaV qH qJ qK mt_append (pv 2) (qaa (pv 3) pa_nil)))
   (qae (qaq (i:=3) scElders.nd (by rfl) (by trivial) (qan ix_tup (qan ix_list (pv 0) (pv 3) (λ_ _=>rfl)) (qak (v:=.int 0) (by rfl) g_ELDER ⟨_,rfl⟩) (λ_ _=>rfl))))))
   (qae (qap (pv 2)))))),?_⟩
  refine⟨by show 0<=sizeLine;decide,λL hL=>?_⟩;have s1:=qab hL (.lst []);have rm:=qgn lv ed;obtain⟨a,ea,na⟩:=nd.get ed;obtain⟨m',s',ha,_⟩:=na.ex;refine⟨_,rfl,_,rfl,p,_,_,_,rfl,rfl,SqL.of (s1 _ _ hp),qa6 ea,a,_,_,_,rfl,rfl,SqT.of (s1 _ _ ha),rfl,?_⟩;refine⟨λm σ H'=>Same H H'/\∃(pre:List Int) (ab:Int),σ=[some (.ref p),some (.int i),some (.ref L),some (.int ab)]/\H' L=some (.lst (pre.map V.int))/\RemE ds ab m/\pre++eldR ds m ab=eldR ds l d.e,⟨l,s1,[],_,rfl,qac,rm,rfl⟩,?_⟩;rintro m σ H' ⟨s2,pre,ab,rfl,hl,rm,eq⟩;refine⟨_,rfl,_,rfl,rfl,_,rfl,?_⟩;rcases rm with⟨rfl,rfl⟩ | ⟨j,k',rfl,lj,rfl⟩
  ·rw[qC (rfl:V.int (-1)=V.int (-1))];refine iteF ⟨_,rfl,?_⟩;rw[eldR,qX]at eq;subst eq;exact q L H' hL s2 hl
  ·rw[qB (λz=>by have:=V.int.inj z;omega:¬V.int (j:Int)=V.int (-1))];refine iteT ⟨λσ' H''=>Same H H''/\∃(ab:Int),σ'=[some (.ref p),some (.int i),some (.ref L),some (.int ab)]/\H'' L=some (.lst ((pre++[(j:Int)]).map V.int))/\RemE ds ab k'/\(pre++[(j:Int)])++eldR ds k' ab=eldR ds l d.e,?_,?_⟩
   ·rintro σ' H'' ⟨s3,ab,rfl,h3,rm,eq'⟩;exact⟨k',xK _,s3,pre++[(j:Int)],ab,rfl,h3,rm,eq'⟩
   ·obtain⟨d2,ed2⟩:=lj.nd;have rm2:=qgn lj ed2;obtain⟨a2,ea2,na2⟩:=nd.get ed2;obtain⟨m3,s3,ha2,_⟩:=na2.ex;have pl:pre.length<=999:=by have:=xN List.length eq;rw[qD,qd1,qd1]at this;omega
    have s4:Same H (upd H' L (.lst (pre.map V.int++[.int (j:Int)]))):=same_put s2 hL;refine⟨_,rfl,.inl ⟨rfl,_,SqL.of hl⟩,_,rfl,L,_,_,rfl,rfl,hl,qaz (by rw[qA];omega),?_⟩;refine⟨_,rfl,_,rfl,p,_,_,_,rfl,rfl,SqL.of (s4 _ _ hp),qa6 ea2,a2,_,_,_,rfl,rfl,SqT.of (s4 _ _ ha2),rfl,?_⟩;exact⟨s4,_,rfl,by rw[qac];simp,rm2,by rw[qfW ed2]at eq;rw[<-eq];simp⟩
theorem scHolds:FnScope ["book", "node"] ["book", "node"] (qai sHolds):=⟨rfl,rfl,rfl,by ac_rfl,rfl,by ac_rfl,by ac_rfl⟩
theorem ok_holds{f C:Addr}{fd:FuncData}{bm:List Value}{B newId initId:String}(F:FunD K "holds" "holds" sHolds f fd)(T:Bn mg)(tE:∃t,mg "ELDER" = some (.int 0 t))(O_NoNode:PyProof.Rows.OwnCls "NoNode" C bm newId mg base)(FB:ExcBaseFacts B newId initId bm):FnOk P w K mg base (CX1 P w) 1 f fd ["book", "node"] (qdL C):=by
 refine F.ok scHolds (λvs H Q E h=>?_) (λcdv A outer s H vs Q E hr h=>?_)
 ·obtain⟨p,n,ds,N,rfl,_⟩:=h;rfl
 ·obtain⟨p,n,ds,N,rfl,⟨as,hp,nd⟩,le,nb,alt⟩:=h;obtain⟨tE,g_ELDER⟩:=tE;refine⟨_,(qad (qaH (qb0 (qdA op_le op_lt qaf (pv 1) (qam call_len_seq (by rfl) T.len b_len (qaa (pv 0) pa_nil)))) (qae (ps_raise O_NoNode FB (show A.handled=none from hr.hd) (by rfl) (qaa (pe_joined (qhm qag (qhm (pe_fmtI (pv 1)) pj_nil))) pa_nil))) pss_nil)
   (qae (qap (qbr (own:=["number", "other"]) (by rfl) (ix:=[1]) (frees:=["node"]) (CompScope.frees (by rfl) (by ac_rfl) (by ac_rfl) (by ac_rfl) (by rfl) (by ac_rfl) (by first | exact qdZ (by rfl) | exact qeG (by rfl) (by rfl))) (qeL (by rfl) T.enumerate (qaa (pv 0) pa_nil)) (λcl C s2 H2 fp=>(pg_tupK K (n:=2) (by rfl) (by rfl) (qaL (qas (i:=0) (by show(["number", "other", "node"]:List Str).Nodup;ac_rfl) (by rfl) (by trivial) (by trivial)) (qaL (qas (i:=1) (by show(["number", "other", "node"]:List Str).Nodup;ac_rfl) (by rfl) (by trivial) (by trivial)) pgs_nil)))) (λcl C s2 H2 fp=>(qbX (qah op_eq (qan (r:=rIxT K) ix_tup (pv 1) (qak (v:=.int 0) (by rfl) g_ELDER ⟨_,rfl⟩) (λ_ _=>rfl)) (pv 2) (qao _)))) (λcl C s2 H2 fp=>(pv 0)))))),?_⟩
  have lenas:as.length=ds.length:=nd.length;have el:(((as.map V.ref).length:Nat):Int)=ds.length:=by rw[qA,lenas]
  have zl:(as.map V.ref).length<sizeLine:=by rw[qA];exact qaz (by omega)
  have raised:¬(0<=n/\n<ds.length)->qim (qfu (λσ H Q=>qg6 (tC (V.str (Str.ofString "there is no node "))) (qg6 (λσ H Q=>tVar 1 σ H λx H1=>∃i:Int,x=V.int i/\i.natAbs<10 ^ 100/\((Str.ofString (toString i)).length<=1921->Q (V.str (Str.ofString (toString i))) H1)) tJnil) Str.empty σ H Q) tNil) C E {nx:=λ_ _=>False,rt:=Q} [some (.ref p),some (.int n)] H:=λc=>by
   have bad:∀H',Same H H'->E (.ref C) none H':=by
    rcases alt with a | a
    ·exact a.2
    ·exact absurd a.1 c
   refine⟨_,rfl,by ac_rfl,_,rfl,n,rfl,uQ nb (by ac_rfl),λhl=>?_⟩;have l1:(Str.empty++Str.ofString "there is no node " ++ Str.ofString (toString n)).length<=sizeLine:=by
    rw[qaW];have e1:(Str.empty++Str.ofString "there is no node ").length=17:=by ac_rfl
    have e2:3000<=sizeLine:=by ac_rfl
    omega
   exact⟨_,rfl,l1,l1,by show 1<=sizeLine;decide,bad H (Same.refl H)⟩
  refine⟨_,rfl,_,_,rfl,rfl,_,rfl,?_⟩;refine ite2 (λc0=>?_) (λc0=>?_)
  rotate_left
  ·refine⟨_,rfl,iteT ?_⟩;exact raised λz=>c0 (qC z.1)
  refine⟨_,rfl,p,_,rfl,.inl (SqL.of hp),_,_,rfl,rfl,_,rfl,?_⟩
  by_cases c:0<=n/\n<ds.length
  rotate_left
  ·have e:decide (n<(((as.map V.ref).length:Nat):Int))=false:=qB λz=>c ⟨rL c0,by rw[el]at z;exact z⟩
   rw[e];exact iteT (raised c)
  ·rcases alt with a | a
   ·exact absurd c a.1
   obtain⟨_,q⟩:=a;have e:decide (n<(((as.map V.ref).length:Nat):Int))=true:=qC (by rw[el];exact c.2);rw[e];refine iteF ?_;refine⟨_,rfl,p,rfl,⟨_,SqL.of hp⟩,comp_enum (λi ys σ' H'=>Same H H'/\ys=(qaX ds n i).map V.int/\∃a b,σ'=[a,b,some (.int n)]) zl ⟨Same.refl H,rfl,none,none,rfl⟩ ?_ ?_ ?_⟩
   ·rintro i ys σ' H' hi ⟨s1,rfl,_⟩;exact⟨SqL.of (s1 _ _ hp),by rw[qA];exact qb6 _ _ _⟩
   ·rintro i x ys σ' H' t hx ht ⟨s1,rfl,a,b,rfl⟩;obtain⟨a',ea,rfl⟩:=qcH hx;obtain⟨d,ed,nad⟩:=nd.at ea;obtain⟨m',s',ha',_⟩:=nad.ex;have s2:=s1.trans (qab ht (.tup [.int (i:Nat),.ref a']));refine⟨t,_,rfl,SqT.of qac,rfl,_,_,rfl,_,_,rfl,rfl,?_⟩;refine⟨_,rfl,a',_,_,_,rfl,rfl,SqT.of (s2 _ _ ha'),rfl,_,rfl,rfl,_,rfl,?_⟩
    by_cases he:d.e=n
    ·rw[qC (xN V.int he)];refine iteT ⟨_,rfl,s2,?_,_,_,rfl⟩;rw[qcW ed he,qT];rfl
    ·rw[qB λz=>he (V.int.inj z)];refine iteF ⟨s2,?_,_,_,rfl⟩;rw[qdx ed he]
   ·rintro ys σ' H' ⟨s1,rfl,_⟩ D hD;refine q D _ (s1.free hD) (s1.trans (qab hD _)) ?_;rw[qac,qA,lenas]
end
end K09
namespace Gen
open PySem L2 Bk
def Down(ds:List Nd):List Nat->Prop
 | []=>False
 | [a]=>∃d,ds[a]?=some d/\d.e=-1
 | b::a::r=>(∃d,ds[b]?=some d/\d.e=(a:Int)/\a<b)/\Down ds (a::r)
theorem Down.lev{ds:List Nd}:∀{r:List Nat} {b:Nat},Down ds (b::r)->Lev ds b r.length/\∃d,ds[b]?=some d/\eldR ds r.length d.e=r.map λ(n:Nat)=>(n:Int)
 | [], b, h => by
   obtain⟨d,e,he⟩:=h
   exact⟨.top e he,d,e,rfl⟩
 | a :: r, b, h => by
   obtain⟨⟨d,e,he,lt⟩,h⟩:=h
   obtain⟨l,d',e',q⟩:=Down.lev h
   refine⟨.up e he lt l,d,e,?_⟩
   rw[rC,he,qfW e',q]
   rfl
theorem Down.len{ds:List Nd}:∀{r:List Nat} {b:Nat},Down ds (b::r)->r.length<=b
 | [],b,h=>rS _
 | a :: r, b, h => by
   obtain⟨⟨d,e,he,lt⟩,h⟩:=h
   have:=Down.len h
   rw[rC]
   omega
theorem Down.mem{ds:List Nd}:∀{r:List Nat},Down ds r->∀n∈r,∃d,ds[n]?=some d
 | [a], h, n, hn => by
   obtain⟨d,e,_⟩:=h
   have:n=a:=by simpa using hn
   exact⟨d,by rw[this];exact e⟩
 | b :: a :: r, h, n, hn => by
   obtain⟨⟨d,e,_⟩,h⟩:=h
   rcases qV.mp hn with rfl | hn
   · exact⟨d,e⟩
   · exact Down.mem h n hn
theorem Down.app{ds:List Nd}(more:List Nd):∀{r:List Nat},Down ds r->Down (ds++more) r
 | [a], h => by
   obtain⟨d,e,q⟩:=h
   exact⟨d,by rw[rQ (qI.mp e).1];exact e,q⟩
 | b :: a :: r, h => by
   obtain⟨⟨d,e,q⟩,h⟩:=h
   exact⟨⟨d,by rw[rQ (qI.mp e).1];exact e,q⟩,Down.app more h⟩
theorem Down.drop{ds:List Nd}:∀{r:List Nat} {n:Nat},Down ds r->n<r.length->Down ds (r.drop n)
 | r,0,h,_=>h
 | [a],n+1,h,l=>absurd l (by simp)
 | b::a::r,n+1,h,l=>Down.drop (r:=a::r) h.2 (by simpa using l)
def qdW(ds:List Nd):Nat->Nat->List Nat
 | 0,_=>[]
 | f + 1, b => match ds[b]? with
   | none=>[]
   | some d=>if d.e=-1 then[b]else b::qdW ds f d.e.toNat
theorem Down.is{ds:List Nd}:∀{r:List Nat} {b f:Nat},Down ds (b::r)->r.length<f->qdW ds f b=b::r
 | _,_,0,_,l=>absurd l (yR _)
 | [], b, f + 1, h, _ => by
   obtain⟨d,e,he⟩:=h
   rw[qdW,e]
   simp[he]
 | a :: r, b, f + 1, h, l => by
   obtain⟨⟨d,e,he,lt⟩,h⟩:=h
   rw[qdW,e]
   have n1:¬d.e=-1:=by omega
   simp only[n1,if_false]
   rw[he,rP,Down.is h (by simpa using l)]
def upL(ds:List Nd):List Nat:=qdW ds ds.length (ds.length-1)
def qbi(ds:List Nd):List Nat:=(upL ds).reverse
def qc8(ds:List Nd)(n:Nat):Kd:=match ds[n]? with | some d=>d.k | none=>.no
def qdQ(ok:Nat->Bool):Nat->Nat
 | 0=>0
 | t+1=>if ok (t+1)then t+1 else qdQ ok t
def okLv(ds:List Nd)(k:Kd)(t:Nat):Bool:=decide (t<=(qbi ds).length) && mayHold (qc8 ds ((qbi ds).getD (t-1) 0)) k
def qaU(ds:List Nd)(k:Kd)(lv:Nat):Nat:=qdQ (okLv ds k) (min (max lv 1) 6)
def qb8(ds:List Nd)(lv:Nat):Nat:=(qbi ds).getD (lv-1) 0
def qaF(ds:List Nd)(nm:Str):Str:=if nm∈ds.map Nd.nm then noName else nm
def MarksOf(mks ms:List Str):Prop:=∃ss:List Str,ss.Perm (once mks)/\Rise ss/\ms=ss.take 4
theorem MarksOf.uniq{mks a b:List Str}(h:MarksOf mks a)(h':MarksOf mks b):a=b:=by
 obtain⟨s,p,r,rfl⟩:=h;obtain⟨s',p',r',rfl⟩:=h';rw[rise_eq (p.trans p'.symm) r r']
open Classical in
noncomputable def qav(mks:List Str):List Str:=if h:∃ms,MarksOf mks ms then h.choose else[]
theorem qcB{mks ms:List Str}(h:MarksOf mks ms):qav mks=ms:=by
 unfold qav;rw[dif_pos ⟨ms,h⟩];exact(Exists.choose_spec (p:=λms=>MarksOf mks ms) ⟨ms,h⟩).uniq h
def qaj(k:Kd)(st:List Th):List Th:=(if k=.note then st.filter (λx=>!isNote x)else st.dropWhile isNote).take 60
def bareSt:List Th:=[.tri .word (.inl (T "?")) 0]
def qdg(k:Kd)(st:List Th):List Th:=if ofPieces k then(if qaj k st=[]then bareSt else qaj k st)else st
noncomputable def qbK(ds:List Nd)(e:Int)(d:Nd):Nd:=⟨e,d.k,qaF ds d.nm,qav d.mks,qdg d.k d.st⟩
open Classical in
noncomputable def wd(p:Prop)(x:Str):List Str:=if p then[x]else[]
noncomputable def qaQ(ds:List Nd)(d:Nd):List Str :=
 wd (qaF ds d.nm≠d.nm) (T "name")++wd (qav d.mks≠d.mks) (T "marks")++wd (ofPieces d.k=true/\qaj d.k d.st≠d.st) (T "pieces")++wd (ofPieces d.k=true/\qaj d.k d.st=[]) (T "bare")
noncomputable def qaN(d:Nd)(lv:Nat):List Str:=wd ((lv:Int)≠d.e) (T "level")
noncomputable def qax(ds:List Nd)(d:Nd):List Nd×List Str :=
 if qaU ds d.k d.e.toNat=0 then([],[T "place"])else([qbK ds (qb8 ds (qaU ds d.k d.e.toNat)) d],qaN d (qaU ds d.k d.e.toNat)++qaQ ds d)
noncomputable def qbe(d:Nd):List Nd×List Str :=
 if d.k=.body then([qbK [] (-1) d],qaN d 0++qaQ [] d)else(bodyNd::(qax [bodyNd] d).1,T "body" :: (qax [bodyNd] d).2)
noncomputable def qbp(ds:List Nd)(x:Str):List Nd×List Str :=
 match qbB x with
 | none=>([],[T "form"])
 | some d => if 60 <= ds.length then ([], [T "many"]) else if ds = [] then qbe d
   else if d.k=.body then((qax ds {d with k:=.case}).1,T "body" :: (qax ds {d with k:=.case}).2)else qax ds d
noncomputable def rdTo(rows:List Str):Nat->List Nd×List (Int×Str)
 | 0=>([],[])
 | i + 1 => match rows[i]? with
   | none=>rdTo rows i
   | some x=>((rdTo rows i).1++(qbp (rdTo rows i).1 x).1,(rdTo rows i).2++(qbp (rdTo rows i).1 x).2.map λy=>((i:Int),y))
def kids(ds:List Nd)(n:Int):List Int:=qaX ds n ds.length
def qbF(ds:List Nd)(n:Nat)(d:Nd):Bool:=mayHold d.k .note && decide ((qaw d.st).length≠(kids ds n).length)
def qa9(m:Nat):Nat->List Th->List Th
 | _,[]=>[]
 | c,x::r=>if isNote x then(if c<m then qbZ c::qa9 m (c+1) r else qa9 m c r)else x::qa9 m c r
def cntN(m:Nat):Nat->List Th->Nat
 | c,[]=>c
 | c,x::r=>if isNote x/\c<m then cntN m (c+1) r else cntN m c r
def addN(c:Nat):Nat->List Th
 | 0=>[]
 | j+1=>addN c j++[qbZ (c+j:Nat)]
def qaG(m:Nat)(st:List Th):List Th:=qa9 m 0 st++addN (cntN m 0 st) (min (m-cntN m 0 st) (60-(qa9 m 0 st).length))
def noted(ds:List Nd)(n:Nat)(d:Nd):Nd:=if mayHold d.k .note then {d with st:=qaG (kids ds n).length d.st}else d
def qbm(ds:List Nd)(n:Nat)(d:Nd):List Int:=if mayHold d.k .note then(kids ds n).drop (qaw (qaG (kids ds n).length d.st)).length else[]
def atTo{α β:Type}(ds:List α)(f:Nat->α->List β):Nat->List β
 | 0=>[]
 | i + 1 => match ds[i]? with
   | none=>atTo ds f i
   | some d=>atTo ds f i++f i d
def qcE(ds:List Nd):List Nd:=atTo ds (λi d=>[noted ds i d]) ds.length
def qba(ds:List Nd):List Int:=atTo ds (λi d=>qbm ds i d) ds.length
def qbx(sp:List Int):Nat->Nat
 | 0=>0
 | i+1=>if(i:Int)∈sp then qbx sp i else qbx sp i+1
def qcj(sp:List Int)(j:Int):Int:=if j=-1 then -1 else(qbx sp j.toNat:Int)
def qez(ds:List Nd)(sp:List Int)(i:Nat):List Nd:=atTo ds (λi d=>if(i:Int)∈sp then[]else[{d with e:=qcj sp d.e}]) i
def qat(ds:List Nd):List Nd:=qez (qcE ds) (qba ds) (qcE ds).length
def qaY(ds:List Nd)(n:Nat)(d:Nd):Kd:=match (kids ds d.e).filter (λj=>decide ((n:Int)<j))with
 | []=>.no
 | j::_=>qc8 ds j.toNat
def qaD(ds:List Nd)(n:Nat)(d:Nd):Bool:=(decide (d.k=.aside) && decide (qaY ds n d≠.text)) || (decide (d.k∈[Kd.aside,.shelf,.grid]) && decide (kids ds n=[]))
def qaP(ds:List Nd):List Nd:=atTo ds (λi d=>[{d with k:=if qaD ds i d then .case else d.k}]) ds.length
def begun(ds:List Nd):List Nd:=if ds=[]then[bodyNd]else ds
def bareText:Nd:=⟨0,.text,noName,[],bareSt⟩
def qdU(ds:List Nd):List Nd:=if kids (qaP (qat (begun ds))) 0=[]then qaP (qat (begun ds))++[bareText]else qaP (qat (begun ds))
noncomputable def qbA(ds:List Nd):List Str:=wd (ds=[]) (T "body")++atTo (begun ds) (λi d=>if qbF (begun ds) i d then[T "notes"]else[]) (begun ds).length
 ++ atTo (qat (begun ds)) (λi d=>if qaD (qat (begun ds)) i d then[T "case"]else[]) (qat (begun ds)).length++wd (kids (qaP (qat (begun ds))) 0=[]) (T "bare")
noncomputable def qcx(rows:List Str):List Nd×List (Int×Str):=(qdU (rdTo rows rows.length).1,(rdTo rows rows.length).2++(qbA (rdTo rows rows.length).1).map λy=>((-1:Int),y))
structure PartsOk(d:Nd):Prop where
 k:d.k∈kindsAll
 e:0<=d.e/\d.e<=100000
 nm:d.nm=noName\/Name d.nm
 mks:(∀m∈d.mks,Name m)/\d.mks.length<=60
 pc:ofPieces d.k=true->(∀x∈d.st,PcOk x)/\d.st.length<=500
 st:ofPieces d.k=false->Stuff d.k d.st
structure NodesOk(ds:List Nd):Prop where
 form:∀d∈ds,Form d/\d.k∈kindsAll
 down:ds≠[]->Down ds (upL ds)/\(upL ds).head?=some (ds.length-1)
 le:ds.length<=60
 hung:∀n d,ds[n]?=some d->(n=0/\d.e=-1/\d.k=.body)\/(0<n/\∃(j:Nat) (c:Nd),d.e=(j:Int)/\j<n/\ds[j]?=some c/\mayHold c.k d.k=true)
end Gen
namespace L2
open PySem PySem.Spec PyProof.Rows
theorem lri_no_len:typeLookup (.type "list_reverseiterator") "__len__" = pure none:=by rw[y3,xV];kernel_rfl
theorem slot_lri_hint:Slot "list_reverseiterator" "__length_hint__" "list_reverseiterator.__length_hint__" :=
 .of (owner := "list_reverseiterator") (n := "__length_hint__") (by rw[y3,xV];kernel_rfl) (by ac_rfl) (by ac_rfl) (by ac_rfl)
  (by first | exact .inl (by ac_rfl) | exact .inr (by ac_rfl)) (by rw[uX];kernel_rfl)
section
variable{prog:Program}{w:World}{A:Around}{E:Value->Shared->Prop}{s:Shared}
theorem hint_rev{I l:Addr}{i:Int}{Q:Bool->Shared->Prop}(hit:s.heap.IsRevIter I l i)(h:Q false s):wpAny (model prog w) A (Builtin.List.listLengthHint (.ref I)) Q E s:=by
 unfold Builtin.List.listLengthHint;refine qE (vD hit.typeIs lri_no_len ?_);show wpAny _ _ (specialOf (Value.ref I) (Str.ofString "__length_hint__")>>=_) _ _ _;refine qE (vD hit.typeIs slot_lri_hint.lookup ?_);generalize hid:("list_reverseiterator.__length_hint__" : String)=id0
 wp_delta
 rw[show splitId id0=some ("list_reverseiterator", "__length_hint__")from by subst hid;ac_rfl];subst hid;refine qE (v0 (T := "list_reverseiterator") (b:=true) hit.typeIs (by rw[uX];kernel_rfl) ?_);refine y4 (λhab=>absurd hab (by decide)) (λ_=>?_);refine y4 (λ_=>?_) (λhab=>absurd (by ac_rfl) hab);refine y4 (λhab=>absurd hab (by ac_rfl)) (λ_=>?_);exact qU h
theorem call_list_rev{Q:Value->Shared->Prop}{I l:Addr}{items:Array Value}(hh:A.handled=none)(hit:s.heap.IsRevIter I l ((items.size:Int) - 1))(hl:s.heap.IsList l items)(hne:l≠I)(hlen:items.size<=sizeLine)(hQ:∀ h' tk acc' c',(∀ b o,b≠I->s.heap.get? b=some o->h'.get? b=some o)->h'.get? s.heap.objs.size=some { cls:=.type "list",dict:=none,data:=.seq acc' c',slots:=#[] }->ItemsOf (λi v=>items[items.size - 1 - i]?=some v) acc' items.size->Q (.ref s.heap.objs.size) { s with heap:=h',toks:=tk }) :
  wpAny (model prog w) A (call (.type "list") [.ref I]) Q E s:=by
 have hIlt:I < s.heap.objs.size:=by obtain ⟨o,ho,_⟩:=hit; exact qW ho
 have hllt:l < s.heap.objs.size:=by obtain ⟨o,ho,_⟩:=hl; exact qW ho
 refine callType_codes (Q₁:=λobj s₁=>obj=.ref s.heap.objs.size/\s₁={ s with heap:=s.heap.push { cls:=.type "list",data:=.seq #[] } }) F.called_list (F.typeCall_list_1 _) F.entry_list_init
  (code_list_new _ ⟨rfl,rfl⟩) λobj s₁ h₁=>?_
 obtain ⟨rfl,rfl⟩:=h₁
 have hS:(s.heap.push { cls:=.type "list",data:=.seq #[] }).get? s.heap.objs.size=some { cls:=.type "list",data:=.seq #[] }:=rE _ rfl
 refine ⟨⟨_,hS,rfl⟩,F.args_list_init_2 _ _,?_⟩
 show wpAny _ _ (do let old <- Builtin.List.listItems (.ref s.heap.objs.size); Builtin.List.listUpdate (.ref s.heap.objs.size) (λ_=>#[]); letGo old.toList.reverse; Builtin.List.listExtendWith (.ref s.heap.objs.size) (.ref I) .none) _ _ _
 refine qE ?_
 unfold Builtin.List.listItems
 refine qE (wJ hS rfl (qU ?_))
 show wpAny _ _ (updateSeq s.heap.objs.size (λ_=>#[]) >>= λ_=>letGo (#[]:Array Value).toList.reverse >>= λ_=>Builtin.List.listExtendWith (.ref s.heap.objs.size) (.ref I) .none) _ _ _
 refine qE (wF hS rfl ?_)
 have hS₂:=yF (Obj.mapSeq (λ_=>(#[]:Array Value))) hS rfl
 have oth:∀ b o,s.heap.get? b=some o->((s.heap.push { cls:=.type "list",data:=.seq #[] }).update s.heap.objs.size (Obj.mapSeq (λ_=>(#[]:Array Value)))).get? b=some o :=
  λb o e=>(uG _ _ (uC (qW e))).trans (qL _ e)
 refine qE (wpAny_letGo ?_)
 unfold Builtin.List.listExtendWith
 have hit2:Heap.IsRevIter ((s.heap.push { cls:=.type "list",data:=.seq #[] }).update s.heap.objs.size (Obj.mapSeq (λ_=>(#[]:Array Value)))) I l ((items.size:Int) - 1):=hit.at λo e=>oth _ _ e
 have hl2:Heap.IsList ((s.heap.push { cls:=.type "list",data:=.seq #[] }).update s.heap.objs.size (Obj.mapSeq (λ_=>(#[]:Array Value)))) l items:=hl.at λo e=>oth _ _ e
 refine qE (wpAny_typeOf (T := "list_reverseiterator") hit2.typeIs ?_)
 have hSI:s.heap.objs.size≠I:=uC hIlt
 have h1:Builtin.List.listSameRef (.ref s.heap.objs.size) (.ref I)=false:=by simp [Builtin.List.listSameRef,hSI]
 have h2:(Value.type "list_reverseiterator" == Value.type "list")=false:=by decide
 have h3:(Value.type "list_reverseiterator" == Value.type "tuple")=false:=by decide
 simp only [h1,h2,h3,Bool.or_false,Bool.false_eq_true,if_false]
 refine qE (wpAny_pyIter_revIter hit2 ?_)
 refine qE (yJ (hint_rev hit2 ?_))
 refine y4 (λhab=>absurd hab (by ac_rfl)) (λ_=>?_)
 have W:=(Walks.listRev (prog:=prog) (w:=w) (A:=A.in1.in1) hh I l hne items).toS
 refine qU ⟨uU F.plain_extend_loop _,codeAny_extend_loopS W hlen s.heap.objs.size (λhm=>?_) .none items.size 0 _ #[] _ rfl (rS _) ⟨rS _,by simpa using hit2,hl2⟩ hS₂ (ItemsOf.nil _) λs' acc' c' hm hS' hacc=>?_⟩
 ·rcases qV.mp hm with e | hm
  ·exact hSI e
  ·exact uC hllt (List.mem_singleton.mp hm)
 ·rw [Moved.eq_with hm]
  refine ⟨rfl,hQ s'.heap s'.toks acc' c' (λb o hb e=>hm.heap b o (λhmem=>?_) (oth b o e)) hS' hacc⟩
  rcases qV.mp hmem with e' | hmem
  ·exact absurd (qW e) (by rw [e']; exact rW _)
  ·exact hb (List.mem_singleton.mp hmem)
end
theorem rev_vals{xs:List V}{its:List Value}(r:Vals xs its){acc:Array Value}(h:ItemsOf (λi v=>its.toArray[its.toArray.size-1-i]?=some v) acc its.toArray.size):Vals xs.reverse acc.toList:=by
 have e:acc.toList=its.reverse:=by
  obtain⟨h1,h2⟩:=h;refine yM λi=>?_
  by_cases hi:i<its.length
  ·have hi':i<acc.size:=by rw[h1];simpa using hi
   have:=h2 i _ (yE hi');rw[uK,yE hi'];rw[u4 hi];simpa using this.symm
  ·rw[List.getElem?_eq_none_iff.mpr (by simp[h1];omega),List.getElem?_eq_none_iff.mpr (by simp;omega)]
 rw[e];clear h e
 induction r with
 | nil=>exact .nil
 | cons h t ih =>
   rw[List.reverse_cons,List.reverse_cons]
   exact ih.append (.cons h .nil)
def tListRev(K:W.Frag)(ta:TA):TE:=λσ H Q=>ta σ H λvs H1=>∃(a:Addr) (xs:List V),vs=[.ref a]/\SqL K H1 a xs/\∀l,H1 l=none->Q (.ref l) (upd H1 l (.lst xs.reverse))
theorem b_reversed:bootBuiltins "reversed" = some (.type "reversed"):=by ac_rfl
section
variable{X:Cx}{e:Expr}{ta:TA}{p p2 pos pos2:Pos}
theorem pe_listRev(hc:X.calm=true)(hg:Gl X "list")(hm:X.mg "list" = none)(hg2:Gl X "reversed")(hm2:X.mg "reversed" = none)(hv:bootBuiltins "list" = some (.type "list"))(ha:PA X [e] ta)(he:starEach [e] X.env=[(false,eval e X.env)]:=by rfl)(he2:starEach [.Call (.Name "reversed" p2) [e] [] pos2] X.env=[(false,eval (.Call (.Name "reversed" p2) [e] [] pos2) X.env)]:=by rfl) :
  PE X (.Call (.Name "list" p) [.Call (.Name "reversed" p2) [e] [] pos2] [] pos) (tListRev X.K ta):=by
 intro pins s σ H Q I h;refine yZ (qdz I hg hm hv ?_ (by decide) (by decide));refine xD ?_ he2 (by rfl);rw[he2];show wpAny _ _ (spliced ((false,eval (.Call (.Name "reversed" p2) [e] [] pos2) X.env)::backTo pos [])) _ _ s;refine Calls.spliced_cons ?_;refine yZ (qdz I hg2 hm2 b_reversed ?_ (by decide) (by decide));refine xD (thn (ha pos2 pins s σ H _ I h) λus s1 ⟨vs,H1,I1,r1,q1⟩=>?_) he (by rfl);obtain⟨a,xs,rfl,hp,q⟩:=q1;obtain⟨u,rfl,rx⟩:=qfx r1;cases rx;obtain⟨its,rv,pl,hz⟩:=I1.list hp;have hh:=I1.ok.hd hc;have lp:a<s1.heap.objs.size:=by
  obtain⟨o,e,_⟩:=pl.isList;exact qW e
 refine call_reversed_list pl.isList ?_;refine Calls.spliced_nil ?_;refine call_list_rev (I:=s1.heap.objs.size) (l:=a) (items:=its.toArray) hh ⟨_,rE _ rfl,rfl,rfl⟩ (pl.isList.push _) (rJ lp) (by rw[qZ,<-rv.length];exact hz) λh' tk acc c kp e' it=>?_
 have kp':∀b o,s1.heap.get? b=some o->h'.get? b=some o:=λb o eo=>kp b o (rJ (qW eo)) (qL _ eo)
 have hsz:(s1.heap.push (revObj a ((its.toArray.size:Int)-1))).objs.size=s1.heap.objs.size+1:=rX ..;refine⟨.ref (s1.heap.push (revObj a ((its.toArray.size:Int)-1))).objs.size,upd H1 (s1.heap.push (revObj a ((its.toArray.size:Int)-1))).objs.size (.lst xs.reverse),I1.laid kp' (by rw[hsz];exact uB _) ?_,rfl,q _ (I1.hok.fresh (by rw[hsz];exact uB _))⟩;exact⟨by rw[vG];exact hz,acc.toList,c,rev_vals rv it,by simpa using e'⟩
end
end L2
namespace Gen
open PySem L2 Bk
structure BnZ(mg:Str->Option Value):Prop extends Bn mg where
 min:mg "min" = none
 max:mg "max" = none
 reversed:mg "reversed" = none
theorem b_min:bootBuiltins "min" = some (.builtin "min"):=by ac_rfl
theorem b_max:bootBuiltins "max" = some (.builtin "max"):=by ac_rfl
def Up0(N:Addr->Prop)(H:Hp):Prop:=∀b,H b=none->N b
theorem Up0.same{N:Addr->Prop}{H H':Hp}(u:Up0 N H)(s:Same H H'):Up0 N H':=λb h=>u b (s.none h)
def qfS(N:Addr->Prop)(H:Hp)(t:Addr)(r:List Nd×List Str):Prop:=∃l m,H t=some (.tup [.ref l,.ref m])/\N l/\BookAt N H l r.1/\N m/\H m=some (.lst (r.2.map V.str))
def spBareBody:Sp:=λvs H Q _=>vs=[]/\∀a H',Same H H'->NdAt (qbz H) H' a bodyNd->Q (.ref a) H'
def spBareStuff:Sp:=λvs H Q _=>vs=[]/\∀s H',Same H H'->StAt (qbz H) H' s bareSt->Q (.ref s) H'
def spOpen:Sp:=λvs H Q _=>∃(p:Addr) (ds:List Nd) (N:Addr->Prop),vs=[.ref p]/\BookAt N H p ds/\NodesOk ds/\ds≠[]/\∀l H',H l=none->Same H H'->H' l=some (.lst (((qbi ds).map λ(n:Nat)=>(n:Int)).map V.int))->Q (.ref l) H'
def spMendLv:Sp:=λvs H Q _=>∃(p:Addr) (ds:List Nd) (lv:Nat) (k:Kd) (N:Addr->Prop),vs=[.ref p,.int lv,.str k.s]/\BookAt N H p ds/\NodesOk ds/\ds≠[]/\lv<=100000/\∀H',Same H H'->Q (.int (qaU ds k lv:Nat)) H'
def spMendName:Sp:=λvs H Q _=>∃(p:Addr) (ds:List Nd) (nm:Str) (N:Addr->Prop),vs=[.ref p,.str nm]/\BookAt N H p ds/\ds.length<=100/\∀H',Same H H'->Q (.str (qaF ds nm)) H'
def spMendMarks:Sp:=λvs H Q _=>∃(m:Addr) (mks:List Str),vs=[.ref m]/\H m=some (.lst (mks.map V.str))/\mks.length<=60/\∀l H',H l=none->Same H H'->H' l=some (.lst ((qav mks).map V.str))->MarksOf mks (qav mks)->Q (.ref l) H'
def spNotesBeg:Sp:=λvs H Q _=>∃(s:Addr) (st:List Th) (N:Addr->Prop),vs=[.ref s]/\StAt N H s st/\(∀x∈st,PcOk x)/\st.length<=500/\Q (.int ((st.takeWhile isNote).length:Nat)) H
def spMendPieces:Sp:=λvs H Q _=>∃(k:Kd) (s:Addr) (st:List Th) (N:Addr->Prop),vs=[.str k.s,.ref s]/\StAt N H s st/\Up0 N H/\(∀x∈st,PcOk x)/\st.length<=500/\∀s' H',H s'=none->Same H H'->StAt N H' s' (qaj k st)->Q (.ref s') H'
def spLacks:Sp:=λvs H Q _=>∃(p:Addr) (n:Nat) (d:Nd) (ds:List Nd) (N:Addr->Prop),vs=[.ref p,.int n]/\BookAt N H p ds/\ds.length<=60/\ds[n]?=some d/\Form d/\d.k∈kindsAll/\∀H',Same H H'->Q (.bl (qbF ds n d)) H'
theorem Paired.dropP{α β:Type}{F:α->β->Prop}:∀{a:List α} {b:List β} (n:Nat),Paired F a b->Paired F (a.drop n) (b.drop n)
 | _,_,0,h=>h
 | _,_,_+1,.nil=>.nil
 | _,_,n+1,.cons _ t=>Paired.dropP n t
theorem Paired.takeP{α β:Type}{F:α->β->Prop}:∀{a:List α} {b:List β} (n:Nat),Paired F a b->Paired F (a.take n) (b.take n)
 | _,_,0,_=>.nil
 | _,_,_+1,.nil=>.nil
 | _,_,n+1,.cons q t=>.cons q (Paired.takeP n t)
theorem qdo(p:Th->Bool):∀l:List Th,l.drop (l.takeWhile p).length=l.dropWhile p
 | []=>rfl
 | x :: r => by
   rw[vJ,uD]
   cases p x with
   | true=>simpa using qdo p r
   | false=>rfl
theorem qdJ{ok:Nat->Bool}{t:Nat}(h:ok (t+1)=true):qdQ ok (t+1)=t+1:=by rw[qdQ,if_pos h]
theorem qdD{ok:Nat->Bool}{t:Nat}(h:ok (t+1)=false):qdQ ok (t+1)=qdQ ok t:=by rw[qdQ,if_neg (by rw[h];decide)]
theorem qeO{x:Th}(h:PcOk x):∃s y n,x=.tri s y n/\isNote x=decide (s=.note):=by
 cases x with
 | int n=>cases h
 | tri s y n=>exact⟨s,y,n,rfl,by cases s<;>rfl⟩
theorem qc6{k:Kd}(h:mayHold k .note=true):k=.text\/k=.head:=by cases k<;>first | exact .inl rfl | exact .inr rfl | cases h
theorem qgg{d:Nd}(h:Form d)(k:ofPieces d.k=true):(∀x∈d.st,PcOk x)/\d.st.length<=60:=by
 have:=h.st;obtain⟨e,k',nm,mks,st⟩:=d;cases k'<;>first | exact⟨this.1,this.2.2⟩ | cases k
end Gen
namespace K09
open PySem L2 Bk Gen
abbrev sBareBody:Stmt:=top 40
abbrev sBareStuff:Stmt:=top 41
abbrev sOpen:Stmt:=top 43
abbrev sMendLevel:Stmt:=top 42
abbrev sMendName:Stmt:=top 44
abbrev sMendMarks:Stmt:=top 45
abbrev sNotesBeg:Stmt:=top 47
abbrev sMendPieces:Stmt:=top 46
abbrev sLacks:Stmt:=top 48
section
variable{P:Program}{w:World}{K:W.Frag}{mg:Str->Option Value}{base:Heap}
theorem scBareBody:FnScope [] [] (qai sBareBody):=⟨rfl,rfl,rfl,by ac_rfl,rfl,by ac_rfl,by ac_rfl⟩
theorem ok_bare_body{f:Addr}{fd:FuncData}(F:Fun K "bare_body" "bare_body" sBareBody f fd):FnOk P w K mg base CX0 1 f fd [] spBareBody:=by
 refine F.ok scBareBody (λvs H Q E h=>?_) (λcdv A outer s H vs Q E hr h=>?_)
 ·obtain⟨rfl,_⟩:=h;rfl
 ·obtain⟨rfl,q⟩:=h;refine⟨_,(qae (qap (qaK (qaa (qcy un_neg qaf) (qaa qag (qaa qag (qaa (qay pa_nil) (qaa (qay pa_nil) pa_nil)))))))),?_⟩;refine⟨_,rfl,by show 0<=sizeLine;decide,λm hm=>⟨by show 0<=sizeLine;decide,λs hs=>⟨by show 5<=sizeLine;decide,λa ha=>?_⟩⟩⟩;have s1:=qab hm (.lst []);have s2:=s1.trans (qab hs (.lst []));refine q a _ (s2.trans (qab ha _)) ⟨s2.none ha,m,s,qac,hm,?_,s1.none hs,[],?_,.nil⟩
  ·exact(qab hs _).trans (qab ha _) _ _ qac
  ·exact qab ha _ _ _ qac
theorem scBareStuff:FnScope [] [] (qai sBareStuff):=⟨rfl,rfl,rfl,by ac_rfl,rfl,by ac_rfl,by ac_rfl⟩
theorem ok_bare_stuff{f:Addr}{fd:FuncData}(F:Fun K "bare_stuff" "bare_stuff" sBareStuff f fd):FnOk P w K mg base CX0 1 f fd [] spBareStuff:=by
 refine F.ok scBareStuff (λvs H Q E h=>?_) (λcdv A outer s H vs Q E hr h=>?_)
 ·obtain⟨rfl,_⟩:=h;rfl
 ·obtain⟨rfl,q⟩:=h;refine⟨_,(qae (qap (qay (qaa (qaK (qaa qag (qaa qag (qaa qaf pa_nil)))) pa_nil)))),?_⟩;refine⟨by show 3<=sizeLine;decide,λt ht=>⟨by show 1<=sizeLine;decide,λs hs=>?_⟩⟩;have s1:=qab ht (.tup [.str So.word.s,.str (Str.ofString "?"),.int 0]);exact q s _ (s1.trans (qab hs _)) ⟨s1.none hs,_,qac,.cons ⟨t,rfl,ht,qab hs _ _ _ qac⟩ .nil⟩
theorem scOpen:FnScope ["nodes", "last"] ["nodes"] (qai sOpen):=⟨rfl,rfl,rfl,by ac_rfl,rfl,by ac_rfl,by ac_rfl⟩
theorem ok_open_nodes{f:Addr}{fd:FuncData}(F:Fun K "open_nodes" "open_nodes" sOpen f fd)(T:BnZ mg)(F_elders_of:Fx P w K mg base CX0 1 "elders_of" ["book", "node"] spElders):FnOk P w K mg base CX0 2 f fd ["nodes"] spOpen:=by
 refine F.ok scOpen (λvs H Q E h=>?_) (λcdv A outer s H vs Q E hr h=>?_)
 ·obtain⟨p,ds,N,rfl,_⟩:=h;rfl
 ·obtain⟨p,ds,N,rfl,B,ok,ne,q⟩:=h;have hr_elders_of:=hr;obtain⟨as,hp,nd⟩:=B;have la:as.length=ds.length:=nd.length;obtain⟨dn,hd⟩:=ok.down ne;have le:=ok.le;have g1:1<=ds.length:=by
   cases ds with
   | nil=>exact absurd rfl ne
   | cons=>simp
  refine⟨_,(qad (qaq (i:=1) scOpen.nd (by rfl) (by trivial) (qaO op_sub (qam call_len_seq (by rfl) T.len b_len (qaa (pv 0) pa_nil)) qaf))
   (qae (qap (pe_listRev (by rfl) (by rfl) T.list (by rfl) T.reversed b_list (qaa (qaO op_cat (qay (qaa (pv 1) pa_nil)) (qaB F_elders_of hr_elders_of (by rfl) qaA (qaa (pv 0) (qaa (pv 1) pa_nil)))) pa_nil))))),?_⟩
  refine⟨_,rfl,p,_,rfl,.inl (SqL.of hp),_,_,rfl,rfl,?_⟩;dsimp only[qbu];rw[qA,la,show((ds.length:Nat):Int)-1=((ds.length-1:Nat):Int) by omega];refine⟨_,rfl,by show 1<=sizeLine;decide,λo ho=>?_⟩;have s1:=qab ho (.lst [.int (ds.length-1:Nat)]);cases eu:upL ds with
  | nil=>rw[eu]at hd;cases hd
  | cons b r =>
  rw[eu]at dn hd;have eb:b=ds.length-1:=by simpa using hd
  subst eb;obtain⟨lv,d,ed,el⟩:=dn.lev;have ll:=dn.len;refine⟨_,rfl,_,rfl,p,ds.length-1,r.length,d,ds,N,rfl,⟨as,s1 _ _ hp,nd.keep s1.keep λ_ n _=>n⟩,ed,lv,by omega,λL H2 hL s2 h2=>?_⟩;refine⟨o,L,_,_,rfl,rfl,s2 _ _ qac,h2,?_,λz hz=>?_⟩
  ·rw[qA,qd1];exact qS (show 1+r.length<=1000 by omega) (by decide)
  refine⟨z,_,rfl,SqL.of qac,λl hl=>?_⟩;have s3:=((s1.trans s2).trans (qab hz (.lst (V.int (ds.length-1:Nat)::(eldR ds r.length d.e).map V.int))));refine q l _ (s3.none hl) (s3.trans (qab hl _)) ?_;rw[qac];unfold qbi;rw[eu,el];simp
theorem scMendLevel:FnScope ["nodes", "level", "kind", "above", "tried"] ["nodes", "level", "kind"] (qai sMendLevel):=⟨rfl,rfl,rfl,by ac_rfl,rfl,by ac_rfl,by ac_rfl⟩
theorem ok_mended_level{f:Addr}{fd:FuncData}(F:Fun K "mended_level" "mended_level" sMendLevel f fd)(T:BnZ mg)(U:Glob mg)(NU:Nums mg)(F_open_nodes:Fx P w K mg base CX0 2 "open_nodes" ["nodes"] spOpen)(F_may_hold:Fx P w K mg base CX0 1 "may_hold" ["elder_kind", "kind"] spMayX):FnOk P w K mg base CX0 3 f fd ["nodes", "level", "kind"] spMendLv:=by
 refine F.ok scMendLevel (λvs H Q E h=>?_) (λcdv A outer s H vs Q E hr h=>?_)
 ·obtain⟨p,ds,lv,k,N,rfl,_⟩:=h;rfl
 ·obtain⟨p,ds,lv,k,N,rfl,B,ok,ne,ll,q⟩:=h;obtain⟨_,g_GREATEST_LEVEL⟩:=U.level;obtain⟨_,g_KIND⟩:=NU.kind;have hr_open_nodes:=hr;have hr_may_hold:Room 1 _:=hr.mono (by decide);obtain⟨dn,hd⟩:=ok.down ne;refine⟨_,(qad (qaq (i:=3) scMendLevel.nd (by rfl) (by trivial) (qaB F_open_nodes hr_open_nodes (by rfl) qaA (qaa (pv 0) pa_nil)))
   (qad (qbT rR (by rfl) (qem (by rfl) T.range (qaa (qam (qf8 (by rfl)) (by rfl) T.min b_min (qaa (qam (qfQ (by rfl)) (by rfl) T.max b_max (qaa (pv 1) (qaa qaf pa_nil))) (qaa (qak (v:=.int 6) (by rfl) g_GREATEST_LEVEL ⟨_,rfl⟩) pa_nil))) (qaa qaf (qaa (qcy un_neg qaf) pa_nil)))) (qas (i:=4) scMendLevel.nd (by rfl) (by trivial))
   (qae (qaH (PW.pt (qcb (qah op_le (pv 4) (qam call_len_seq (by rfl) T.len b_len (qaa (pv 3) pa_nil)) (qao _)) (qbD (qbk (qaB F_may_hold hr_may_hold (by rfl) qaA (qaa (qan ix_tup (qan ix_list (pv 0) (qan ix_list (pv 3) (qaO op_sub (pv 4) qaf) (λ_ _=>rfl)) (λ_ _=>rfl)) (qak (v:=.int 1) (by rfl) g_KIND ⟨_,rfl⟩) (λ_ _=>rfl)) (qaa (pv 2) pa_nil))))))) (qae (qap (pv 4))) pss_nil)))
   (qae (qap qaf)))),?_⟩
  refine⟨_,rfl,p,ds,N,rfl,B,ok,ne,λl H1 hl s1 h1=>?_⟩;obtain⟨as,hp,nd⟩:=B;refine⟨_,rfl,_,_,rfl,_,_,rfl,_,rfl,_,_,rfl,?_⟩;have en:∃n0:Nat,n0=min (max lv 1) 6/\(if(6:Int)<(if(1:Int)>(lv:Int)then(1:Int)else(lv:Int))then(6:Int)else(if(1:Int)>(lv:Int)then(1:Int)else(lv:Int)))=(n0:Int):=⟨_,rfl,by omega⟩;obtain⟨n0,e0,en⟩:=en;rw[en];refine⟨⟨by omega,by omega,by decide,by decide⟩,qff (λi σ' H'=>Same H H'/\H' l=some (.lst (((qbi ds).map λ(n:Nat)=>(n:Int)).map V.int))/\(∃z,σ'=[some (.ref p),some (.int lv),some (.str k.s),some (.ref l),z])/\qaU ds k lv=qdQ (okLv ds k) (n0-i)) ⟨s1,h1,⟨none,rfl⟩,by unfold qaU;rw[<-e0];rfl⟩ ?_ ?_⟩
  ·rintro i σ' H' hi ⟨s2,h2,⟨z,rfl⟩,em⟩;obtain⟨t,et⟩:∃t,n0-i=t+1:=⟨n0-i-1,by omega⟩;rw[show(n0:Int)-(i:Nat)=((t+1:Nat):Int) by omega];rw[et]at em;have et':n0-(i+1)=t:=by omega
   refine⟨_,rfl,_,rfl,l,_,rfl,.inl (SqL.of h2),_,_,rfl,rfl,_,rfl,?_⟩;rw[qA,qA]
   by_cases hl2:t+1<=(qbi ds).length
   rotate_left
   ·rw[qB (by omega:¬((t+1:Nat):Int)<=((qbi ds).length:Nat))];refine iteF (iteF ⟨s2,h2,⟨_,rfl⟩,?_⟩);rw[em,et',qdD];unfold okLv;rw[qB hl2,yC]
   rw[qC (by omega:((t+1:Nat):Int)<=((qbi ds).length:Nat))];have hb:t<(qbi ds).length:=by omega
   have mb:(qbi ds)[t]∈upL ds:=List.mem_reverse.mp (yV hb);obtain⟨c,ec⟩:=dn.mem _ mb;obtain⟨a,ea,na⟩:=nd.get ec;obtain⟨m',s',ha,_⟩:=na.ex;have hk:=(ok.form c (qP ec)).2;have ek:okLv ds k (t+1)=mayHold c.k k:=by
    unfold okLv;rw[qC hl2,xG,Nat.add_sub_cancel,xF,qG hb,Option.getD_some];unfold qc8;rw[ec]
   refine iteT ⟨_,rfl,_,rfl,_,rfl,_,_,rfl,rfl,l,_,_,_,rfl,rfl,SqL.of h2,(by
    rw[show((t+1:Nat):Int)-1=((t:Nat):Int) by omega];exact qbL (v:=V.int ((qbi ds)[t]:Nat)) (by rw[qR,qR,qG hb];rfl)),p,_,_,_,rfl,rfl,SqL.of (s2 _ _ hp),qa6 ea,a,_,_,_,rfl,rfl,SqT.of (s2 _ _ ha),rfl,_,rfl,c.k,k,rfl,hk,_,rfl,?_⟩
   cases eb:mayHold c.k k with
   | false =>
     refine iteF ⟨s2,h2,⟨_,rfl⟩,?_⟩
     rw[em,et',qdD (by rw[ek,eb])]
   | true =>
     refine iteT ⟨_,rfl,?_⟩
     have:=q H' s2
     rw[em,qdJ (by rw[ek,eb])]at this
     exact this
  ·rintro σ' H' ⟨s2,h2,⟨z,rfl⟩,em⟩;rw[show n0-((n0:Int)-0).toNat=0 by omega]at em;have:=q H' s2;rw[em]at this;exact this
theorem scMendName:FnScope ["nodes", "name"] ["nodes", "name"] (qai sMendName):=⟨rfl,rfl,rfl,by ac_rfl,rfl,by ac_rfl,by ac_rfl⟩
theorem ok_mended_name{f:Addr}{fd:FuncData}(F:Fun K "mended_name" "mended_name" sMendName f fd)(NU:Nums mg):FnOk P w K mg base CX0 1 f fd ["nodes", "name"] spMendName:=by
 refine F.ok scMendName (λvs H Q E h=>?_) (λcdv A outer s H vs Q E hr h=>?_)
 ·obtain⟨p,ds,nm,N,rfl,_⟩:=h;rfl
 ·obtain⟨p,ds,nm,N,rfl,⟨as,hp,nd⟩,le,q⟩:=h;obtain⟨_,g_NAME⟩:=NU.name;have la:as.length=ds.length:=nd.length;have zl:(as.map V.ref).length<sizeLine:=by rw[qA];exact qaz (by omega)
  refine⟨_,(qae (qap (qcd (qah op_in_seq (pv 1) (qbr (own:=["node"]) (by rfl) (CompScope.plain (by rfl) (by ac_rfl) (by ac_rfl) (by ac_rfl)) (qa1 (pv 0)) (λcl C s2 H2 fp=>(qas (i:=0) (by show(["node"]:List Str).Nodup;ac_rfl) (by rfl) (by trivial) (by trivial))) (λcl C s2 H2 fp=>qbs) (λcl C s2 H2 fp=>(qan (r:=rIxT K) ix_tup (pv 0) (qak (v:=.int 2) (by rfl) g_NAME ⟨_,rfl⟩) (λ_ _=>rfl)))) (by with_unfolding_all rfl)) qag (pv 1)))),?_⟩;refine⟨_,rfl,_,rfl,p,rfl,⟨_,SqL.of hp⟩,qaM (λi ys σ' H'=>H'=H/\ys=((ds.take i).map Nd.nm).map V.str/\∃z,σ'=[z]) zl ⟨rfl,rfl,none,rfl⟩ ?_ ?_ ?_⟩
  ·rintro i ys σ' H' hi ⟨rfl,rfl,_⟩;exact⟨SqL.of hp,by simp;omega⟩
  ·rintro i x ys σ' H' hx ⟨rfl,rfl,z,rfl⟩;obtain⟨a,ea,rfl⟩:=qcH hx;obtain⟨d,ed,na⟩:=nd.at ea;obtain⟨m',s',ha,_⟩:=na.ex;refine⟨_,rfl,a,_,_,_,rfl,rfl,SqT.of ha,rfl,rfl,?_,_,rfl⟩;rw[rO,ed,xB,qT,qT];rfl
  ·rintro ys σ' H' ⟨rfl,rfl,_⟩ D hD;rw[qA,la,rM];refine⟨D,_,rfl,.inl (SqL.of qac),rfl,qex _,_,rfl,?_⟩;rw[if_neg qF,qea];have q2:=q _ (qab hD (.lst ((ds.map Nd.nm).map V.str)));unfold qaF at q2
   by_cases hm:nm∈ds.map Nd.nm
   ·rw[if_pos hm]at q2;rw[qC hm];exact iteT q2
   ·rw[if_neg hm]at q2;rw[qB hm];exact iteF ⟨_,rfl,q2⟩
theorem scMendMarks:FnScope ["marks"] ["marks"] (qai sMendMarks):=⟨rfl,rfl,rfl,by ac_rfl,rfl,by ac_rfl,by ac_rfl⟩
theorem ok_mended_marks{f:Addr}{fd:FuncData}(F:Fun K "mended_marks" "mended_marks" sMendMarks f fd)(T:Bn mg)(U:Glob mg):FnOk P w K mg base CX0 1 f fd ["marks"] spMendMarks:=by
 refine F.ok scMendMarks (λvs H Q E h=>?_) (λcdv A outer s H vs Q E hr h=>?_)
 ·obtain⟨m,mks,rfl,_⟩:=h;rfl
 ·obtain⟨m,mks,rfl,hm,le,q⟩:=h;obtain⟨_,g_MOST_MARKS⟩:=U.marks;refine⟨_,(qae (qap (qbd sl_list (qam (qdV (by rfl) (by rfl)) (by rfl) T.sorted b_sorted (qaa (qcm (qf7 (by rfl)) (by rfl) T.set b_set (qaa (pv 0) pa_nil)) pa_nil)) po_none (qbc (qak (v:=.int 4) (by rfl) g_MOST_MARKS ⟨_,rfl⟩))))),?_⟩;refine⟨_,rfl,m,mks,rfl,SqL.of hm,by unfold scanBound;omega,λd hd=>?_⟩;have s3:=qab hd (setS w d (once mks));have l6:=qhI mks;refine⟨d,once mks,rfl,qac,by omega,λD2 ss hD2 pm so=>?_⟩;have s4:=s3.trans (qab hD2 (.lst (ss.map V.str)));have ri:=qhk so (pm.symm.nodup (qfi mks));have mo:MarksOf mks (ss.take 4):=⟨ss,pm,ri,rfl⟩;have em:=qcB mo;refine⟨4,rfl,D2,_,rfl,SqL.of qac,λl hl=>?_⟩;rw[show cutV (ss.map V.str) none (some 4)=(qav mks).map V.str by rw[em,show(4:Int)=((4:Nat):Int)from rfl,qhH,wM]];exact q l _ (s4.none hl) (s4.trans (qab hl _)) qac (by rw[em];exact mo)
theorem scNotesBeg:FnScope ["stuff", "count"] ["stuff"] (qai sNotesBeg):=⟨rfl,rfl,rfl,by ac_rfl,rfl,by ac_rfl,by ac_rfl⟩
theorem ok_notes_at_beginning{f:Addr}{fd:FuncData}(F:Fun K "notes_at_beginning" "notes_at_beginning" sNotesBeg f fd)(T:Bn mg)(NU:Nums mg):FnOk P w K mg base CX0 1 f fd ["stuff"] spNotesBeg:=by
 refine F.ok scNotesBeg (λvs H Q E h=>?_) (λcdv A outer s H vs Q E hr h=>?_)
 ·obtain⟨sa,st,N,rfl,_⟩:=h;rfl
 ·obtain⟨sa,st,N,rfl,⟨_,vs,hs,its⟩,pc,le,q⟩:=h;obtain⟨_,g_SORT⟩:=NU.sort;have lv:vs.length=st.length:=its.length;refine⟨_,(qad (qaq (i:=1) scNotesBeg.nd (by rfl) (by trivial) qaf)
   (qad (qd7 rR (PW.pt (qcb (qah op_lt (pv 1) (qam call_len_seq (by rfl) T.len b_len (qaa (pv 0) pa_nil)) (qao _)) (qbD (qah op_eq (qan ix_tup (qan ix_list (pv 0) (pv 1) (λ_ _=>rfl)) (qak (v:=.int 0) (by rfl) g_SORT ⟨_,rfl⟩) (λ_ _=>rfl)) qag (qao _))))) (qae (qhq (i:=1) scNotesBeg.nd (by rfl) (by trivial) qaf ip_add)))
   (qae (qap (pv 1))))),?_⟩
  refine⟨λm σ' H'=>∃i:Nat,σ'=[some (.ref sa),some (.int (i:Nat))]/\H'=H/\i<=st.length/\m=st.length-i/\(st.takeWhile isNote).length=i+((st.drop i).takeWhile isNote).length,⟨_,0,rfl,rfl,rS _,rfl,by simp⟩,?_⟩;rintro m σ' H' ⟨i,rfl,rfl,hi,rfl,ei⟩;refine⟨_,rfl,_,rfl,sa,_,rfl,.inl (SqL.of hs),_,_,rfl,rfl,_,rfl,?_⟩;rw[lv]
  by_cases hl:i<st.length
  rotate_left
  ·rw[qB (by omega:¬((i:Nat):Int)<(st.length:Nat))];refine iteF (iteF ⟨_,rfl,?_⟩);rw[yU (by omega)]at ei;rw[ei]at q;exact q
  rw[qC (by omega:((i:Nat):Int)<(st.length:Nat))];have ev:vs[i]?=some vs[i]:=qG (by omega);obtain⟨th,et,it⟩:=qaR its ev;obtain⟨so,y,n,rfl,en⟩:=qeO (pc th (qP et));obtain⟨a,eva,_,ha⟩:=it;rw[eva]at ev;have ed:st.drop i=Th.tri so y n::st.drop (i+1):=by
   rw[qG hl]at et;rw[uS hl,rD et]
  refine iteT ⟨_,rfl,_,rfl,sa,_,_,_,rfl,rfl,SqL.of hs,qbL ev,a,_,_,_,rfl,rfl,SqT.of ha,rfl,rfl,_,rfl,?_⟩;rw[show decide (V.str so.s=V.str (Str.ofString "note"))=decide (so=.note)from sot so .note,<-en];rw[ed,vJ]at ei;cases eb:isNote (.tri so y n)with
  | false =>
    rw[eb]at ei
    refine iteF ⟨_,rfl,?_⟩
    rw[ei]at q
    exact q
  | true =>
    rw[eb,if_pos rfl,rC]at ei
    refine iteT ⟨λσ' H2=>∃i':Nat,i'=i+1/\σ'=[some (.ref sa),some (.int (i':Nat))]/\H2=H',?_,?_⟩
    · rintro σ' H'' ⟨i',rfl,rfl,rfl⟩
      exact⟨st.length-(i+1),by omega,i+1,rfl,rfl,by omega,rfl,by omega⟩
    · exact⟨_,rfl,_,_,rfl,rfl,i+1,rfl,rfl,rfl⟩
theorem scMendPieces:FnScope ["kind", "stuff", "kept"] ["kind", "stuff"] (qai sMendPieces):=⟨rfl,rfl,rfl,by ac_rfl,rfl,by ac_rfl,by ac_rfl⟩
theorem ok_mended_pieces{f:Addr}{fd:FuncData}(F:Fun K "mended_pieces" "mended_pieces" sMendPieces f fd)(U:Glob mg)(NU:Nums mg)(F_notes_at_beginning:Fx P w K mg base CX0 1 "notes_at_beginning" ["stuff"] spNotesBeg):FnOk P w K mg base CX0 2 f fd ["kind", "stuff"] spMendPieces:=by
 refine F.ok scMendPieces (λvs H Q E h=>?_) (λcdv A outer s H vs Q E hr h=>?_)
 ·obtain⟨k,sa,st,N,rfl,_⟩:=h;rfl
 ·obtain⟨k,sa,st,N,rfl,⟨nsa,vs,hs,its⟩,up,pc,le,q⟩:=h;obtain⟨_,g_SORT⟩:=NU.sort;obtain⟨_,g_MOST_PIECES⟩:=U.pieces;have hr_notes_at_beginning:=hr;have lv:vs.length=st.length:=its.length;have zl:vs.length<sizeLine:=qaz (by omega);refine⟨_,(qad (qaH (qah op_eq (pv 0) qag (qao _)) (qae (qbU (i:=2) (by rfl) scMendPieces.nd (by rfl) (by trivial) (own:=["piece"]) (CompScope.plain (by rfl) (by ac_rfl) (by ac_rfl) (by ac_rfl)) (qa1 (pv 1)) (λcl C s2 H2 fp=>(qas (i:=0) (by show(["piece"]:List Str).Nodup;ac_rfl) (by rfl) (by trivial) (by trivial))) (λcl C s2 H2 fp=>(qbX (qah op_ne (qan (r:=rIxT K) ix_tup (pv 0) (qak (v:=.int 0) (by rfl) g_SORT ⟨_,rfl⟩) (λ_ _=>rfl)) qag (qao _)))) (λcl C s2 H2 fp=>(pv 0)))) (qae (qaq (i:=2) scMendPieces.nd (by rfl) (by trivial) (qbd sl_list (pv 1) (qbc (qaB F_notes_at_beginning hr_notes_at_beginning (by rfl) qaA (qaa (pv 1) pa_nil))) po_none))))
   (qae (qap (qbd sl_list (pv 2) po_none (qbc (qak (v:=.int 60) (by rfl) g_MOST_PIECES ⟨_,rfl⟩)))))),?_⟩
  refine qbf (λσ' H'=>∃c,σ'=[some (.str k.s),some (.ref sa),some (.ref c)]/\Same H H'/\StAt N H' c (if k=.note then st.filter (λx=>!isNote x)else st.dropWhile isNote)) (λD' kk=>?_) ?_
  ·refine⟨_,rfl,rfl,_,rfl,?_⟩;rw[show decide (V.str k.s=V.str (Str.ofString "note"))=decide (k=.note)from kdt k .note]
   by_cases hk:k=.note
   ·rw[qC hk];refine iteT ⟨_,rfl,sa,rfl,⟨_,SqL.of hs⟩,qaM (λi ys σ' H'=>H'=H/\Paired (ItAt N H) ys ((st.take i).filter λx=>!isNote x)/\∃z,σ'=[z]) zl ⟨rfl,.nil,none,rfl⟩ ?_ ?_ ?_⟩
    ·rintro i ys σ' H' hi ⟨rfl,pa,_⟩;refine⟨SqL.of hs,?_⟩;rw[pa.length];exact qS (xL ..) (by rw[rK];omega)
    ·rintro i x ys σ' H' hx ⟨rfl,pa,z,rfl⟩;obtain⟨th,et,it⟩:=qaR its hx;have tk:st.take (i+1)=st.take i++[th]:=by rw[rO,et];rfl
     obtain⟨so,y,n,rfl,en⟩:=qeO (pc th (qP et));have it':=it;obtain⟨a,rfl,_,ha⟩:=it;refine⟨_,rfl,a,_,_,_,rfl,rfl,SqT.of ha,rfl,rfl,_,rfl,?_⟩;rw[show decide (V.str so.s=V.str (Str.ofString "note"))=decide (so=.note)from sot so .note,<-en];rw[tk,xQ];cases eb:isNote (.tri so y n)with
     | true=>exact iteF ⟨rfl,by simpa[eb]using pa,_,rfl⟩
     | false =>
       refine iteT ⟨_,rfl,rfl,?_,_,rfl⟩
       rw[show([Th.tri so y n].filter λx=>!isNote x)=[Th.tri so y n] by simp[eb]]
       exact qaJ pa (.cons it' .nil)
    ·rintro ys σ' H' ⟨rfl,pa,_⟩ D hD;rw[lv,rM]at pa;refine kk _ _ ⟨D,rfl,qab hD _,up D hD,_,qac,?_⟩;rw[if_pos hk];exact pa.mono λv x h=>h.keep (qab hD _).keep λ_ n _=>n
   ·rw[qB hk];refine iteF ⟨_,rfl,_,rfl,sa,st,N,rfl,⟨nsa,vs,hs,its⟩,pc,le,_,rfl,sa,_,rfl,SqL.of hs,λc hc=>?_⟩;rw[qc3];refine kk _ _ ⟨c,rfl,qab hc _,up c hc,_,qac,?_⟩;rw[if_neg hk,<-qdo];exact(Gen.Paired.dropP _ its).mono λv x h=>h.keep (qab hc _).keep λ_ n _=>n
  rintro σ1 H1 ⟨c,rfl,s1,nc,ws,hc,pa⟩;refine⟨_,rfl,60,rfl,c,_,rfl,SqL.of hc,λz hz=>?_⟩;rw[show cutV ws none (some 60)=ws.take 60 from qhH 60];refine q z _ (s1.none hz) (s1.trans (qab hz _)) ⟨up z (s1.none hz),_,qac,?_⟩;unfold qaj;exact(Gen.Paired.takeP 60 pa).mono λv x h=>h.keep (qab hz _).keep λ_ n _=>n
theorem scLacks:FnScope ["nodes", "number"] ["nodes", "number"] (qai sLacks):=⟨rfl,rfl,rfl,by ac_rfl,rfl,by ac_rfl,by ac_rfl⟩
theorem ok_lacks_notes{f C:Addr}{fd:FuncData}(F:Fun K "lacks_notes" "lacks_notes" sLacks f fd)(T:Bn mg)(NU:Nums mg)(F_may_hold:Fx P w K mg base CX0 1 "may_hold" ["elder_kind", "kind"] spMayX)(F_note_numbers:Fx P w K mg base CX0 1 "note_numbers" ["stuff"] spNotesA)(F_holds:Fx P w K mg base (CX1 P w) 1 "holds" ["book", "node"] (qdL C)):FnOk P w K mg base CX0 2 f fd ["nodes", "number"] spLacks:=by
 refine F.ok scLacks (λvs H Q E h=>?_) (λcdv A outer s H vs Q E hr h=>?_)
 ·obtain⟨p,n,d,ds,N,rfl,_⟩:=h;rfl
 ·obtain⟨p,n,d,ds,N,rfl,⟨as,hp,nd⟩,le,ed,fm,hk,q⟩:=h;obtain⟨_,g_KIND⟩:=NU.kind;obtain⟨_,g_STUFF⟩:=NU.stuff;have hr_may_hold:=hr;have hr_note_numbers:=hr;have hr_holds:=hr;have ln:n<ds.length:=(qI.mp ed).1;obtain⟨a,ea,na⟩:=nd.get ed;obtain⟨m',s',ha,_,_,st'⟩:=na.ex;refine⟨_,(qad (qaH (qb0 (qbk (qaB F_may_hold hr_may_hold (by rfl) qaA (qaa (qan ix_tup (qan ix_list (pv 0) (pv 1) (λ_ _=>rfl)) (qak (v:=.int 1) (by rfl) g_KIND ⟨_,rfl⟩) (λ_ _=>rfl)) (qaa qag pa_nil))))) (qae (qap qeN)) pss_nil)
   (qae (qap (qa2 op_ne (qam call_len_seq (by rfl) T.len b_len (qaa (qaB F_note_numbers hr_note_numbers (by rfl) qaA (qaa (qan ix_tup (qan ix_list (pv 0) (pv 1) (λ_ _=>rfl)) (qak (v:=.int 4) (by rfl) g_STUFF ⟨_,rfl⟩) (λ_ _=>rfl)) pa_nil)) pa_nil)) (qam call_len_seq (by rfl) T.len b_len (qaa (qaB F_holds hr_holds (by rfl) qhw (qaa (pv 0) (qaa (pv 1) pa_nil))) pa_nil)) (qao _))))),?_⟩
  refine⟨_,rfl,_,rfl,p,_,_,_,rfl,rfl,SqL.of hp,qa6 ea,a,_,_,_,rfl,rfl,SqT.of ha,rfl,d.k,.note,rfl,hk,_,rfl,?_⟩;cases eb:mayHold d.k .note with
  | false =>
    have:=q H (Same.refl H)
    unfold qbF at this
    rw[eb]at this
    exact iteT this
  | true =>
    have fp:=qgg fm (by rcases qc6 eb with z | z<;>rw[z]<;>rfl)
    refine iteF ⟨_,rfl,_,rfl,p,_,_,_,rfl,rfl,SqL.of hp,qa6 ea,a,_,_,_,rfl,rfl,SqT.of ha,rfl,s',d.st,N,rfl,st',fp.1,fp.2,λl H1 hl s1 h1=>?_⟩
    refine⟨l,_,rfl,.inl (SqL.of h1),_,rfl,_,rfl,p,n,ds,N,rfl,⟨as,s1 _ _ hp,nd.keep s1.keep λ_ n _=>n⟩,by omega,uQ (show((n:Int)).natAbs<1000 by omega) (by ac_rfl),.inr ⟨⟨by omega,by omega⟩,λl2 H2 hl2 s2 h2=>?_⟩⟩
    refine⟨l2,_,rfl,.inl (SqL.of h2),rfl,?_⟩
    have:=q H2 (s1.trans s2)
    unfold qbF at this
    rw[eb,xG]at this
    rw[qA,qA]
    have e:(!decide (V.int ((qaw d.st).length:Nat)=V.int ((qaX ds n ds.length).length:Nat)))=decide ((qaw d.st).length≠(kids ds n).length):=by
      unfold kids
      by_cases h:(qaw d.st).length=(qaX ds n ds.length).length
      · rw[qC (by rw[h]:V.int ((qaw d.st).length:Nat)=V.int ((qaX ds n ds.length).length:Nat)),qB (λz=>z h)]
        rfl
      · rw[qB (λz=>h (by have:=V.int.inj z;omega):¬V.int ((qaw d.st).length:Nat)=V.int ((qaX ds n ds.length).length:Nat)),qC h]
        rfl
    rw[e]
    exact this
end
end K09
namespace L2
open PySem PySem.Spec PyProof.Rows
def tPairs:List (TE×TE)->St->Hp->(List (V×V)->Hp->Prop)->Prop
 | [],_,H,Q=>Q [] H
 | (tk,tv)::r,σ,H,Q=>tk σ H λx H1=>tv σ H1 λy H2=>tPairs r σ H2 λps H3=>Q ((x,y)::ps) H3
abbrev VV:List (V×V)->List (Value×Value)->Prop:=Paired λp q=>RelV p.1 q.1/\RelV p.2 q.2
def PPs(X:Cx)(pos:Pos)(keys:List (Option Expr))(values:List Expr)(trs:List (TE×TE)):Prop :=
 ∀(pins:List (Addr×Obj)) (s:Shared) (σ:St) (H:Hp) (Q:List (V×V)->Hp->Prop),Inv X pins σ H s->tPairs trs σ H Q ->
  wpAny (model X.prog X.w) X.A (evalPairs (pairTrees keys values X.env pos)) (λvs s'=>∃ps H',Inv X pins σ H' s'/\VV ps vs/\Q ps H') X.xe s
theorem pps_nil{X:Cx}{pos:Pos}:PPs X pos [] [] []:=λpins s σ H Q I h=>pairTrees_nil_walk ⟨[],H,I,.nil,h⟩
theorem pps_cons{X:Cx}{pos:Pos}{k v:Expr}{ks:List (Option Expr)}{vs:List Expr}{tk tv:TE}{trs:List (TE×TE)}(hk:PE X k tk)(hv:PE X v tv)(hr:PPs X pos ks vs trs) :
  PPs X pos (some k::ks) (v::vs) ((tk,tv)::trs):=λpins s σ H Q I h =>
 pairTrees_cons_walk (thn (hk pins s σ H _ I h) λu s1 ⟨x,H1,I1,rx,q1⟩=>thn (hv pins s1 σ H1 _ I1 q1) λw2 s2 ⟨y,H2,I2,ry,q2⟩ =>
  thn (hr pins s2 σ H2 _ I2 q2) λws s3 ⟨ps,H3,I3,rel,q3⟩=>⟨(x,y)::ps,H3,I3,.cons ⟨rx,ry⟩ rel,q3⟩)
def qda(kvs more:List (Key×V)):List (Key×V):=more.foldl (λacc kv=>putK acc kv.1 kv.2) kvs
theorem KV.merge:∀{more:List (Key×V)} {rs:List (Key×Value)} {kvs:List (Key×V)} {vs:List (Key×Value)},KV more rs->KV kvs vs->KV (qda kvs more) (merged vs rs):=by
 intro more rs kvs vs r;unfold KV at r
 induction r generalizing kvs vs with
 | nil=>intro q;exact q
 | @cons p q ps qs h t ih =>
   intro r0
   have e:KV (putK kvs p.1 p.2) (stored vs q.1 q.2):=by
     have:=r0.put p.1 h.2
     rw[<-h.1];exact this
   exact ih e
theorem length_mergeK:∀(more kvs:List (Key×V)),(qda kvs more).length<=kvs.length+more.length
 | [],kvs=>by show kvs.length<=kvs.length+0;omega
 | p :: r, kvs => by
   have h1:=length_mergeK r (putK kvs p.1 p.2)
   have h2:=qct kvs p.1 p.2
   show(qda (putK kvs p.1 p.2) r).length<=_
   rw[rC];omega
theorem qe1{P:Program}{w:World}:∀{kvs:List (Key×V)} {ws:List (Value×Value)},VV (kvs.map λkv=>(kV kv.1,kv.2)) ws->∃rs,Carries (qbh P w) ws rs/\KV kvs rs
 | [],_,r=>by rw[wA]at r;cases r;exact⟨[],True.intro,.nil⟩
 | p :: kvs, _, r => by
   rw[r8]at r
   cases r with
   | @cons a b as bs h t =>
     obtain⟨rs,c,q⟩:=qe1 (P:=P) (w:=w) t
     obtain⟨b1,b2⟩:=b
     exact⟨(p.1,b2)::rs,⟨qh1 h.1,rfl,c⟩,.cons ⟨rfl,h.2⟩ q⟩
def tDisp(trs:List (TE×TE)):TE:=λσ H Q=>∀p,H p=none->tPairs trs σ (upd H p (.dK [])) λps H2=>H2 p=some (.dK [])/\∃kvs:List (Key×V),ps=kvs.map (λkv=>(kV kv.1,kv.2))/\kvs.length<=15/\Q (.ref p) (upd H2 p (.dK (qda [] kvs)))
theorem pe_disp{X:Cx}{pos:Pos}{keys:List (Option Expr)}{values:List Expr}{trs:List (TE×TE)}(h:PPs X pos keys values trs)(hall:keys.all (·.isSome)=true)(hl:keys.length=values.length)(h0:keys≠[])(h15:keys.length<=15):PE X (.Dict keys values pos) (tDisp trs):=by
 intro pins s σ H Q I q;have hn:=I.hok.fresh (qN s.heap.objs.size);have I1:=I.laid (a:=s.heap.objs.size) (o:=.dK []) (h':=s.heap.push {cls:=.type "dict",data:=.dict #[]}) (t':=s.toks) (λ_ _ q=>qL _ q) (qN _) (dk_empty s.heap I.big);refine wpAny_Dict_walk (knd:=qbh X.prog X.w) hall hl h0 h15 (thn (h pins _ σ _ _ I1 (q _ hn)) λws s2 ⟨ps,H2,I2,rel,e,kvs,ep,lk,q2⟩=>?_);subst ep;obtain⟨rs,c,rk⟩:=qe1 (P:=X.prog) (w:=X.w) rel;obtain⟨z,hd,vs0,r0,dd⟩:=qiJ I2.hok e;cases r0;refine⟨rs,c,dd,λh' dd' hs=>⟨.ref s.heap.objs.size,_,?_,rfl,q2⟩⟩;have hz:(qda [] kvs).length<=sizeLine:=by
  have h1:=length_mergeK kvs [];rw[List.length_nil]at h1;rw[sizeLine_eq];omega
 have he:∃q,h'.get? s.heap.objs.size=some q:=let⟨q,_,_,hq,_⟩:=dd';⟨q,hq⟩;exact qgj I2 (by rw[e];exact True.intro) hs he (qil hz hd (rk.merge .nil) dd')
end L2
namespace Gen
open PySem L2 Bk
theorem qb4(m:Nat)(x:Th):∀(l:List Th) (c:Nat),qa9 m c (l++[x])=qa9 m c l++(if isNote x then(if cntN m c l<m then[qbZ (cntN m c l:Nat)]else[])else[x])
 | [], c => by
   show qa9 m c [x]=_
   rw[qa9,qa9,qa9,cntN,yP]
   split
   · split<;>rfl
   · rfl
 | y :: l, c => by
   rw[yA,qa9,qa9,cntN,qb4 m x l,qb4 m x l]
   by_cases hy:isNote y=true
   · by_cases hc:c<m
     · simp only[hy,hc,if_true,and_self,List.cons_append]
     · simp only[hy,hc,if_true,if_false,and_false]
   · simp only[hy,if_false,false_and,List.cons_append,Bool.false_eq_true]
theorem qcl(m:Nat)(x:Th):∀(l:List Th) (c:Nat),cntN m c (l++[x])=if isNote x/\cntN m c l<m then cntN m c l+1 else cntN m c l
 | [], c => by
   show cntN m c [x]=_
   rw[cntN,cntN,cntN,cntN]
 | y :: l, c => by
   rw[yA,cntN,cntN,qcl m x l,qcl m x l]
   split<;>rfl
theorem qdN(m:Nat):∀(l:List Th) (c:Nat),c<=m->cntN m c l<=m
 | [],c,h=>h
 | x :: l, c, h => by
   rw[cntN]
   split
   · rename_i z
     exact qdN m l _ z.2
   · exact qdN m l _ h
theorem qbR(m:Nat):∀(l:List Th) (c:Nat),(qa9 m c l).length<=l.length
 | [],c=>qN _
 | x :: l, c => by
   rw[qa9]
   split
   · split
     · rw[rC,rC];exact u5 (qbR m l _)
     · exact Nat.le_succ_of_le (qbR m l _)
   · rw[rC,rC];exact u5 (qbR m l _)
theorem qdu(c:Nat):∀j,(addN c j).length=j
 | 0=>rfl
 | j+1=>by rw[addN,qD,qdu c j];rfl
theorem qfr{m:Nat}{st:List Th}(h:st.length<=60):(qaG m st).length<=60:=by
 unfold qaG;rw[qD,qdu];have:=qbR m st 0;omega
theorem qg9{n:Nat}(h:n<=60):PcOk (qbZ n):=⟨by omega,by omega,rfl⟩
theorem qd9{m:Nat}(hm:m<=60):∀(l:List Th) (c:Nat),(∀x∈l,PcOk x)->∀x∈qa9 m c l,PcOk x
 | [],c,_,x,hx=>nomatch hx
 | y :: l, c, h, x, hx => by
   have h':∀x∈l,PcOk x:=λx hx=>h x (qQ _ hx)
   rw[qa9]at hx
   split at hx
   · split at hx
     · rcases qV.mp hx with rfl | hx
       · exact qg9 (by omega)
       · exact qd9 hm l _ h' x hx
     · exact qd9 hm l _ h' x hx
   · rcases qV.mp hx with rfl | hx
     · exact h x qM
     · exact qd9 hm l _ h' x hx
theorem qgB{c:Nat}{x:Th}:∀{j:Nat},x∈addN c j->∃i,i<j/\x=qbZ (c+i:Nat)
 | 0,h=>nomatch h
 | j + 1, h => by
   rw[addN]at h
   rcases qY.mp h with h | h
   · obtain⟨i,hi,e⟩:=qgB h
     exact⟨i,by omega,e⟩
   · exact⟨j,by omega,by simpa using h⟩
theorem qho{m:Nat}{st:List Th}(hm:m<=60)(h:∀x∈st,PcOk x):∀x∈qaG m st,PcOk x:=λx hx=>by
 unfold qaG at hx;rcases qY.mp hx with hx | hx
 ·exact qd9 hm st 0 h x hx
 ·obtain⟨i,hi,rfl⟩:=qgB hx;have:=qdN m st 0 (rS _);exact qg9 (by omega)
theorem qa3{α β:Type}{ds:List α}{f:Nat->α->List β}{i:Nat}{d:α}(h:ds[i]?=some d):atTo ds f (i+1)=atTo ds f i++f i d:=by rw[atTo,h]
theorem qbP{α β:Type}{ds:List α}{f:Nat->α->β}:∀{i:Nat},i<=ds.length->(atTo ds (λi d=>[f i d]) i).length=i
 | 0,_=>rfl
 | i + 1, h => by
   rw[qa3 (qG (by omega)),qD,qbP (by omega)]
   rfl
theorem qd6{α β:Type}{ds:List α}{f:Nat->α->β}:∀{i j:Nat},i<=ds.length->j<i->(atTo ds (λi d=>[f i d]) i)[j]?=ds[j]?.map (f j)
 | 0,j,_,h=>absurd h (yR _)
 | i + 1, j, hi, h => by
   rw[qa3 (qG (by omega))]
   by_cases e:j<i
   · rw[rQ (by rw[qbP (by omega)];exact e),qd6 (by omega) e]
   · have:j=i:=by omega
     subst this
     rw[rT (by rw[qbP (by omega)];exact qN _),qbP (by omega),Nat.sub_self,qG (l:=ds) (by omega)]
     rfl
theorem qcv{α β:Type}{ds:List α}{f:Nat->α->List β}{y:β}:∀{i:Nat},y∈atTo ds f i->∃j d,j<i/\ds[j]?=some d/\y∈f j d
 | 0,h=>nomatch h
 | i + 1, h => by
   rw[atTo]at h
   cases e:ds[i]? with
   | none =>
     rw[e]at h
     obtain⟨j,d,hj,q⟩:=qcv h
     exact⟨j,d,by omega,q⟩
   | some d =>
     rw[e]at h
     rcases qY.mp h with h | h
     · obtain⟨j,d,hj,q⟩:=qcv h
       exact⟨j,d,by omega,q⟩
     · exact⟨i,d,by omega,e,h⟩
theorem qbC{α β:Type}{ds:List α}{f:Nat->α->List β}{B:Nat}(hf:∀i d,(f i d).length<=B):∀i,(atTo ds f i).length<=B*i
 | 0=>rS _
 | i + 1 => by
   rw[atTo,Nat.mul_succ]
   have:=qbC (ds:=ds) hf i
   split
   · omega
   · rename_i d _
     have:=hf i d
     rw[qD]
     omega
theorem qeF(ds:List Nd)(sp:List Int):∀{i:Nat},i<=ds.length->(qez ds sp i).length=qbx sp i
 | 0,_=>rfl
 | i + 1, h => by
   unfold qez
   rw[qa3 (qG (by omega)),qD]
   have:=qeF ds sp (i:=i) (by omega)
   unfold qez at this
   rw[this,qbx]
   split<;>rfl
theorem qdv(sp:List Int):∀i,qbx sp i<=i
 | 0=>qN _
 | i + 1 => by
   have:=qdv sp i
   rw[qbx]
   split<;>omega
def Nw(N:Addr->Prop)(L:Addr):Addr->Prop:=λb=>N b/\b≠L
theorem keep_nw{N:Addr->Prop}{H:Hp}{L:Addr}{o:HO}:KeepN (Nw N L) H (upd H L o):=λb u n e=>by rw[qal n.2];exact e
theorem qdX{N:Addr->Prop}{H:Hp}{L:Addr}(h:H L=none):∀b,N b->(H b).isSome=true->Nw N L b:=λb n e=>⟨n,λz=>by rw[z,h]at e;cases e⟩
theorem qcO{N:Addr->Prop}{H:Hp}{L b:Addr}{o:HO}(n:N b)(hL:H L=some o)(hb:H b=none):Nw N L b:=⟨n,λz=>by rw[z,hL]at hb;cases hb⟩
theorem qaE{H H':Hp}{L:Addr}{o:HO}(s:Same H H')(h:H L=none):Same H (upd H' L o):=λb u e=>by rw[qal (qar e h)];exact s b u e
theorem qaZ{n:Nat}(h:n<=1000):n<sizeLine:=qaz h
theorem qgQ(x:Int)(l:List Int):inV (.int x) (l.map V.int)=decide (x∈l):=by
 unfold inV
 induction l with
 | nil=>simp
 | cons y r ih =>
   rw[r8,xJ,ih]
   have:eqV (.int y) (.int x)=decide (y=x):=by
     show(y == x)=_
     rw[r9];simp
   rw[this]
   by_cases h:y=x
   · simp[h]
   · have h':¬x=y:=λz=>h z.symm
     simp[h,h']
theorem qfK(l:List Int):(l.map V.int).all flatV=true:=by
 rw[yH];intro v hv;obtain⟨x,_,rfl⟩:=rG.mp hv;rfl
theorem qed{ds:List Nd}{n x:Int}(h:x∈kids ds n):∃(j:Nat) (d:Nd),x=(j:Int)/\ds[j]?=some d/\d.e=n:=by
 unfold kids qaX at h;obtain⟨j,hj,rfl⟩:=rG.mp h;obtain⟨_,hj⟩:=xA.mp hj;have hj:=rL hj;cases e:ds[j]? with
 | none=>rw[e]at hj;cases hj
 | some d=>rw[e]at hj;exact⟨j,d,rfl,e,rD hj⟩
theorem qc7(ds:List Nd)(n:Int):(kids ds n).length<=ds.length:=qb6 ds n ds.length
theorem qdf(ds:List Nd)(n:Nat)(d:Nd):(noted ds n d).e=d.e/\(noted ds n d).k=d.k/\(noted ds n d).nm=d.nm/\(noted ds n d).mks=d.mks:=by
 unfold noted
 split<;>exact⟨rfl,rfl,rfl,rfl⟩
theorem qcZ(ds:List Nd):(qcE ds).length=ds.length:=qbP (qN _)
theorem qcQ{ds:List Nd}{n:Nat}(h:n<ds.length):(qcE ds)[n]?=ds[n]?.map (noted ds n):=qd6 (qN _) h
theorem qc4{ds:List Nd}(ok:NodesOk ds){x:Int}(h:x∈qba ds):∃(j:Nat) (d:Nd),x=(j:Int)/\ds[j]?=some d/\d.k=.note:=by
 obtain⟨k,c,_,ec,hx⟩:=qcv h;unfold qbm at hx
 by_cases hn:mayHold c.k .note=true
 ·rw[if_pos hn]at hx;obtain⟨j,d,rfl,ed,ee⟩:=qed (y9 hx);refine⟨j,d,rfl,ed,?_⟩;rcases ok.hung j d ed with⟨_,z,_⟩ | ⟨_,i,c',e1,_,ec',m⟩
  ·rw[z]at ee;omega
  ·have:i=k:=by rw[e1]at ee;omega
   subst this;rw[ec]at ec';cases ec';rcases qc6 hn with z | z<;>rw[z]at m<;>cases e:d.k<;>rw[e]at m<;>first | rfl | cases m
 ·rw[if_neg hn]at hx;cases hx
def WOk(ds:List Nd)(sp:List Int):Prop:=∀(n:Nat) (d:Nd),ds[n]?=some d->(n:Int)∉sp->d.e=-1\/∃j:Nat,d.e=(j:Int)/\j<n/\(j:Int)∉sp
theorem qfF{ds:List Nd}(ok:NodesOk ds):WOk (qcE ds) (qba ds):=by
 intro n d h _;have hn:n<ds.length:=by rw[<-qcZ ds];exact(qI.mp h).1
 rw[qcQ hn]at h;cases e:ds[n]? with
 | none=>rw[e]at h;cases h
 | some c =>
   rw[e]at h
   cases h
   rw[(qdf ds n c).1]
   rcases ok.hung n c e with⟨_,z,_⟩ | ⟨_,j,c',e1,lt,ec',m⟩
   · exact .inl z
   · refine .inr ⟨j,e1,lt,λhj=>?_⟩
     obtain⟨j',d',e2,ed',kd⟩:=qc4 ok hj
     have:j=j':=by omega
     subst this
     rw[ec']at ed'
     cases ed'
     rw[kd]at m
     cases e:c.k<;>rw[e]at m<;>cases m
def AsOk(ds:List Nd):Prop:=∀d∈ds,d.k=.aside->0<=d.e/\d.e<ds.length
def spNumbered:Sp:=λvs H Q _=>∃(s:Addr) (st:List Th) (m:Nat) (N:Addr->Prop),vs=[.ref s,.int m]/\StAt N H s st/\Up0 N H/\(∀x∈st,PcOk x)/\st.length<=60/\m<=60/\∀s' H',H s'=none->Same H H'->StAt N H' s' (qaG m st)->Q (.ref s') H'
def spWithout:Sp:=λvs H Q _=>∃(p s:Addr) (ds:List Nd) (sp:List Int) (N:Addr->Prop),vs=[.ref p,.ref s]/\BookAt N H p ds/\H s=some (.lst (sp.map V.int))/\Up0 N H/\ds.length<=60/\WOk ds sp/\∀l H',H l=none->Same H H'->BookAt N H' l (qez ds sp ds.length)->Q (.ref l) H'
def spMendNotes:Sp:=λvs H Q _=>∃(p:Addr) (ds:List Nd) (N:Addr->Prop),vs=[.ref p]/\BookAt N H p ds/\Up0 N H/\NodesOk ds/\∀l H',H l=none->Same H H'->BookAt N H' l (qat ds)->Q (.ref l) H'
def spNextKind:Sp:=λvs H Q _=>∃(p:Addr) (n:Nat) (d:Nd) (ds:List Nd) (N:Addr->Prop),vs=[.ref p,.int n]/\BookAt N H p ds/\ds.length<=100/\ds[n]?=some d/\0<=d.e/\d.e<ds.length/\∀H',Same H H'->Q (.str (qaY ds n d).s) H'
def spWants:Sp:=λvs H Q _=>∃(p:Addr) (n:Nat) (d:Nd) (ds:List Nd) (N:Addr->Prop),vs=[.ref p,.int n]/\BookAt N H p ds/\ds.length<=100/\ds[n]?=some d/\AsOk ds/\∀H',Same H H'->Q (.bl (qaD ds n d)) H'
def spMendKinds:Sp:=λvs H Q _=>∃(p:Addr) (ds:List Nd) (N:Addr->Prop),vs=[.ref p]/\BookAt N H p ds/\Up0 N H/\ds.length<=100/\AsOk ds/\∀l H',H l=none->Same H H'->BookAt (Nw N l) H' l (qaP ds)->Q (.ref l) H'
end Gen
namespace K09
open PySem L2 Bk Gen
abbrev sNumbered:Stmt:=top 50
abbrev sWithout:Stmt:=top 51
abbrev sMendNotes:Stmt:=top 49
abbrev sNextKind:Stmt:=top 53
abbrev sWants:Stmt:=top 52
abbrev sMendKinds:Stmt:=top 54
section
variable{P:Program}{w:World}{K:W.Frag}{mg:Str->Option Value}{base:Heap}
theorem scNumbered:FnScope ["stuff", "notes", "pieces", "count", "piece"] ["stuff", "notes"] (qai sNumbered):=⟨rfl,rfl,rfl,by ac_rfl,rfl,by ac_rfl,by ac_rfl⟩
theorem ok_numbered_pieces{f:Addr}{fd:FuncData}(F:Fun K "numbered_pieces" "numbered_pieces" sNumbered f fd)(T:Bn mg)(U:Glob mg)(NU:Nums mg):FnOk P w K mg base CX0 1 f fd ["stuff", "notes"] spNumbered:=by
 refine F.ok scNumbered (λvs H Q E h=>?_) (λcdv A outer s H vs Q E hr h=>?_)
 ·obtain⟨sa,st,m,N,rfl,_⟩:=h;rfl
 ·obtain⟨sa,st,m,N,rfl,⟨nsa,vs,hs,its⟩,up,pc,le,m6,q⟩:=h;obtain⟨_,g_SORT⟩:=NU.sort;obtain⟨_,g_MOST_PIECES⟩:=U.pieces;have lv:vs.length=st.length:=its.length;refine⟨_,(qad (qaq (i:=2) scNumbered.nd (by rfl) (by trivial) (qay pa_nil))
   (qad (qaq (i:=3) scNumbered.nd (by rfl) (by trivial) qaf)
   (qad (qbT rR (by rfl) (qa1 (pv 0)) (qas (i:=4) scNumbered.nd (by rfl) (by trivial))
   (qae (qaH (qah op_ne (qan ix_tup (pv 4) (qak (v:=.int 0) (by rfl) g_SORT ⟨_,rfl⟩) (λ_ _=>rfl)) qag (qao _)) (qae (qaC (qaV qH qJ qK mt_append (pv 2) (qaa (pv 4) pa_nil)))) (qae (qaH (qah op_lt (pv 3) (pv 1) (qao _)) (qad (qaC (qaV qH qJ qK mt_append (pv 2) (qaa (qaK (qaa qag (qaa (pv 3) (qaa qaf pa_nil)))) pa_nil)))
   (qae (qhq (i:=3) scNumbered.nd (by rfl) (by trivial) qaf ip_add))) pss_nil)))))
   (qad (qd7 rR (PW.pt (qcb (qah op_lt (pv 3) (pv 1) (qao _)) (qbD (qah op_lt (qam call_len_seq (by rfl) T.len b_len (qaa (pv 2) pa_nil)) (qak (v:=.int 60) (by rfl) g_MOST_PIECES ⟨_,rfl⟩) (qao _))))) (qad (qaC (qaV qH qJ qK mt_append (pv 2) (qaa (qaK (qaa qag (qaa (pv 3) (qaa qaf pa_nil)))) pa_nil)))
   (qae (qhq (i:=3) scNumbered.nd (by rfl) (by trivial) qaf ip_add))))
   (qae (qap (pv 2))))))),?_⟩
  refine⟨by show 0<=sizeLine;decide,λL hL=>?_⟩;have s1:=qab hL (.lst []);dsimp only[qbu];refine qbf (λσ' H'=>σ'=[some (.ref sa),some (.int m),some (.ref L),some (.int (0:Nat)),none]/\H'=upd H L (.lst [])) (λD' kk=>kk _ _ ⟨rfl,rfl⟩) ?_;rintro _ _ ⟨rfl,rfl⟩;refine qbf (λσ' H'=>∃ys z,σ'=[some (.ref sa),some (.int m),some (.ref L),some (.int (cntN m 0 st:Nat)),z]/\Same H H'/\H' L=some (.lst ys)/\Paired (ItAt (Nw N L) H') ys (qa9 m 0 st)) (λD' kk=>?_) ?_
  ·refine⟨_,rfl,sa,rfl,⟨_,SqL.of (s1 _ _ hs)⟩,qdy (xs:=vs) (λi σ' H'=>∃ys z,∃c:Nat,σ'=[some (.ref sa),some (.int m),some (.ref L),some (.int c),z]/\c=cntN m 0 (st.take i)/\Same H H'/\H' L=some (.lst ys)/\Paired (ItAt (Nw N L) H') ys (qa9 m 0 (st.take i))) ⟨[],none,0,rfl,rfl,s1,qac,.nil⟩ ?_ ?_ ?_⟩
   ·rintro i σ' H' hi ⟨ys,z,c,rfl,_,s2,_⟩;exact SqL.of (s2 _ _ hs)
   ·rintro i x σ' H' hx ⟨ys,z,c,rfl,rfl,s2,hL2,pa⟩;obtain⟨th,et,it⟩:=qaR its hx;have tk:st.take (i+1)=st.take i++[th]:=by rw[rO,et];rfl
    obtain⟨so,y,n,rfl,en⟩:=qeO (pc th (qP et));have hi':i<st.length:=(qI.mp et).1;have it':=it;obtain⟨a,rfl,_,ha⟩:=it;have ly:ys.length<=60:=by
     have h1:=pa.length;have h2:=qbR m (st.take i) 0;rw[rK]at h2;omega
    have itn:ItAt (Nw N L) (upd H' L (.lst (ys++[.ref a]))) (.ref a) (.tri so y n):=it'.keep (qaE s2 hL).keep (qdX hL);refine⟨_,rfl,a,_,_,_,rfl,rfl,SqT.of (s2 _ _ ha),rfl,rfl,_,rfl,?_⟩;rw[show decide (V.str so.s=V.str (Str.ofString "note"))=decide (so=.note)from sot so .note,<-en];cases eb:isNote (.tri so y n)with
    | false =>
      refine iteT ⟨_,rfl,.inl ⟨rfl,_,SqL.of hL2⟩,_,rfl,L,_,_,rfl,rfl,hL2,qaZ (by omega),?_⟩
      refine⟨ys++[.ref a],_,_,rfl,?_,qaE s2 hL,qac,?_⟩
      · rw[tk,qcl,if_neg (λz=>by rw[eb]at z;exact absurd z.1 (by decide))]
      · rw[tk,qb4,eb]
        exact qaJ (pa.mono λv x h=>h.keep keep_nw λ_ n _=>n) (.cons itn .nil)
    | true =>
      refine iteF ⟨_,rfl,_,rfl,_,_,rfl,rfl,_,rfl,?_⟩
      by_cases hc:cntN m 0 (st.take i)<m
      · rw[qC (by omega:((cntN m 0 (st.take i):Nat):Int)<(m:Nat))]
        refine iteT ⟨_,rfl,.inl ⟨rfl,_,SqL.of hL2⟩,_,rfl,(by show 3<=sizeLine;decide),λt ht=>?_⟩
        have s3:=s2.trans (qab ht (.tup [.str So.note.s,.int (cntN m 0 (st.take i):Nat),.int 0]))
        have hL3:=qab ht (.tup [.str So.note.s,.int (cntN m 0 (st.take i):Nat),.int 0]) _ _ hL2
        refine⟨L,_,_,rfl,rfl,hL3,qaZ (by omega),_,rfl,_,_,rfl,rfl,?_⟩
        refine⟨ys++[.ref t],_,cntN m 0 (st.take i)+1,rfl,?_,qaE s3 hL,qac,?_⟩
        · rw[tk,qcl,if_pos ⟨eb,hc⟩]
        · rw[tk,qb4,eb,if_pos rfl,if_pos hc]
          refine qaJ (pa.mono λv x h=>(h.keep (qab ht _).keep λ_ n _=>n).keep keep_nw λ_ n _=>n) (.cons ⟨t,rfl,qcO (up t (s2.none ht)) hL2 ht,?_⟩ .nil)
          rw[qal (qar hL2 ht).symm,qac]
          rfl
      · rw[qB (by omega:¬((cntN m 0 (st.take i):Nat):Int)<(m:Nat))]
        refine iteF ⟨ys,_,_,rfl,?_,s2,hL2,?_⟩
        · rw[tk,qcl,if_neg λz=>hc z.2]
        · rw[tk,qb4,eb,if_pos rfl,if_neg hc,qX]
          exact pa
   ·rintro σ' H' ⟨ys,z,c,rfl,rfl,s2,hL2,pa⟩;rw[lv,rM]at pa⊢;exact kk _ _ ⟨ys,z,rfl,s2,hL2,pa⟩
  rintro σ1 H1 ⟨ys,z,rfl,s1,hL1,pa⟩;have rl:=qbR m st 0;have cl:=qdN m st 0 (rS _);refine⟨λk σ' H'=>∃zs,∃j:Nat,σ'=[some (.ref sa),some (.int m),some (.ref L),some (.int (cntN m 0 st+j:Nat)),z]/\Same H H'/\H' L=some (.lst zs)/\Paired (ItAt (Nw N L) H') zs (qa9 m 0 st++addN (cntN m 0 st) j)/\j<=min (m-cntN m 0 st) (60-(qa9 m 0 st).length)/\k=60-j,⟨_,ys,0,rfl,s1,hL1,by rw[addN,qX];exact pa,by omega,rfl⟩,?_⟩;rintro k σ' H' ⟨zs,j,rfl,s2,hL2,pz,hj,rfl⟩;have lz:zs.length=(qa9 m 0 st).length+j:=by rw[pz.length,qD,qdu]
  refine⟨_,rfl,_,rfl,_,_,rfl,rfl,_,rfl,?_⟩;have done:j=min (m-cntN m 0 st) (60-(qa9 m 0 st).length)->Q (.ref L) H':=λe=>q L H' hL s2 ⟨up L hL,zs,hL2,by
   unfold qaG;rw[<-e];exact pz.mono λv x h=>h.keep KeepN.refl λ_ n _=>n.1⟩
  by_cases h1:cntN m 0 st+j<m
  rotate_left
  ·rw[qB (by omega:¬((cntN m 0 st+j:Nat):Int)<(m:Nat))];exact iteF (iteF ⟨_,rfl,done (by omega)⟩)
  rw[qC (by omega:((cntN m 0 st+j:Nat):Int)<(m:Nat))];refine iteT ⟨_,rfl,L,_,rfl,.inl (SqL.of hL2),_,_,rfl,rfl,_,rfl,?_⟩
  by_cases h2:zs.length<60
  rotate_left
  ·rw[qB (by omega:¬((zs.length:Nat):Int)<60)];exact iteF ⟨_,rfl,done (by omega)⟩
  rw[qC (by omega:((zs.length:Nat):Int)<60)];refine iteT ⟨λσ' H2=>∃zs,σ'=[some (.ref sa),some (.int m),some (.ref L),some (.int (cntN m 0 st+(j+1):Nat)),z]/\Same H H2/\H2 L=some (.lst zs)/\Paired (ItAt (Nw N L) H2) zs (qa9 m 0 st++addN (cntN m 0 st) (j+1)),?_,?_⟩
  ·rintro σ' H2 ⟨zs',rfl,s3,hL3,pz3⟩;exact⟨60-(j+1),by omega,zs',j+1,rfl,s3,hL3,pz3,by omega,rfl⟩
  ·refine⟨_,rfl,.inl ⟨rfl,_,SqL.of hL2⟩,_,rfl,(by show 3<=sizeLine;decide),λt ht=>?_⟩;have s3:=s2.trans (qab ht (.tup [.str So.note.s,.int (cntN m 0 st+j:Nat),.int 0]));have hL3:=qab ht (.tup [.str So.note.s,.int (cntN m 0 st+j:Nat),.int 0]) _ _ hL2;refine⟨L,_,_,rfl,rfl,hL3,qaZ (by omega),_,rfl,_,_,rfl,rfl,?_⟩;refine⟨zs++[.ref t],rfl,qaE s3 hL,qac,?_⟩;rw[addN,<-xT];refine qaJ (pz.mono λv x h=>(h.keep (qab ht _).keep λ_ n _=>n).keep keep_nw λ_ n _=>n) (.cons ⟨t,rfl,qcO (up t (s2.none ht)) hL2 ht,?_⟩ .nil);rw[qal (qar hL2 ht).symm,qac];rfl
theorem scWithout:FnScope ["nodes", "spare", "kept", "new_numbers", "number", "node"] ["nodes", "spare"] (qai sWithout):=⟨rfl,rfl,rfl,by ac_rfl,rfl,by ac_rfl,by ac_rfl⟩
theorem ok_without_nodes{f:Addr}{fd:FuncData}(F:Fun K "without_nodes" "without_nodes" sWithout f fd)(T:Bn mg)(NU:Nums mg):FnOk P w K mg base CX0 1 f fd ["nodes", "spare"] spWithout:=by
 refine F.ok scWithout (λvs H Q E h=>?_) (λcdv A outer s H vs Q E hr h=>?_)
 ·obtain⟨p,sa,ds,sp,N,rfl,_⟩:=h;rfl
 ·obtain⟨p,sa,ds,sp,N,rfl,⟨as,hp,nd⟩,hs,up,le,wo,q⟩:=h;obtain⟨_,g_ELDER⟩:=NU.elder;obtain⟨_,g_KIND⟩:=NU.kind;obtain⟨_,g_NAME⟩:=NU.name;obtain⟨_,g_MARKS⟩:=NU.marks;obtain⟨_,g_STUFF⟩:=NU.stuff;have hu1:=hu_of hr;refine⟨_,(qad (qaq (i:=2) scWithout.nd (by rfl) (by trivial) (qay pa_nil))
   (qad (qaq (i:=3) scWithout.nd (by rfl) (by trivial) (pe_disp (pps_cons (qcy un_neg qaf) (qcy un_neg qaf) pps_nil) rfl rfl (by simp) (by decide)))
   (qad (qbT rR (by rfl) (qeL (by rfl) T.enumerate (qaa (pv 0) pa_nil)) (qes (by rfl) (qaL (qas (i:=4) scWithout.nd (by rfl) (by trivial)) (qaL (qas (i:=5) scWithout.nd (by rfl) (by trivial)) pgs_nil)))
   (qae (qaH (qah op_notIn_seq (pv 4) (pv 1) (by with_unfolding_all rfl)) (qad (ps_dput hu1 (pv 3) (pv 4) (qam call_len_seq (by rfl) T.len b_len (qaa (pv 2) pa_nil)) (by rfl))
   (qae (qaC (qaV qH qJ qK mt_append (pv 2) (qaa (qaK (qaa (pe_dget hu1 (pv 3) (qan ix_tup (pv 5) (qak (v:=.int 0) (by rfl) g_ELDER ⟨_,rfl⟩) (λ_ _=>rfl)) (λ_ _=>rfl)) (qaa (qan ix_tup (pv 5) (qak (v:=.int 1) (by rfl) g_KIND ⟨_,rfl⟩) (λ_ _=>rfl)) (qaa (qan ix_tup (pv 5) (qak (v:=.int 2) (by rfl) g_NAME ⟨_,rfl⟩) (λ_ _=>rfl)) (qaa (qan ix_tup (pv 5) (qak (v:=.int 3) (by rfl) g_MARKS ⟨_,rfl⟩) (λ_ _=>rfl)) (qaa (qan ix_tup (pv 5) (qak (v:=.int 4) (by rfl) g_STUFF ⟨_,rfl⟩) (λ_ _=>rfl)) pa_nil)))))) pa_nil))))) pss_nil)))
   (qae (qap (pv 2)))))),?_⟩
  refine⟨by show 0<=sizeLine;decide,λL hL=>?_⟩;have s1:=qab hL (.lst []);refine λdd hdd=>⟨_,rfl,_,rfl,qac,[(Sum.inl (-1),.int (-1))],rfl,by decide,?_⟩
  have hdd0:H dd=none:=s1.none hdd;have s2:Same H (upd (upd (upd H L (.lst [])) dd (.dK [])) dd (.dK (qda [] [(Sum.inl (-1),.int (-1))]))):=qaE (s1.trans (qab hdd _)) hdd0;have hL2:upd (upd (upd H L (.lst [])) dd (.dK [])) dd (.dK (qda [] [(Sum.inl (-1),.int (-1))])) L=some (.lst []):=by
   rw[upd_upd,qal (qar qac hdd),qac]
  have hd2:upd (upd (upd H L (.lst [])) dd (.dK [])) dd (.dK (qda [] [(Sum.inl (-1),.int (-1))])) dd=some (.dK (qda [] [(Sum.inl (-1),.int (-1))])):=qac;generalize upd (upd (upd H L (.lst [])) dd (.dK [])) dd (.dK (qda [] [(Sum.inl (-1),.int (-1))]))=H2 at s2 hL2 hd2⊢;have old:∀b,N b->(H b).isSome=true->Nw (Nw N L) dd b:=λb n e=>qdX hdd0 b (qdX hL b n e) e
  have la:as.length=ds.length:=nd.length;refine⟨_,rfl,p,rfl,⟨_,SqL.of (s2 _ _ hp)⟩,qd8 (xs:=as.map V.ref) (λi σ' H'=>∃z1 z2 kvs bs,σ'=[some (.ref p),some (.ref sa),some (.ref L),some (.ref dd),z1,z2]/\Same H H'/\H' L=some (.lst (bs.map V.ref))/\NdsAt (Nw (Nw N L) dd) H' bs (qez ds sp i)/\H' dd=some (.dK kvs)/\kvs.length<=i+1/\∀j:Int,(j=-1\/∃n:Nat,j=(n:Int)/\n<i/\(n:Int)∉sp)->valV kvs (Sum.inl j)=some (.int (qcj sp j))) ⟨none,none,_,[],rfl,s2,hL2,.nil,hd2,by decide,?_⟩ ?_ ?_ ?_⟩
  ·rintro j (rfl | ⟨n,_,h,_⟩)
   ·rfl
   ·exact absurd h (yR _)
  ·rintro i σ' H' hi ⟨z1,z2,kvs,bs,rfl,s3,_⟩;exact SqL.of (s3 _ _ hp)
  ·rintro i x σ' H' t hx ht ⟨z1,z2,kvs,bs,rfl,s3,hL3,nds,hd3,lk,inv⟩;obtain⟨a,ea,rfl⟩:=qcH hx;obtain⟨d,ed,nad⟩:=nd.at ea;have hi':i<ds.length:=(qI.mp ed).1;have k4:=qab ht (.tup [.int (i:Nat),.ref a]);have s4:=s3.trans k4;obtain⟨m',s',ha,_⟩:=nad.ex;refine⟨t,_,rfl,SqT.of qac,rfl,_,_,rfl,_,_,rfl,rfl,?_⟩;refine⟨_,rfl,_,rfl,sa,_,rfl,.inl (SqL.of (s4 _ _ hs)),rfl,qfK _,_,rfl,?_⟩;rw[if_pos rfl,qgQ]
   by_cases hsp:(i:Int)∈sp
   ·rw[qC hsp];refine iteF ⟨_,_,kvs,bs,rfl,s4,k4 _ _ hL3,?_,k4 _ _ hd3,by omega,λj hj=>inv j (hj.imp id ?_)⟩
    ·unfold qez;rw[qa3 ed,if_pos hsp,qX];exact nds.keep k4.keep λ_ n _=>n
    ·rintro⟨n,e,lt,nn⟩;refine⟨n,e,?_,nn⟩;have:n≠i:=λz=>nn (by rw[z];exact hsp)
     omega
   ·rw[qB hsp];have lb:bs.length=qbx sp i:=by rw[nds.length,qeF ds sp (by omega)]
    have cl:=qdv sp i;have hL4:=k4 _ _ hL3;have hd4:=k4 _ _ hd3;refine iteT ⟨_,rfl,L,_,rfl,.inl (SqL.of hL4),_,rfl,_,rfl,dd,_,rfl,DPut.k (k:=Sum.inl (i:Int)) hd4 (qaZ (by omega)),?_⟩;rw[qA,lb];have k5:KeepN (Nw (Nw N L) dd) (upd H' t (.tup [.int (i:Nat),.ref a])) (upd (upd H' t (.tup [.int (i:Nat),.ref a])) dd (.dK (putK kvs (Sum.inl (i:Int)) (.int (qbx sp i:Nat))))):=keep_nw;have s5:=qaE (o:=.dK (putK kvs (Sum.inl (i:Int)) (.int (qbx sp i:Nat)))) s4 hdd0;have hd5:upd (upd H' t (.tup [.int (i:Nat),.ref a])) dd (.dK (putK kvs (Sum.inl (i:Int)) (.int (qbx sp i:Nat)))) dd=some (.dK (putK kvs (Sum.inl (i:Int)) (.int (qbx sp i:Nat)))):=qac;have hL5:upd (upd H' t (.tup [.int (i:Nat),.ref a])) dd (.dK (putK kvs (Sum.inl (i:Int)) (.int (qbx sp i:Nat)))) L=some (.lst (bs.map V.ref)):=by rw[qal (qgb hL4 hd4 (by intro z;cases z))];exact hL4
    generalize upd (upd H' t (.tup [.int (i:Nat),.ref a])) dd (.dK (putK kvs (Sum.inl (i:Int)) (.int (qbx sp i:Nat))))=H5 at k5 s5 hd5 hL5⊢;have ha5:=s5 _ _ ha;have ev:valV (putK kvs (Sum.inl (i:Int)) (.int (qbx sp i:Nat))) (Sum.inl d.e)=some (.int (qcj sp d.e)):=by
     have lt:d.e=-1\/∃n:Nat,d.e=(n:Int)/\n<i/\(n:Int)∉sp:=wo i d ed hsp;rw[qgt,if_neg]
     ·exact inv _ lt
     ·intro z;have z:=Sum.inl.inj z;rcases lt with h | ⟨n,h,l2,_⟩<;>omega
    have dg:DGet H5 dd (.int d.e) (some (.int (qcj sp d.e))):=by
     have:=DGet.k (k:=Sum.inl d.e) hd5;rw[ev]at this;exact this
    refine⟨_,rfl,.inl ⟨rfl,_,SqL.of hL5⟩,_,rfl,_,rfl,a,_,_,_,rfl,rfl,SqT.of ha5,rfl,dd,_,rfl,dg,_,rfl,a,_,_,_,rfl,rfl,SqT.of ha5,rfl,_,rfl,a,_,_,_,rfl,rfl,SqT.of ha5,rfl,_,rfl,a,_,_,_,rfl,rfl,SqT.of ha5,rfl,_,rfl,a,_,_,_,rfl,rfl,SqT.of ha5,rfl,(by show 5<=sizeLine;decide),λu hu=>?_⟩;have k6:=qab hu (.tup [.int (qcj sp d.e),.str d.k.s,.str d.nm,.ref m',.ref s']);have s6:=s5.trans k6;have hL6:=k6 _ _ hL5;have hd6:=k6 _ _ hd5;refine⟨L,_,_,rfl,rfl,hL6,qaZ (by rw[qA];omega),?_⟩;have k7:KeepN (Nw (Nw N L) dd) (upd H5 u (.tup [.int (qcj sp d.e),.str d.k.s,.str d.nm,.ref m',.ref s'])) (upd (upd H5 u (.tup [.int (qcj sp d.e),.str d.k.s,.str d.nm,.ref m',.ref s'])) L (.lst (bs.map V.ref++[.ref u]))):=keep_nw.mono λb n=>n.1
    refine⟨_,_,_,bs++[u],rfl,qaE s6 hL,by rw[qac];simp,?_,by rw[qal (qgb hd6 hL6 (by intro z;cases z))];exact hd6,?_,λj hj=>?_⟩
    ·unfold qez;rw[qa3 ed,if_neg hsp];have kk:=((k4.keep (N:=Nw (Nw N L) dd)).trans k5).trans (k6.keep.trans k7);refine NdsAt.append (nds.keep kk λ_ n _=>n) (.cons ?_ .nil);obtain⟨_,m2,s2',ha2,nm,hm,st⟩:=nad.keep (N':=Nw (Nw N L) dd) (qaE (o:=.lst (bs.map V.ref++[.ref u])) s6 hL).keep old;have e2:upd (upd H5 u (.tup [.int (qcj sp d.e),.str d.k.s,.str d.nm,.ref m',.ref s'])) L (.lst (bs.map V.ref++[.ref u])) a=some (.tup [.int d.e,.str d.k.s,.str d.nm,.ref m',.ref s']):=qaE s6 hL _ _ ha;rw[e2]at ha2;cases ha2;refine⟨qcO (qcO (up u (s5.none hu)) hL5 hu) hd5 hu,m',s',?_,nm,hm,st⟩;rw[qal (qar hL5 hu).symm,qac]
    ·have:=qct kvs (Sum.inl (i:Int)) (.int (qbx sp i:Nat));omega
    ·rw[qgt]
     by_cases e:j=(i:Int)
     ·rw[if_pos (by rw[e])];subst e;unfold qcj;rw[if_neg (by omega),rP]
     ·rw[if_neg (λz=>e (Sum.inl.inj z))];refine inv j (hj.imp id ?_);rintro⟨n,e1,l2,nn⟩;exact⟨n,e1,by omega,nn⟩
  ·rintro σ' H' ⟨z1,z2,kvs,bs,rfl,s3,hL3,nds,_⟩;rw[qA,la]at nds;exact⟨_,rfl,q L H' hL s3 ⟨bs,hL3,nds.keep KeepN.refl λ_ n _=>n.1.1⟩⟩
theorem scMendNotes:FnScope ["nodes", "mended", "spare", "number", "node", "stuff", "held"] ["nodes"] (qai sMendNotes):=⟨rfl,rfl,rfl,by ac_rfl,rfl,by ac_rfl,by ac_rfl⟩
theorem ok_mended_notes{f C:Addr}{fd:FuncData}(F:Fun K "mended_notes" "mended_notes" sMendNotes f fd)(T:Bn mg)(NU:Nums mg)(F_may_hold:Fx P w K mg base CX0 1 "may_hold" ["elder_kind", "kind"] spMayX)(F_holds:Fx P w K mg base (CX1 P w) 1 "holds" ["book", "node"] (qdL C))(F_numbered_pieces:Fx P w K mg base CX0 1 "numbered_pieces" ["stuff", "notes"] spNumbered)(F_note_numbers:Fx P w K mg base CX0 1 "note_numbers" ["stuff"] spNotesA)(F_without_nodes:Fx P w K mg base CX0 1 "without_nodes" ["nodes", "spare"] spWithout):FnOk P w K mg base CX0 2 f fd ["nodes"] spMendNotes:=by
 refine F.ok scMendNotes (λvs H Q E h=>?_) (λcdv A outer s H vs Q E hr h=>?_)
 ·obtain⟨p,ds,N,rfl,_⟩:=h;rfl
 ·obtain⟨p,ds,N,rfl,⟨as,hp,nd⟩,up,ok,q⟩:=h;obtain⟨_,g_ELDER⟩:=NU.elder;obtain⟨_,g_KIND⟩:=NU.kind;obtain⟨_,g_NAME⟩:=NU.name;obtain⟨_,g_MARKS⟩:=NU.marks;obtain⟨_,g_STUFF⟩:=NU.stuff;have hr_may_hold:=hr;have hr_holds:=hr;have hr_numbered_pieces:=hr;have hr_note_numbers:=hr;have hr_without_nodes:=hr;refine⟨_,(qad (qaq (i:=1) scMendNotes.nd (by rfl) (by trivial) (qay pa_nil))
   (qad (qaq (i:=2) scMendNotes.nd (by rfl) (by trivial) (qay pa_nil))
   (qad (qbT rR (by rfl) (qeL (by rfl) T.enumerate (qaa (pv 0) pa_nil)) (qes (by rfl) (qaL (qas (i:=3) scMendNotes.nd (by rfl) (by trivial)) (qaL (qas (i:=4) scMendNotes.nd (by rfl) (by trivial)) pgs_nil)))
   (qad (qaq (i:=5) scMendNotes.nd (by rfl) (by trivial) (qan ix_tup (pv 4) (qak (v:=.int 4) (by rfl) g_STUFF ⟨_,rfl⟩) (λ_ _=>rfl)))
   (qad (qaH (qbk (qaB F_may_hold hr_may_hold (by rfl) qaA (qaa (qan ix_tup (pv 4) (qak (v:=.int 1) (by rfl) g_KIND ⟨_,rfl⟩) (λ_ _=>rfl)) (qaa qag pa_nil)))) (qad (qaq (i:=6) scMendNotes.nd (by rfl) (by trivial) (qaB F_holds hr_holds (by rfl) qhw (qaa (pv 0) (qaa (pv 3) pa_nil))))
   (qad (qaq (i:=5) scMendNotes.nd (by rfl) (by trivial) (qaB F_numbered_pieces hr_numbered_pieces (by rfl) qaA (qaa (pv 5) (qaa (qam call_len_seq (by rfl) T.len b_len (qaa (pv 6) pa_nil)) pa_nil))))
   (qae (qaC (qaV qH xW xX mt_extend (pv 2) (qaa (qbd sl_list (pv 6) (qbc (qam call_len_seq (by rfl) T.len b_len (qaa (qaB F_note_numbers hr_note_numbers (by rfl) qaA (qaa (pv 5) pa_nil)) pa_nil))) po_none) pa_nil)))))) pss_nil)
   (qae (qaC (qaV qH qJ qK mt_append (pv 1) (qaa (qaK (qaa (qan ix_tup (pv 4) (qak (v:=.int 0) (by rfl) g_ELDER ⟨_,rfl⟩) (λ_ _=>rfl)) (qaa (qan ix_tup (pv 4) (qak (v:=.int 1) (by rfl) g_KIND ⟨_,rfl⟩) (λ_ _=>rfl)) (qaa (qan ix_tup (pv 4) (qak (v:=.int 2) (by rfl) g_NAME ⟨_,rfl⟩) (λ_ _=>rfl)) (qaa (qan ix_tup (pv 4) (qak (v:=.int 3) (by rfl) g_MARKS ⟨_,rfl⟩) (λ_ _=>rfl)) (qaa (pv 5) pa_nil)))))) pa_nil)))))))
   (qae (qap (qaB F_without_nodes hr_without_nodes (by rfl) qaA (qaa (pv 1) (qaa (pv 2) pa_nil)))))))),?_⟩
  refine⟨by show 0<=sizeLine;decide,λL hL=>⟨by show 0<=sizeLine;decide,λS hS=>?_⟩⟩;have s1:=qab hL (.lst []);have hS0:H S=none:=s1.none hS;have s2:=s1.trans (qab hS (.lst []));have hL2:upd (upd H L (.lst [])) S (.lst []) L=some (.lst []):=by rw[qal (qar qac hS),qac]
  have hS2:upd (upd H L (.lst [])) S (.lst []) S=some (.lst []):=qac;have neLS:L≠S:=qar qac hS;generalize upd (upd H L (.lst [])) S (.lst [])=H2 at s2 hL2 hS2⊢;have old:∀b,N b->(H b).isSome=true->Nw (Nw N L) S b:=λb n e=>qdX hS0 b (qdX hL b n e) e
  have la:as.length=ds.length:=nd.length;have le:=ok.le;refine⟨_,rfl,p,rfl,⟨_,SqL.of (s2 _ _ hp)⟩,qd8 (xs:=as.map V.ref) (λi σ' H'=>∃z1 z2 z3 z4 bs,σ'=[some (.ref p),some (.ref L),some (.ref S),z1,z2,z3,z4]/\Same H H'/\H' L=some (.lst (bs.map V.ref))/\NdsAt (Nw (Nw N L) S) H' bs (atTo ds (λi d=>[noted ds i d]) i)/\H' S=some (.lst ((atTo ds (λi d=>qbm ds i d) i).map V.int))) ⟨none,none,none,none,[],rfl,s2,hL2,.nil,hS2⟩ ?_ ?_ ?_⟩
  ·rintro i σ' H' hi ⟨z1,z2,z3,z4,bs,rfl,s3,_⟩;exact SqL.of (s3 _ _ hp)
  ·rintro i x σ' H' t hx ht ⟨z1,z2,z3,z4,bs,rfl,s3,hL3,nds,hS3⟩;obtain⟨a,ea,rfl⟩:=qcH hx;obtain⟨d,ed,nad⟩:=nd.at ea;have hi':i<ds.length:=(qI.mp ed).1;obtain⟨fm,hk⟩:=ok.form d (qP ed);have k4:=qab ht (.tup [.int (i:Nat),.ref a]);have s4:=s3.trans k4;obtain⟨m',s',ha,nm',hm',st'⟩:=nad.ex;have lb:bs.length=i:=by rw[nds.length,qbP (by omega)]
   have upN:∀{H':Hp},Same H H'->(∃o,H' L=some o)->(∃o,H' S=some o)->Up0 (Nw (Nw N L) S) H':=λ{H'} sa hl hs b hb=>by
    obtain⟨o1,e1⟩:=hl;obtain⟨o2,e2⟩:=hs;exact qcO (qcO (up b (sa.none hb)) e1 hb) e2 hb
   refine⟨t,_,rfl,SqT.of qac,rfl,_,_,rfl,_,_,rfl,rfl,?_⟩;refine⟨_,rfl,a,_,_,_,rfl,rfl,SqT.of (s4 _ _ ha),rfl,?_⟩;dsimp only[qbu];refine qbf (λσ' H5=>∃s5 z,σ'=[some (.ref p),some (.ref L),some (.ref S),some (.int (i:Nat)),some (.ref a),some (.ref s5),z]/\Same H H5/\KeepN (Nw (Nw N L) S) H' H5/\H5 L=some (.lst (bs.map V.ref))/\H5 S=some (.lst ((atTo ds (λi d=>qbm ds i d) (i+1)).map V.int))/\StAt (Nw (Nw N L) S) H5 s5 (noted ds i d).st) (λD' kk=>?_) ?_
   ·refine⟨_,rfl,a,_,_,_,rfl,rfl,SqT.of (s4 _ _ ha),rfl,d.k,.note,rfl,hk,_,rfl,?_⟩;cases eb:mayHold d.k .note with
    | false =>
      refine iteF (kk _ _ ⟨s',_,rfl,s4,k4.keep,k4 _ _ hL3,?_,?_⟩)
      · rw[qa3 ed]
        unfold qbm
        rw[if_neg (by rw[eb];decide),qX]
        exact k4 _ _ hS3
      · unfold noted
        rw[if_neg (by rw[eb];decide)]
        exact st'.keep s4.keep old
    | true =>
      have fp:=qgg fm (by rcases qc6 eb with z | z<;>rw[z]<;>rfl)
      have kl:=qc7 ds i
      refine iteT ⟨_,rfl,_,rfl,p,i,ds,N,rfl,⟨as,s4 _ _ hp,nd.keep s4.keep λ_ n _=>n⟩,by omega,uQ (show((i:Int)).natAbs<1000 by omega) (by ac_rfl),.inr ⟨⟨by omega,by omega⟩,λh5 H5 hh5 s5 e5=>?_⟩⟩
      have s45:=s4.trans s5
      have hL5:=s5 _ _ (k4 _ _ hL3)
      have hS5:=s5 _ _ (k4 _ _ hS3)
      refine⟨_,rfl,_,rfl,h5,_,rfl,.inl (SqL.of e5),?_⟩
      rw[qA]
      refine⟨s',d.st,(kids ds i).length,Nw (Nw N L) S,rfl,st'.keep s45.keep old,upN s45 ⟨_,hL5⟩ ⟨_,hS5⟩,fp.1,fp.2,by omega,λs6 H6 hs6 k6 st6=>?_⟩
      have s46:=s45.trans k6
      refine⟨_,rfl,.inl ⟨rfl,_,SqL.of (k6 _ _ hS5)⟩,_,rfl,_,rfl,s6,_,_,rfl,st6,qho (by omega) fp.1,qfr fp.2,λl7 H7 hl7 k7 e7=>?_⟩
      refine⟨l7,_,rfl,.inl (SqL.of e7),_,rfl,h5,_,rfl,SqL.of (k7 _ _ (k6 _ _ e5)),λc8 hc8=>?_⟩
      rw[qA,qc3,<-vX]
      have k8:=qab hc8 (.lst (((qaX ds i ds.length).drop (qaw (qaG (kids ds i).length d.st)).length).map V.int))
      have s48:=(s46.trans k7).trans k8
      have hS8:=k8 _ _ (k7 _ _ (k6 _ _ hS5))
      have hL8:=k8 _ _ (k7 _ _ (k6 _ _ hL5))
      have ls:(atTo ds (λi d=>qbm ds i d) i).length<=60*i:=qbC (λi d=>by
        unfold qbm
        have:=qc7 ds i
        split
        · rw[rV];omega
        · exact rS _) i
      refine⟨S,c8,_,_,rfl,rfl,hS8,qac,?_,kk _ _ ⟨s6,_,rfl,qaE s48 hS0,?_,?_,?_,?_⟩⟩
      · rw[qA,qA,rV]
        have:(qaX ds i ds.length).length<=ds.length:=qb6 ds i ds.length
        exact qS (show _<=10000 by omega) (by decide)
      · exact(k4.keep.trans (s5.keep.trans (k6.keep.trans (k7.keep.trans k8.keep)))).trans keep_nw
      · rw[qal neLS];exact hL8
      · rw[qac,qa3 ed,qT]
        unfold qbm
        rw[if_pos eb]
        rfl
      · unfold noted
        rw[if_pos eb]
        exact st6.keep ((k7.trans k8).keep.trans keep_nw) λ_ n _=>n
   rintro σ5 H5 ⟨s5,z,rfl,s05,k5,hL5,hS5,st5⟩;have ha5:=s05 _ _ ha;refine⟨_,rfl,.inl ⟨rfl,_,SqL.of hL5⟩,_,rfl,a,_,_,_,rfl,rfl,SqT.of ha5,rfl,_,rfl,a,_,_,_,rfl,rfl,SqT.of ha5,rfl,_,rfl,a,_,_,_,rfl,rfl,SqT.of ha5,rfl,_,rfl,a,_,_,_,rfl,rfl,SqT.of ha5,rfl,_,rfl,(by show 5<=sizeLine;decide),λu hu=>?_⟩;have k6:=qab hu (.tup [.int d.e,.str d.k.s,.str d.nm,.ref m',.ref s5]);have s6:=s05.trans k6;have hL6:=k6 _ _ hL5;have k7:KeepN (Nw (Nw N L) S) (upd H5 u (.tup [.int d.e,.str d.k.s,.str d.nm,.ref m',.ref s5])) (upd (upd H5 u (.tup [.int d.e,.str d.k.s,.str d.nm,.ref m',.ref s5])) L (.lst (bs.map V.ref++[.ref u]))):=keep_nw.mono λb n=>n.1
   refine⟨L,_,_,rfl,rfl,hL6,qaZ (by rw[qA];omega),?_⟩;refine⟨_,_,_,_,bs++[u],rfl,qaE s6 hL,by rw[qac];simp,?_,by rw[qal neLS.symm];exact k6 _ _ hS5⟩;rw[qa3 ed];refine NdsAt.append (nds.keep (k5.trans (k6.keep.trans k7)) λ_ n _=>n) (.cons ?_ .nil);have nk:=qdf ds i d;have hm6:upd (upd H5 u (.tup [.int d.e,.str d.k.s,.str d.nm,.ref m',.ref s5])) L (.lst (bs.map V.ref++[.ref u])) m'=some (.lst (d.mks.map V.str)):=qaE s6 hL _ _ hm';refine⟨upN s05 ⟨_,hL5⟩ ⟨_,hS5⟩ u hu,m',s5,?_,old m' nm' (by rw[hm'];rfl),by rw[nk.2.2.2];exact hm6,st5.keep (k6.keep.trans k7) λ_ n _=>n⟩;rw[nk.1,nk.2.1,nk.2.2.1,qal (qar hL5 hu).symm,qac]
  ·rintro σ' H' ⟨z1,z2,z3,z4,bs,rfl,s3,hL3,nds,hS3⟩;rw[qA,la]at nds hS3;have ll:(qcE ds).length<=60:=by rw[qcZ];exact le
   refine⟨_,rfl,_,rfl,L,S,qcE ds,qba ds,N,rfl,⟨bs,hL3,nds.keep KeepN.refl λ_ n _=>n.1.1⟩,hS3,up.same s3,ll,qfF ok,λl H4 hl s4 B=>q l H4 (s3.none hl) (s3.trans s4) B⟩
theorem scNextKind:FnScope ["nodes", "number", "behind"] ["nodes", "number"] (qai sNextKind):=⟨rfl,rfl,rfl,by ac_rfl,rfl,by ac_rfl,by ac_rfl⟩
theorem ok_next_kind{f C:Addr}{fd:FuncData}(F:Fun K "next_kind" "next_kind" sNextKind f fd)(T:Bn mg)(NU:Nums mg)(F_holds:Fx P w K mg base (CX1 P w) 1 "holds" ["book", "node"] (qdL C)):FnOk P w K mg base CX0 2 f fd ["nodes", "number"] spNextKind:=by
 refine F.ok scNextKind (λvs H Q E h=>?_) (λcdv A outer s H vs Q E hr h=>?_)
 ·obtain⟨p,n,d,ds,N,rfl,_⟩:=h;rfl
 ·obtain⟨p,n,d,ds,N,rfl,⟨as,hp,nd⟩,le,ed,e0,e1,q⟩:=h;obtain⟨_,g_ELDER⟩:=NU.elder;obtain⟨_,g_KIND⟩:=NU.kind;have hr_holds:=hr;have ln:n<ds.length:=(qI.mp ed).1;obtain⟨a,ea,na⟩:=nd.get ed;obtain⟨m',s',ha,_⟩:=na.ex;refine⟨_,(qad (qbU (i:=2) (by rfl) scNextKind.nd (by rfl) (by trivial) (own:=["one"]) (ix:=[1]) (frees:=["number"]) (CompScope.frees (by rfl) (by ac_rfl) (by ac_rfl) (by ac_rfl) (by rfl) (by ac_rfl) (by first | exact qdZ (by rfl) | exact qeG (by rfl) (by rfl))) (qa1 (qaB F_holds hr_holds (by rfl) qhw (qaa (pv 0) (qaa (qan ix_tup (qan ix_list (pv 0) (pv 1) (λ_ _=>rfl)) (qak (v:=.int 0) (by rfl) g_ELDER ⟨_,rfl⟩) (λ_ _=>rfl)) pa_nil)))) (λcl C s2 H2 fp=>(qas (i:=0) (by show(["one", "number"]:List Str).Nodup;ac_rfl) (by rfl) (by trivial) (by trivial))) (λcl C s2 H2 fp=>(qbX (qah op_gt (pv 0) (pv 1) (qao _)))) (λcl C s2 H2 fp=>(pv 0)))
   (qae (qap (qcd (qah op_gt (qam call_len_seq (by rfl) T.len b_len (qaa (pv 2) pa_nil)) qaf (qao _)) (qan ix_tup (qan ix_list (pv 0) (qan ix_list (pv 2) qaf (λ_ _=>rfl)) (λ_ _=>rfl)) (qak (v:=.int 1) (by rfl) g_KIND ⟨_,rfl⟩) (λ_ _=>rfl)) qag)))),?_⟩
  refine⟨_,rfl,_,rfl,_,rfl,p,_,_,_,rfl,rfl,SqL.of hp,qa6 ea,a,_,_,_,rfl,rfl,SqT.of ha,rfl,p,d.e,ds,N,rfl,⟨as,hp,nd⟩,by omega,uQ (show(d.e).natAbs<1000 by omega) (by ac_rfl),.inr ⟨⟨e0,e1⟩,λl H1 hl s1 h1=>?_⟩⟩;have kl:(qaX ds d.e ds.length).length<=ds.length:=qb6 ds d.e ds.length;refine⟨l,rfl,⟨_,SqL.of h1⟩,qaM (xs:=(qaX ds d.e ds.length).map V.int) (λi ys σ' H'=>H'=H1/\ys=(((qaX ds d.e ds.length).take i).filter λj=>decide ((n:Int)<j)).map V.int/\∃z,σ'=[z,some (.int (n:Nat))]) (by rw[qA];exact qaZ (by omega)) ⟨rfl,rfl,none,rfl⟩ ?_ ?_ ?_⟩
  ·rintro i ys σ' H' hi ⟨rfl,rfl,_⟩;refine⟨SqL.of h1,?_⟩;rw[qA];exact qS (xL ..) (by rw[rK];omega)
  ·rintro i x ys σ' H' hx ⟨rfl,rfl,z,rfl⟩;rw[qR]at hx;cases e:(qaX ds d.e ds.length)[i]? with
   | none=>rw[e]at hx;cases hx
   | some j =>
     rw[e]at hx
     cases hx
     refine⟨_,rfl,_,rfl,_,_,rfl,rfl,_,rfl,?_⟩
     rw[rO,e,xB,xQ]
     by_cases hj:(n:Int)<j
     · rw[qC hj]
       exact iteT ⟨_,rfl,rfl,by simp[hj],_,rfl⟩
     · rw[qB hj]
       exact iteF ⟨rfl,by simp[hj],_,rfl⟩
  ·rintro ys σ' H' ⟨rfl,rfl,_⟩ D hD;rw[qA,rM];have s2:=s1.trans (qab hD (.lst (((qaX ds d.e ds.length).filter λj=>decide ((n:Int)<j)).map V.int)));refine⟨_,rfl,D,_,rfl,.inl (SqL.of qac),_,_,rfl,rfl,_,rfl,?_⟩;have q2:=q _ s2;unfold qaY kids at q2;cases ef:(qaX ds d.e ds.length).filter λj=>decide ((n:Int)<j)with
   | nil =>
     rw[ef]at q2
     exact iteF q2
   | cons j r =>
     rw[ef]at q2
     have hj:j∈kids ds d.e:=(xA.mp (show j∈(qaX ds d.e ds.length).filter _ by rw[ef];exact qM)).1
     obtain⟨jn,dj,rfl,ej,_⟩:=qed hj
     obtain⟨b,eb,nb⟩:=nd.get ej
     obtain⟨m2,s2',hb,_⟩:=nb.ex
     rw[ef]at s2
     rw[qC (by simp:(0:Int)<(((((jn:Int)::r).map V.int).length:Nat):Int))]
     refine iteT ⟨_,rfl,_,rfl,D,_,_,_,rfl,rfl,SqL.of qac,(qbL (j:=0) rfl),p,_,_,_,rfl,rfl,SqL.of (s2 _ _ hp),qa6 eb,b,_,_,_,rfl,rfl,SqT.of (s2 _ _ hb),rfl,?_⟩
     dsimp only at q2
     rw[show qc8 ds ((jn:Int)).toNat=dj.k by unfold qc8;rw[rP,ej]]at q2
     exact q2
theorem scWants:FnScope ["nodes", "number", "kind"] ["nodes", "number"] (qai sWants):=⟨rfl,rfl,rfl,by ac_rfl,rfl,by ac_rfl,by ac_rfl⟩
theorem ok_wants_case{f C:Addr}{fd:FuncData}(F:Fun K "wants_case" "wants_case" sWants f fd)(T:Bn mg)(NU:Nums mg)(F_holds:Fx P w K mg base (CX1 P w) 1 "holds" ["book", "node"] (qdL C))(F_next_kind:Fx P w K mg base CX0 2 "next_kind" ["nodes", "number"] spNextKind):FnOk P w K mg base CX0 3 f fd ["nodes", "number"] spWants:=by
 refine F.ok scWants (λvs H Q E h=>?_) (λcdv A outer s H vs Q E hr h=>?_)
 ·obtain⟨p,n,d,ds,N,rfl,_⟩:=h;rfl
 ·obtain⟨p,n,d,ds,N,rfl,⟨as,hp,nd⟩,le,ed,ao,q⟩:=h;obtain⟨_,g_KIND⟩:=NU.kind;have hr_holds:Room 1 _:=hr.mono (by decide);have hr_next_kind:=hr;have ln:n<ds.length:=(qI.mp ed).1;obtain⟨a,ea,na⟩:=nd.get ed;obtain⟨m',s',ha,_⟩:=na.ex;refine⟨_,(qad (qaq (i:=2) scWants.nd (by rfl) (by trivial) (qan ix_tup (qan ix_list (pv 0) (pv 1) (λ_ _=>rfl)) (qak (v:=.int 1) (by rfl) g_KIND ⟨_,rfl⟩) (λ_ _=>rfl)))
   (qad (qaH (PW.pt (qcb (qah op_eq (pv 2) qag (qao _)) (qbD (qah op_ne (qaB F_next_kind hr_next_kind (by rfl) qaA (qaa (pv 0) (qaa (pv 1) pa_nil))) qag (qao _))))) (qae (qap qeN)) pss_nil)
   (qae (qap (qdr (qa2 op_in_seq (pv 2) (qaK (qaa qag (qaa qag (qaa qag pa_nil)))) (by with_unfolding_all rfl)) (qdb (qa2 op_eq (qam call_len_seq (by rfl) T.len b_len (qaa (qaB F_holds hr_holds (by rfl) qhw (qaa (pv 0) (qaa (pv 1) pa_nil))) pa_nil)) qaf (qao _)))))))),?_⟩
  refine⟨_,rfl,_,rfl,p,_,_,_,rfl,rfl,SqL.of hp,qa6 ea,a,_,_,_,rfl,rfl,SqT.of ha,rfl,?_⟩;dsimp only[qbu];refine qau (λσ' H'=>σ'=[some (.ref p),some (.int (n:Nat)),some (.str d.k.s)]/\Same H H'/\(decide (d.k=.aside) && decide (qaY ds n d≠.text))=false) (λN0 kk=>?_) ?_
  ·refine⟨_,rfl,rfl,_,rfl,?_⟩;rw[show decide (V.str d.k.s=V.str (Str.ofString "aside"))=decide (d.k=.aside)from kdt d.k .aside]
   by_cases hk:d.k=.aside
   ·rw[qC hk];obtain⟨e0,e1⟩:=ao d (qP ed) hk;refine iteT ⟨_,rfl,_,rfl,p,n,d,ds,N,rfl,⟨as,hp,nd⟩,le,ed,e0,e1,λH2 s2=>⟨rfl,_,rfl,?_⟩⟩;rw[show decide (V.str (qaY ds n d).s=V.str (Str.ofString "text"))=decide (qaY ds n d=.text)from kdt _ .text]
    by_cases ht:qaY ds n d=.text
    ·rw[qC ht];exact iteF (kk _ _ ⟨rfl,s2,by rw[ht];simp⟩)
    ·rw[qB ht];refine iteT ?_;have:=q H2 s2;unfold qaD at this;rw[qC hk,qC ht]at this;exact this
   ·rw[qB hk];exact iteF (iteF (kk _ _ ⟨rfl,Same.refl H,by rw[qB hk];rfl⟩))
  rintro _ H1 ⟨rfl,s1,e1⟩;have q1:∀H',Same H H'->Q (.bl (decide (d.k∈[Kd.aside,.shelf,.grid]) && decide (kids ds n=[]))) H':=λH' s=>by
   have:=q H' s;unfold qaD at this;rw[e1,uT]at this;exact this
  refine⟨_,rfl,(by show 3<=sizeLine;decide),λt ht=>⟨t,_,rfl,.inr (SqT.of qac),rfl,rfl,_,rfl,?_⟩⟩;rw[if_neg qF,show inV (V.str d.k.s) [V.str (Str.ofString "aside"),V.str (Str.ofString "shelf"),V.str (Str.ofString "grid")]=decide (d.k∈[Kd.aside,.shelf,.grid])from qbl d.k [Kd.aside,.shelf,.grid]];have s2:=s1.trans (qab ht (.tup [.str (Str.ofString "aside"),.str (Str.ofString "shelf"),.str (Str.ofString "grid")]))
  by_cases hk:d.k∈[Kd.aside,.shelf,.grid]
  ·rw[qC hk];refine iteT ⟨_,rfl,_,rfl,p,n,ds,N,rfl,⟨as,s2 _ _ hp,nd.keep s2.keep λ_ n _=>n⟩,by omega,uQ (show((n:Int)).natAbs<1000 by omega) (by ac_rfl),.inr ⟨⟨by omega,by omega⟩,λl H3 hl s3 h3=>?_⟩⟩;refine⟨l,_,rfl,.inl (SqL.of h3),rfl,?_⟩;have:=q1 H3 (s2.trans s3);rw[qC hk,xG]at this;rw[qA];have e:decide (V.int ((qaX ds n ds.length).length:Nat)=V.int 0)=decide (kids ds n=[]):=by
    unfold kids;rw[r9,rA,rA];constructor
    ·intro z;have:=V.int.inj z;exact qO (by omega)
    ·intro z;rw[z];rfl
   rw[e];exact this
  ·rw[qB hk];have:=q1 _ s2;rw[qB hk]at this;exact iteF this
theorem scMendKinds:FnScope ["nodes", "mended", "number", "node", "kind"] ["nodes"] (qai sMendKinds):=⟨rfl,rfl,rfl,by ac_rfl,rfl,by ac_rfl,by ac_rfl⟩
theorem ok_mended_kinds{f:Addr}{fd:FuncData}(F:Fun K "mended_kinds" "mended_kinds" sMendKinds f fd)(T:Bn mg)(NU:Nums mg)(F_wants_case:Fx P w K mg base CX0 3 "wants_case" ["nodes", "number"] spWants):FnOk P w K mg base CX0 4 f fd ["nodes"] spMendKinds:=by
 refine F.ok scMendKinds (λvs H Q E h=>?_) (λcdv A outer s H vs Q E hr h=>?_)
 ·obtain⟨p,ds,N,rfl,_⟩:=h;rfl
 ·obtain⟨p,ds,N,rfl,⟨as,hp,nd⟩,up,le,ao,q⟩:=h;obtain⟨_,g_ELDER⟩:=NU.elder;obtain⟨_,g_KIND⟩:=NU.kind;obtain⟨_,g_NAME⟩:=NU.name;obtain⟨_,g_MARKS⟩:=NU.marks;obtain⟨_,g_STUFF⟩:=NU.stuff;have hr_wants_case:=hr;refine⟨_,(qad (qaq (i:=1) scMendKinds.nd (by rfl) (by trivial) (qay pa_nil))
   (qad (qbT rR (by rfl) (qeL (by rfl) T.enumerate (qaa (pv 0) pa_nil)) (qes (by rfl) (qaL (qas (i:=2) scMendKinds.nd (by rfl) (by trivial)) (qaL (qas (i:=3) scMendKinds.nd (by rfl) (by trivial)) pgs_nil)))
   (qad (qaq (i:=4) scMendKinds.nd (by rfl) (by trivial) (qcd (qbk (qaB F_wants_case hr_wants_case (by rfl) qaA (qaa (pv 0) (qaa (pv 2) pa_nil)))) qag (qan ix_tup (pv 3) (qak (v:=.int 1) (by rfl) g_KIND ⟨_,rfl⟩) (λ_ _=>rfl))))
   (qae (qaC (qaV qH qJ qK mt_append (pv 1) (qaa (qaK (qaa (qan ix_tup (pv 3) (qak (v:=.int 0) (by rfl) g_ELDER ⟨_,rfl⟩) (λ_ _=>rfl)) (qaa (pv 4) (qaa (qan ix_tup (pv 3) (qak (v:=.int 2) (by rfl) g_NAME ⟨_,rfl⟩) (λ_ _=>rfl)) (qaa (qan ix_tup (pv 3) (qak (v:=.int 3) (by rfl) g_MARKS ⟨_,rfl⟩) (λ_ _=>rfl)) (qaa (qan ix_tup (pv 3) (qak (v:=.int 4) (by rfl) g_STUFF ⟨_,rfl⟩) (λ_ _=>rfl)) pa_nil)))))) pa_nil))))))
   (qae (qap (pv 1))))),?_⟩
  refine⟨by show 0<=sizeLine;decide,λL hL=>?_⟩;have s2:=qab hL (.lst []);have la:as.length=ds.length:=nd.length;have old:∀b,N b->(H b).isSome=true->Nw N L b:=qdX hL;refine⟨_,rfl,p,rfl,⟨_,SqL.of (s2 _ _ hp)⟩,qd8 (xs:=as.map V.ref) (λi σ' H'=>∃z1 z2 z3 bs,σ'=[some (.ref p),some (.ref L),z1,z2,z3]/\Same H H'/\H' L=some (.lst (bs.map V.ref))/\NdsAt (Nw N L) H' bs (atTo ds (λi d=>[{d with k:=if qaD ds i d then .case else d.k}]) i)) ⟨none,none,none,[],rfl,s2,qac,.nil⟩ ?_ ?_ ?_⟩
  ·rintro i σ' H' hi ⟨z1,z2,z3,bs,rfl,s3,_⟩;exact SqL.of (s3 _ _ hp)
  ·rintro i x σ' H' t hx ht ⟨z1,z2,z3,bs,rfl,s3,hL3,nds⟩;obtain⟨a,ea,rfl⟩:=qcH hx;obtain⟨d,ed,nad⟩:=nd.at ea;have hi':i<ds.length:=(qI.mp ed).1;have k4:=qab ht (.tup [.int (i:Nat),.ref a]);have s4:=s3.trans k4;obtain⟨m',s',ha,nm',hm',st'⟩:=nad.ex;have lb:bs.length=i:=by rw[nds.length,qbP (by omega)]
   refine⟨t,_,rfl,SqT.of qac,rfl,_,_,rfl,_,_,rfl,rfl,?_⟩;refine qbf (λσ' H5=>σ'=[some (.ref p),some (.ref L),some (.int (i:Nat)),some (.ref a),some (.str (if qaD ds i d then Kd.case else d.k).s)]/\Same (upd H' t (.tup [.int (i:Nat),.ref a])) H5) (λD' kk=>?_) ?_
   ·refine⟨_,rfl,_,rfl,p,i,d,ds,N,rfl,⟨as,s4 _ _ hp,nd.keep s4.keep λ_ n _=>n⟩,le,ed,ao,λH5 s5=>⟨_,rfl,?_⟩⟩;cases eb:qaD ds i d with
    | true=>exact iteT (kk _ _ ⟨by rw[eb];rfl,s5⟩)
    | false=>exact iteF ⟨_,rfl,a,_,_,_,rfl,rfl,SqT.of (s5 _ _ (s4 _ _ ha)),rfl,kk _ _ ⟨by rw[eb];rfl,s5⟩⟩
   rintro _ H5 ⟨rfl,s5⟩;have s05:=s4.trans s5;have ha5:=s05 _ _ ha;have hL5:=s5 _ _ (k4 _ _ hL3);refine⟨_,rfl,.inl ⟨rfl,_,SqL.of hL5⟩,_,rfl,a,_,_,_,rfl,rfl,SqT.of ha5,rfl,_,rfl,_,rfl,a,_,_,_,rfl,rfl,SqT.of ha5,rfl,_,rfl,a,_,_,_,rfl,rfl,SqT.of ha5,rfl,_,rfl,a,_,_,_,rfl,rfl,SqT.of ha5,rfl,(by show 5<=sizeLine;decide),λu hu=>?_⟩;have k6:=qab hu (.tup [.int d.e,.str (if qaD ds i d then Kd.case else d.k).s,.str d.nm,.ref m',.ref s']);have s6:=s05.trans k6;have hL6:=k6 _ _ hL5;refine⟨L,_,_,rfl,rfl,hL6,qaZ (by rw[qA];omega),?_⟩;refine⟨_,_,_,bs++[u],rfl,qaE s6 hL,by rw[qac];simp,?_⟩;rw[qa3 ed];refine NdsAt.append (nds.keep (k4.keep.trans (s5.keep.trans (k6.keep.trans keep_nw))) λ_ n _=>n) (.cons ?_ .nil);refine⟨qcO (up u (s05.none hu)) hL5 hu,m',s',?_,old m' nm' (by rw[hm'];rfl),qaE s6 hL _ _ hm',st'.keep (qaE s6 hL).keep old⟩;rw[qal (qar hL5 hu).symm,qac]
  ·rintro σ' H' ⟨z1,z2,z3,bs,rfl,s3,hL3,nds⟩;rw[qA,la]at nds;exact⟨_,rfl,q L H' hL s3 ⟨bs,hL3,nds⟩⟩
end
end K09
namespace Gen
open PySem L2 Bk
open Classical in
noncomputable def insS(x:Str):List Str->List Str
 | []=>[x]
 | y::r=>if x.cps.toList<y.cps.toList then x::y::r else y::insS x r
theorem qeg(x:Str):∀l,(insS x l).Perm (x::l)
 | []=>.refl _
 | y :: r => by
   rw[insS]
   split
   · exact .refl _
   · exact((qeg x r).cons y).trans (.swap x y r)
theorem qf4{x:Str}:∀{l:List Str},Rise l->x∉l->Rise (insS x l)
 | [],_,_=>List.pairwise_singleton _ _
 | y :: r, h, n => by
   have h':=List.pairwise_cons.mp h
   rw[insS]
   split
   · rename_i lt
     exact List.pairwise_cons.mpr ⟨λz hz=>by
       rcases qV.mp hz with rfl | hz
       · exact lt
       · exact List.lt_trans lt (h'.1 z hz),h⟩
   · rename_i nl
     refine List.pairwise_cons.mpr ⟨λz hz=>?_,qf4 h'.2 λm=>n (qQ _ m)⟩
     rcases qV.mp ((qeg x r).subset hz)with rfl | hz
     · by_cases q:y.cps.toList<z.cps.toList
       · exact q
       · exact absurd (qhK (List.le_antisymm (vV.mp nl) (vV.mp q))) (λe=>n (by rw[e];exact qM))
     · exact h'.1 z hz
theorem sort_ex:∀{l:List Str},l.Nodup->∃ss:List Str,ss.Perm l/\Rise ss
 | [],_=>⟨[],.refl _,List.Pairwise.nil⟩
 | x :: r, h => by
   have h':=xI.mp h
   obtain⟨ss,p,q⟩:=sort_ex h'.2
   exact⟨insS x ss,(qeg x ss).trans (p.cons x),qf4 q λm=>h'.1 (p.subset m)⟩
theorem marks_ex(mks:List Str):MarksOf mks (qav mks):=by
 obtain⟨ss,p,r⟩:=sort_ex (qfi mks);have:MarksOf mks (ss.take 4):=⟨ss,p,r,rfl⟩;rw[qcB this];exact this
theorem qdK{mks:List Str}(h:∀m∈mks,Name m):qiK (qav mks):=by
 obtain⟨ss,p,r,e⟩:=marks_ex mks;rw[e];refine⟨by rw[rK];omega,λm hm=>h m ((once_mem mks m).mp (p.subset (uA hm))),r.sublist (List.take_sublist ..)⟩
theorem mendName_form{ds:List Nd}{nm:Str}(h:nm=noName\/Name nm):qaF ds nm=noName\/Name (qaF ds nm):=by
 unfold qaF
 split
 ·exact .inl rfl
 ·exact h
theorem bare_ok:qcX bareSt:=by
 refine⟨λx hx=>?_,⟨_,_,rfl,rfl⟩,by decide⟩;have:x=.tri .word (.inl (T "?")) 0:=by simpa[bareSt]using hx
 subst this;exact⟨⟨by ac_rfl,by ac_rfl,by ac_rfl⟩,by decide,by decide⟩
theorem qfm{k:Kd}{st:List Th}(h:∀x∈st,PcOk x):∀x∈qaj k st,PcOk x:=λx hx=>by
 unfold qaj at hx;have hx:=uA hx
 split at hx
 ·exact h x (xA.mp hx).1
 ·exact h x ((uZ _).subset hx)
theorem mendP_ok{k:Kd}{st:List Th}(h:∀x∈st,PcOk x)(ne:qaj k st≠[]):qcX (qaj k st):=by
 refine⟨qfm h,?_,by unfold qaj;rw[rK];omega⟩;cases e:qaj k st with
 | nil=>exact absurd e ne
 | cons x r =>
   refine⟨x,r,rfl,?_⟩
   unfold qaj at e
   cases e2:(if k=.note then st.filter (λx=>!isNote x)else st.dropWhile isNote)with
   | nil=>rw[e2]at e;cases e
   | cons y r2 =>
     rw[e2]at e
     have:y=x:=by
       rw[List.take_succ_cons]at e
       exact(List.cons.inj e).1
     subst this
     split at e2
     · have hy:y∈st.filter (λx=>!isNote x):=by rw[e2];exact qM
       simpa using(xA.mp hy).2
     · have:=List.head?_dropWhile_not isNote st
       rw[e2]at this
       simpa using this
theorem newSt_form{k:Kd}{st:List Th}(pc:ofPieces k=true->∀x∈st,PcOk x)(o:ofPieces k=false->Stuff k st):Stuff k (qdg k st):=by
 unfold qdg;cases e:ofPieces k with
 | false=>exact o e
 | true =>
   rw[if_pos rfl]
   have hk:k∈[Kd.text,.head,.note]:=by cases k<;>first | (cases e;done) | decide
   refine(qcA hk).mp ?_
   split
   · exact bare_ok
   · rename_i ne
     exact mendP_ok (pc e) ne
theorem qeq{ds:List Nd}{e:Int}{d:Nd}(h:PartsOk d):Form (qbK ds e d)/\(qbK ds e d).k∈kindsAll :=
 ⟨⟨mendName_form h.nm,qdK h.mks.1,newSt_form (λz=>(h.pc z).1) h.st⟩,h.k⟩
theorem qgv{c:Nat}{x:Str}(h:labB c x=true):Name (tl1 x):=by
 unfold labB at h;rw[rH]at h;exact nameB_iff.mp h.2
theorem nameLab_form(ls:List Str):qbV ls=noName\/Name (qbV ls):=by
 unfold qbV;cases ls with
 | nil=>exact .inl rfl
 | cons x r =>
   cases e:qbO (x::r)with
   | false=>exact .inl rfl
   | true=>exact .inr (qgv e)
theorem markLabs_form(ls:List Str):(∀m∈qbo ls,Name m)/\(qbo ls).length<=ls.length:=by
 unfold qbo;refine⟨λm hm=>?_,by rw[qA];exact xL ..⟩;obtain⟨x,hx,rfl⟩:=rG.mp hm;exact qgv (xA.mp hx).2
theorem readPiece_pc{x:Str}{t:Th}(h:qaI x=some t):PcOk t:=by
 unfold qaI at h
 by_cases e:x=T "{}"
 ·rw[if_pos e]at h;cases h;exact⟨by decide,by decide,rfl⟩
 ·rw[if_neg e]at h
  by_cases e2:pieceB (qbW x)=true
  ·rw[if_pos e2]at h;cases h;exact pieceB_iff.mp e2
  ·rw[if_neg e2]at h;cases h
theorem qde{x:Str}{d:Nd}(ok:RowOk x)(h:qbB x=some d):PartsOk d:=by
 unfold qbB at h;cases ek:kindOf ((qbg x).headD noName)with
 | none=>rw[ek]at h;cases h
 | some k =>
   rw[ek]at h
   dsimp only at h
   have hk:=(qdj ek).2
   split at h
   · cases h
   cases es:qbb k (qck (qbg x))with
   | none=>rw[es]at h;cases h
   | some st =>
     rw[es]at h
     cases h
     have ml:=markLabs_form (qbG (qbg x))
     have lab:=ok.labs
     have rl:(qck (qbg x)).length<=500:=by
       have:=ok.ws.2
       unfold qck
       rw[rV]
       omega
     have ll:qcC x<=100000:=by
       have h1:=ok.len
       have h2:qcC x<=x.cps.toList.length:=(List.takeWhile_prefix _).length_le
       rw[qbM]at h2
       omega
     refine⟨hk,⟨by show(0:Int)<=(qcC x:Nat);omega,by show((qcC x:Nat):Int)<=100000;omega⟩,nameLab_form _,⟨ml.1,by show(qbo _).length<=60;omega⟩,λhp=>?_,λhp=>?_⟩
     · unfold qbb at es
       by_cases kp:k=.picture
       · rw[kp]at hp;cases hp
       rw[if_neg kp]at es
       split at es
       · cases es
       · cases es
         refine⟨λt ht=>?_,qS (List.length_filterMap_le ..) rl⟩
         obtain⟨y,_,ey⟩:=yX.mp ht
         exact readPiece_pc ey
     · show Stuff k st
       unfold qbb at es
       by_cases kp:k=.picture
       · rw[if_pos kp]at es
         subst kp
         split at es
         · cases es;assumption
         · cases es
       rw[if_neg kp]at es
       split at es
       · cases es
       · rename_i z
         cases es
         have hs:qaS k=false:=by
           unfold qaS
           have hp:ofPieces k=false:=hp
           cases k<;>first | exact absurd rfl kp | rfl | cases hp
         rw[hs,wC,not_or]at z
         have z2:¬0<(qck (qbg x)).length:=by
           intro q
           exact z.2 (by rw[qC q];rfl)
         have e0:qck (qbg x)=[]:=qO (by omega)
         rw[e0]
         have hp:ofPieces k=false:=hp
         cases k<;>first | exact absurd rfl kp | rfl | cases hp
theorem qgr{ok:Nat->Bool}:∀{n:Nat},qdQ ok n≠0->ok (qdQ ok n)=true/\qdQ ok n<=n
 | 0,h=>absurd rfl h
 | n + 1, h => by
   cases e:ok (n+1)with
   | true=>rw[qdJ e];exact⟨e,qN _⟩
   | false =>
     rw[qdD e]at h⊢
     obtain⟨a,b⟩:=qgr h
     exact⟨a,by omega⟩
theorem qeJ{ds:List Nd}{k:Kd}{lv:Nat}(h:qaU ds k lv≠0):1<=qaU ds k lv/\qaU ds k lv<=6/\qaU ds k lv<=(upL ds).length/\(upL ds)[(upL ds).length-qaU ds k lv]?=some (qb8 ds (qaU ds k lv))/\mayHold (qc8 ds (qb8 ds (qaU ds k lv))) k=true:=by
 have hh:qaU ds k lv=qdQ (okLv ds k) (min (max lv 1) 6):=rfl;obtain⟨a,b⟩:=qgr (ok:=okLv ds k) (n:=min (max lv 1) 6) h;rw[<-hh]at a b;generalize qaU ds k lv=t at *;unfold okLv at a;rw[rH,rA]at a;obtain⟨a1,a2⟩:=a;have lp:(qbi ds).length=(upL ds).length:=by unfold qbi;rw[vG]
 refine⟨by omega,by omega,by omega,?_,a2⟩;unfold qb8 qbi;rw[xF,u4 (by omega),show(upL ds).length-1-(t-1)=(upL ds).length-t by omega,qG (by omega)];rfl
theorem qeA{α:Type}{l:List α}{n:Nat}{a:α}(h:l[n]?=some a):l.drop n=a::l.drop (n+1):=by
 obtain⟨hn,e⟩:=qI.mp h;rw[uS hn,e]
theorem qeV{ds:List Nd}(ok:NodesOk ds)(ne:ds≠[])(l59:ds.length<=59){c:Nd}{t:Nat}(h1:1<=t)(ht:t<=(upL ds).length){j:Nat}(hj:(upL ds)[(upL ds).length-t]?=some j)(may:mayHold (qc8 ds j) c.k=true)(ce:c.e=(j:Int))(cf:Form c/\c.k∈kindsAll) :
  NodesOk (ds++[c])/\upL (ds++[c])=ds.length::(upL ds).drop ((upL ds).length-t):=by
 obtain⟨dn,hd⟩:=ok.down ne;have lt:(upL ds).length-t<(upL ds).length:=by omega
 have dj:=dn.drop lt;rw[qeA hj]at dj;obtain⟨dd,ed⟩:=dn.mem j (qP hj);have jl:j<ds.length:=(qI.mp ed).1;have D:Down (ds++[c]) (ds.length::j::(upL ds).drop ((upL ds).length-t+1)):=⟨⟨c,by rw[rT (qN _)];simp,ce,jl⟩,dj.app [c]⟩;have ul:upL (ds++[c])=ds.length::(upL ds).drop ((upL ds).length-t):=by
  unfold upL;rw[qD,xU,Nat.add_sub_cancel];have:=D.len;rw[Down.is D (by omega)];rw[show qdW ds ds.length (ds.length-1)=upL ds from rfl,qeA hj]
 have km:mayHold dd.k c.k=true:=by
  unfold qc8 at may;rw[ed]at may;exact may
 refine⟨⟨λd hd=>?_,λ_=>?_,by rw[qD];exact u5 l59,λn d h=>?_⟩,ul⟩
 ·rcases qY.mp hd with h | h
  ·exact ok.form d h
  ·have:d=c:=by simpa using h
   rw[this];exact cf
 ·rw[ul,qeA hj];exact⟨D,by simp⟩
 ·by_cases hn:n<ds.length
  ·rw[rQ hn]at h;rcases ok.hung n d h with z | ⟨a,i,c',e1,e2,e3,e4⟩
   ·exact .inl z
   ·exact .inr ⟨a,i,c',e1,e2,by rw[rQ (by omega)];exact e3,e4⟩
  ·rw[rT (by omega)]at h;have hz:n-ds.length=0:=by
    have:=(qI.mp h).1;simp at this;omega
   rw[hz]at h;cases h;have g1:1<=ds.length:=by omega
   exact .inr ⟨by omega,j,dd,ce,by omega,by rw[rQ jl];exact ed,km⟩
theorem up1(c:Nd)(h:c.e=-1):upL [c]=[0]:=by
 unfold upL;show qdW [c] 1 0=[0];rw[qdW];simp[h]
theorem qfH{c:Nd}(e:c.e=-1)(k:c.k=.body)(f:Form c):NodesOk [c]:=by
 refine⟨λd hd=>?_,λ_=>?_,by simp,λn d h=>?_⟩
 ·have:d=c:=by simpa using hd
  subst this;exact⟨f,by rw[k];decide⟩
 ·rw[up1 c e];exact⟨⟨c,rfl,e⟩,rfl⟩
 ·cases n with
  | zero=>cases h;exact .inl ⟨rfl,e,k⟩
  | succ n=>cases h
theorem nodes_nil:NodesOk []:=⟨(λd hd=>nomatch hd),(λh=>absurd rfl h),by decide,(λn d h=>by cases h)⟩
theorem nodes_body:NodesOk [bodyNd]:=qfH rfl rfl body_form
theorem qd2{ds:List Nd}(ok:NodesOk ds)(ne:ds≠[])(l59:ds.length<=59){d:Nd}(pd:PartsOk d):NodesOk (ds++(qax ds d).1)/\(qax ds d).1.length<=1:=by
 unfold qax
 split
 ·rw[qX];exact⟨ok,by decide⟩
 ·rename_i h;obtain⟨a1,_,a3,a4,a5⟩:=qeJ h;exact⟨(qeV ok ne l59 a1 a3 a4 (c:=qbK ds (qb8 ds (qaU ds d.k d.e.toNat)) d) a5 rfl (qeq pd)).1,by show 1<=1;decide⟩
theorem qdO{d:Nd}(h:PartsOk d)(k:d.k=.body):PartsOk {d with k:=.case}:=by
 have st:=h.st (by rw[k];rfl);rw[k]at st;exact⟨by show Kd.case∈kindsAll;decide,h.e,h.nm,h.mks,(λz=>by cases z),λ_=>st⟩
theorem first_ok{d:Nd}(pd:PartsOk d):NodesOk (qbe d).1/\(qbe d).1.length<=2:=by
 unfold qbe
 split
 ·rename_i k;exact⟨qfH rfl k (qeq pd).1,by show 1<=2;decide⟩
 ·obtain⟨a,b⟩:=qd2 nodes_body (by simp) (by decide) pd;exact⟨a,by show(qax [bodyNd] d).1.length+1<=2;omega⟩
theorem qhb{ds:List Nd}{x:Str}(ok:NodesOk ds)(rx:RowOk x):NodesOk (ds++(qbp ds x).1):=by
 unfold qbp;cases e:qbB x with
 | none=>rw[qX];exact ok
 | some d =>
   have pd:=qde rx e
   dsimp only
   split
   · rw[qX];exact ok
   · split
     · rename_i h
       subst h
       exact(first_ok pd).1
     · rename_i h1 h2
       split
       · rename_i k
         exact(qd2 ok h2 (by omega) (qdO pd k)).1
       · exact(qd2 ok h2 (by omega) pd).1
theorem qg4{rows:List Str}(h:∀x∈rows,RowOk x):∀i,NodesOk (rdTo rows i).1
 | 0=>nodes_nil
 | i + 1 => by
   rw[rdTo]
   cases e:rows[i]? with
   | none=>exact qg4 h i
   | some x=>exact qhb (qg4 h i) (h x (qP e))
theorem qdk{ds:List Nd}(ok:NodesOk ds):NodesOk (begun ds)/\begun ds≠[]:=by
 unfold begun
 split
 ·exact⟨nodes_body,by simp⟩
 ·rename_i h;exact⟨ok,h⟩
theorem qgy(sp:List Int):∀{i j:Nat},i<=j->qbx sp i<=qbx sp j
 | i, 0, h => by have : i = 0 := by omega
                 rw[this];exact qN _
 | i, j + 1, h => by
   by_cases e:i=j+1
   · rw[e];exact qN _
   · have:=qgy sp (i:=i) (j:=j) (by omega)
     rw[qbx]
     split<;>omega
theorem qha{sp:List Int}{j n:Nat}(h:(j:Int)∉sp)(lt:j<n):qbx sp j<qbx sp n:=by
 have h1:=qgy sp (i:=j+1) (j:=n) lt;rw[qbx,if_neg h]at h1;omega
theorem qfg{ds:List Nd}:(qat ds).length=qbx (qba ds) ds.length:=by
 unfold qat;rw[qeF _ _ (qN _),qcZ]
theorem qgk(ds:List Nd):(qat ds).length<=ds.length:=by rw[qfg];exact qdv ..
theorem qgO{ds:List Nd}{c:Nd}(h:c∈qat ds):∃(n:Nat) (d:Nd),ds[n]?=some d/\(n:Int)∉qba ds/\c={noted ds n d with e:=qcj (qba ds) d.e}:=by
 unfold qat qez at h;obtain⟨n,d',hn,ed,hc⟩:=qcv h;rw[qcZ]at hn;rw[qcQ hn]at ed;cases e:ds[n]? with
 | none=>rw[e]at ed;cases ed
 | some d =>
   rw[e]at ed
   cases ed
   refine⟨n,d,e,?_⟩
   by_cases hs:(n:Int)∈qba ds
   · rw[if_pos hs]at hc;cases hc
   · rw[if_neg hs]at hc
     refine⟨hs,?_⟩
     have:c={noted ds n d with e:=qcj (qba ds) (noted ds n d).e}:=by simpa using hc
     rw[this,(qdf ds n d).1]
theorem mend_as{ds:List Nd}(ok:NodesOk ds):AsOk (qat ds):=by
 intro c hc hk;obtain⟨n,d,ed,hs,rfl⟩:=qgO hc;have hk:(noted ds n d).k=.aside:=hk;rw[(qdf ds n d).2.1]at hk;have ln:n<ds.length:=(qI.mp ed).1;rcases ok.hung n d ed with⟨_,_,z⟩ | ⟨_,j,c',e1,lt,ec',m⟩
 ·rw[z]at hk;cases hk
 ·have nj:(j:Int)∉qba ds:=λhj=>by
   obtain⟨j',d',e2,ed',kd⟩:=qc4 ok hj;have:j=j':=by omega
   subst this;rw[ec']at ed';cases ed';rw[kd]at m;cases e:d.k<;>rw[e]at m<;>cases m
  have e3:qcj (qba ds) d.e=(qbx (qba ds) j:Nat):=by
   unfold qcj;rw[e1,if_neg (by omega),rP]
  show 0<=qcj (qba ds) d.e/\qcj (qba ds) d.e<_;rw[e3,qfg];have:=qha nj (show j<ds.length by omega);omega
theorem mend_ne{ds:List Nd}(ok:NodesOk ds)(ne:ds≠[]):1<=(qat ds).length:=by
 rw[qfg];have l:0<ds.length:=by cases ds with | nil=>exact absurd rfl ne | cons=>simp
 have n0:((0:Nat):Int)∉qba ds:=λh=>by
  obtain⟨j,d,e,ed,k⟩:=qc4 ok h;have:j=0:=by omega
  subst this;rcases ok.hung 0 d ed with⟨_,_,z⟩ | ⟨z,_⟩
  ·rw[z]at k;cases k
  ·exact absurd z (by decide)
 have:=qha n0 l;omega
theorem qeD(ds:List Nd):(qaP ds).length=ds.length:=qbP (qN _)
theorem thgD_inj:∀{x y:Sum Str Int},thgD x=thgD y->x=y
 | .inl a,.inl b,h=>by injection h with h;rw[h]
 | .inl a,.inr b,h=>nomatch h
 | .inr a,.inl b,h=>nomatch h
 | .inr a,.inr b,h=>by injection h with h;rw[h]
theorem thD_inj:∀x y:Th,thD x=thD y->x=y
 | .int a,.int b,h=>by injection h with h;rw[h]
 | .int a,.tri _ _ _,h=>nomatch h
 | .tri _ _ _,.int b,h=>nomatch h
 | .tri s x t, .tri s' x' t', h => by
   injection h with h
   injection h with h1 h
   injection h with h2 h
   injection h with h3 _
   injection h1 with h1
   injection h3 with h3
   rw[(So.inj s s').mp h1,thgD_inj h2,h3]
theorem qgp{l:List Th}(h:∀x∈l,PcOk x):PySem.W.kqdOk 9 (.list (l.map thD))=true:=by
 simp only[PySem.W.kqdOk,List.all_eq_true,List.mem_map];rintro x ⟨t,ht,rfl⟩;exact pc_ok8 (h t ht)
theorem BookAt.same{N:Addr->Prop}{H H':Hp}{p:Addr}{ds:List Nd}(h:BookAt N H p ds)(s:Same H H'):BookAt N H' p ds:=by
 obtain⟨as,e,q⟩:=h;exact⟨as,s _ _ e,q.keep s.keep λ_ n _=>n⟩
theorem qdF(p:Prop)(x:Str):(wd p x).length<=1:=by unfold wd;split<;>simp
theorem qen(d:Nd)(lv:Nat):(qaN d lv).length<=1:=qdF _ _
theorem qep(ds:List Nd)(d:Nd):(qaQ ds d).length<=4:=by
 unfold qaQ;rw[qD,qD,qD];have h1:=qdF (qaF ds d.nm≠d.nm) (T "name");have h2:=qdF (qav d.mks≠d.mks) (T "marks");have h3:=qdF (ofPieces d.k=true/\qaj d.k d.st≠d.st) (T "pieces");have h4:=qdF (ofPieces d.k=true/\qaj d.k d.st=[]) (T "bare");omega
theorem qca(ds:List Nd)(d:Nd):(qax ds d).2.length<=5:=by
 unfold qax
 split
 ·show 1<=5;decide
 ·show(qaN d _++qaQ ds d).length<=5;rw[qD];have:=qen d (qaU ds d.k d.e.toNat);have:=qep ds d;omega
theorem BookAt.put{N:Addr->Prop}{H:Hp}{p W:Addr}{ds:List Nd}{o:HO}(h:BookAt (Nw N W) H p ds)(ne:p≠W):BookAt (Nw N W) (upd H W o) p ds:=by
 obtain⟨as,e,q⟩:=h;exact⟨as,by rw[qal ne];exact e,q.keep keep_nw λ_ n _=>n⟩
theorem qdw(ds:List Nd)(x:Str):(qbp ds x).2.length<=7:=by
 unfold qbp;cases qbB x with
 | none=>show 1<=7;decide
 | some d =>
   dsimp only
   split
   · show 1<=7;decide
   · split
     · unfold qbe
       split
       · show(qaN d 0++qaQ [] d).length<=7
         rw[qD]
         have h1:(qaN d 0).length<=1:=by unfold qaN wd;split<;>simp
         have h2:(qaQ [] d).length<=4:=by
           unfold qaQ
           rw[qD,qD,qD]
           have w:∀(p:Prop) (x:Str),(wd p x).length<=1:=λp x=>by unfold wd;split<;>simp
           have h1:=w (qaF [] d.nm≠d.nm) (T "name")
           have h2:=w (qav d.mks≠d.mks) (T "marks")
           have h3:=w (ofPieces d.k=true/\qaj d.k d.st≠d.st) (T "pieces")
           have h4:=w (ofPieces d.k=true/\qaj d.k d.st=[]) (T "bare")
           omega
         omega
       · show(qax [bodyNd] d).2.length+1<=7
         have:=qca [bodyNd] d
         omega
     · split
       · show(qax ds _).2.length+1<=7
         have:=qca ds {d with k:=.case}
         omega
       · have:=qca ds d
         omega
theorem qfv{rows:List Str}{i:Nat}{x:Str}(h:rows[i]?=some x):rdTo rows (i+1)=((rdTo rows i).1++(qbp (rdTo rows i).1 x).1,(rdTo rows i).2++(qbp (rdTo rows i).1 x).2.map λy=>((i:Int),y)):=by rw[rdTo,h]
theorem qcR(rows:List Str):∀i,(rdTo rows i).2.length<=7*i
 | 0=>rS _
 | i + 1 => by
   have h:=qcR rows i
   cases e:rows[i]? with
   | none =>
     rw[rdTo,e]
     show(rdTo rows i).2.length<=_
     omega
   | some x =>
     rw[qfv e]
     show((rdTo rows i).2++(qbp (rdTo rows i).1 x).2.map λy=>((i:Int),y)).length<=_
     rw[qD,qA]
     have:=qdw (rdTo rows i).1 x
     omega
theorem qce{p:Prop}{x:Str}(h:p):wd p x=[x]:=if_pos h
theorem qcq{p:Prop}{x:Str}(h:¬p):wd p x=[]:=if_neg h
theorem qeK{ds:List Nd}(ok:NodesOk ds):(qbA ds).length<=122:=by
 obtain⟨okb,_⟩:=qdk ok;have le:=okb.le;have lm:=qgk (begun ds);unfold qbA;rw[qD,qD,qD];have h1:=qdF (ds=[]) (T "body");have h2:=qdF (kids (qaP (qat (begun ds))) 0=[]) (T "bare");have h3:=qbC (ds:=begun ds) (f:=λi d=>if qbF (begun ds) i d then[T "notes"]else[]) (B:=1) (λi d=>by split<;>simp) (begun ds).length;have h4:=qbC (ds:=qat (begun ds)) (f:=λi d=>if qaD (qat (begun ds)) i d then[T "case"]else[]) (B:=1) (λi d=>by split<;>simp) (qat (begun ds)).length;omega
theorem pieces_mem(k:Kd):decide (k∈[Kd.text,.head,.note])=ofPieces k:=by cases k<;>rfl
def spLevelWords:Sp:=λvs H Q _=>∃(a:Addr) (d:Nd) (lv:Nat) (N:Addr->Prop),vs=[.ref a,.int lv]/\NdAt N H a d/\∀m H',H m=none->Same H H'->H' m=some (.lst ((qaN d lv).map V.str))->Q (.ref m) H'
def spMadeNode:Sp:=λvs H Q _=>∃(p a:Addr) (e:Int) (d:Nd) (ds:List Nd) (N:Addr->Prop),vs=[.ref p,.int e,.ref a]/\BookAt N H p ds/\ds.length<=60/\NdAt N H a d/\PartsOk d/\Up0 N H/\∀t H',Same H H'->qfS N H' t ([qbK ds e d],qaQ ds d)->Q (.ref t) H'
def spLater:Sp:=λvs H Q _=>∃(p a:Addr) (d:Nd) (ds:List Nd) (N:Addr->Prop),vs=[.ref p,.ref a]/\BookAt N H p ds/\NodesOk ds/\ds≠[]/\NdAt N H a d/\PartsOk d/\Up0 N H/\∀t H',Same H H'->qfS N H' t (qax ds d)->Q (.ref t) H'
def spFirst:Sp:=λvs H Q _=>∃(a:Addr) (d:Nd) (N:Addr->Prop),vs=[.ref a]/\NdAt N H a d/\PartsOk d/\Up0 N H/\∀t H',Same H H'->qfS N H' t (qbe d)->Q (.ref t) H'
def spReadRow:Sp:=λvs H Q _=>∃(p:Addr) (x:Str) (ds:List Nd) (N:Addr->Prop),vs=[.ref p,.str x]/\BookAt N H p ds/\NodesOk ds/\RowOk x/\Up0 N H/\∀t H',Same H H'->qfS N H' t (qbp ds x)->Q (.ref t) H'
def spFinished:Sp:=λvs H Q _=>∃(p:Addr) (ds:List Nd) (N:Addr->Prop),vs=[.ref p]/\BookAt N H p ds/\NodesOk ds/\Up0 N H/\∀t H',Same H H'->qfS N H' t (qdU ds,qbA ds)->Q (.ref t) H'
def MdAt(N:Addr->Prop)(H:Hp)(v:V)(p:Int×Str):Prop:=∃a,v=.ref a/\N a/\H a=some (.tup [.int p.1,.str p.2])
def qdS(N:Addr->Prop)(H:Hp)(m:Addr)(ms:List (Int×Str)):Prop:=∃vs,H m=some (.lst vs)/\Paired (MdAt N H) vs ms
theorem MdAt.keep{N N':Addr->Prop}{H H':Hp}{v:V}{p:Int×Str}(h:MdAt N H v p)(k:KeepN N H H')(sub:∀b,N b->(H b).isSome=true->N' b):MdAt N' H' v p:=by
 obtain⟨a,e,n,g⟩:=h;exact⟨a,e,sub a n (by rw[g];rfl),k _ _ n g⟩
def spReadBook:Sp:=λvs H Q _=>∃(p:Addr) (rows:List Str),vs=[.ref p]/\H p=some (.lst (rows.map V.str))/\rows.length<=200/\(∀x∈rows,RowOk x) /\
 ∀t b m H',Same H H'->H t=none->H' t=some (.tup [.ref b,.ref m])->H b=none->BookAt (qbz H) H' b (qcx rows).1->H m=none->qdS (qbz H) H' m (qcx rows).2->b≠m->Q (.ref t) H'
end Gen
namespace K09
open PySem L2 Bk Gen
abbrev sLevelWords:Stmt:=top 73
abbrev sMadeNode:Stmt:=top 74
abbrev sLater:Stmt:=top 72
abbrev sFirst:Stmt:=top 71
abbrev sReadRow:Stmt:=top 70
section
variable{P:Program}{w:World}{K:W.Frag}{mg:Str->Option Value}{base:Heap}
theorem scLevelWords:FnScope ["parts", "level"] ["parts", "level"] (qai sLevelWords):=⟨rfl,rfl,rfl,by ac_rfl,rfl,by ac_rfl,by ac_rfl⟩
theorem ok_level_words{f:Addr}{fd:FuncData}(F:Fun K "level_words" "level_words" sLevelWords f fd)(gl:∃t,mg "LEVEL" = some (.int 0 t)):FnOk P w K mg base CX0 1 f fd ["parts", "level"] spLevelWords:=by
 refine F.ok scLevelWords (λvs H Q E h=>?_) (λcdv A outer s H vs Q E hr h=>?_)
 ·obtain⟨a,d,lv,N,rfl,_⟩:=h;rfl
 ·obtain⟨a,d,lv,N,rfl,na,q⟩:=h;obtain⟨_,g_LEVEL⟩:=gl;obtain⟨m',s',ha,_⟩:=na.ex;refine⟨_,(qae (qap (qcd (qah op_ne (pv 1) (qan ix_tup (pv 0) (qak (v:=.int 0) (by rfl) g_LEVEL ⟨_,rfl⟩) (λ_ _=>rfl)) (qao _)) (qay (qaa qag pa_nil)) (qay pa_nil)))),?_⟩;refine⟨_,rfl,_,rfl,a,_,_,_,rfl,rfl,SqT.of ha,rfl,rfl,_,rfl,?_⟩;unfold qaN at q
  by_cases h:(lv:Int)=d.e
  ·rw[qC (by rw[h]:V.int (lv:Nat)=V.int d.e)];rw[qcq (λz=>z h)]at q;exact iteF ⟨by show 0<=sizeLine;decide,λm hm=>q m _ hm (qab hm _) qac⟩
  ·rw[qB (λz=>h (V.int.inj z):¬V.int (lv:Nat)=V.int d.e)];rw[qce h]at q;exact iteT ⟨by show 1<=sizeLine;decide,λm hm=>q m _ hm (qab hm _) qac⟩
theorem scMadeNode:FnScope ["nodes", "elder", "parts", "words", "name", "marks", "stuff"] ["nodes", "elder", "parts"] (qai sMadeNode):=⟨rfl,rfl,rfl,by ac_rfl,rfl,by ac_rfl,by ac_rfl⟩
theorem ok_made_node{f a_KINDS_OF_PIECES:Addr}{fd:FuncData}(F:Fun K "made_node" "made_node" sMadeNode f fd)(T:Bn mg)(NU:Nums mg)(g_KINDS_OF_PIECES:mg "KINDS_OF_PIECES" = some (.ref a_KINDS_OF_PIECES))(KP:KTup K a_KINDS_OF_PIECES [.text,.head,.note])(F_mended_name:Fx P w K mg base CX0 1 "mended_name" ["nodes", "name"] spMendName)(F_mended_marks:Fx P w K mg base CX0 1 "mended_marks" ["marks"] spMendMarks)(F_mended_pieces:Fx P w K mg base CX0 2 "mended_pieces" ["kind", "stuff"] spMendPieces)(F_bare_stuff:Fx P w K mg base CX0 1 "bare_stuff" [] spBareStuff):FnOk P w K mg base CX0 3 f fd ["nodes", "elder", "parts"] spMadeNode:=by
 refine F.ok scMadeNode (λvs H Q E h=>?_) (λcdv A outer s H vs Q E hr h=>?_)
 ·obtain⟨p,a,e,d,ds,N,rfl,_⟩:=h;rfl
 ·obtain⟨p,a,e,d,ds,N,rfl,B,le,na,pd,up,q⟩:=h;obtain⟨_,g_KIND⟩:=NU.kind;obtain⟨_,g_NAME⟩:=NU.name;obtain⟨_,g_MARKS⟩:=NU.marks;obtain⟨_,g_STUFF⟩:=NU.stuff;have hr_mended_name:Room 1 _:=hr.mono (by decide);have hr_mended_marks:Room 1 _:=hr.mono (by decide);have hr_bare_stuff:Room 1 _:=hr.mono (by decide);have hr_mended_pieces:=hr;have hu:=hr.units;obtain⟨m',s',ha,nm',hm',st'⟩:=na.ex;refine⟨_,(qad (qaq (i:=3) scMadeNode.nd (by rfl) (by trivial) (qay pa_nil))
   (qad (qaq (i:=4) scMadeNode.nd (by rfl) (by trivial) (qaB F_mended_name hr_mended_name (by rfl) qaA (qaa (pv 0) (qaa (qan ix_tup (pv 2) (qak (v:=.int 2) (by rfl) g_NAME ⟨_,rfl⟩) (λ_ _=>rfl)) pa_nil))))
   (qad (qaH (qah op_ne (pv 4) (qan ix_tup (pv 2) (qak (v:=.int 2) (by rfl) g_NAME ⟨_,rfl⟩) (λ_ _=>rfl)) (qao _)) (qae (qaC (qaV qH qJ qK mt_append (pv 3) (qaa qag pa_nil)))) pss_nil)
   (qad (qaq (i:=5) scMadeNode.nd (by rfl) (by trivial) (qaB F_mended_marks hr_mended_marks (by rfl) qaA (qaa (qan ix_tup (pv 2) (qak (v:=.int 3) (by rfl) g_MARKS ⟨_,rfl⟩) (λ_ _=>rfl)) pa_nil)))
   (qad (qaH (qah (qeU hu) (pv 5) (qan ix_tup (pv 2) (qak (v:=.int 3) (by rfl) g_MARKS ⟨_,rfl⟩) (λ_ _=>rfl)) (qao _)) (qae (qaC (qaV qH qJ qK mt_append (pv 3) (qaa qag pa_nil)))) pss_nil)
   (qad (qaq (i:=6) scMadeNode.nd (by rfl) (by trivial) (qan ix_tup (pv 2) (qak (v:=.int 4) (by rfl) g_STUFF ⟨_,rfl⟩) (λ_ _=>rfl)))
   (qad (qaH (qah op_in_seq (qan ix_tup (pv 2) (qak (v:=.int 1) (by rfl) g_KIND ⟨_,rfl⟩) (λ_ _=>rfl)) (qak (v:=.ref a_KINDS_OF_PIECES) (by rfl) g_KINDS_OF_PIECES rfl) (by with_unfolding_all rfl)) (qad (qaq (i:=6) scMadeNode.nd (by rfl) (by trivial) (qaB F_mended_pieces hr_mended_pieces (by rfl) qaA (qaa (qan ix_tup (pv 2) (qak (v:=.int 1) (by rfl) g_KIND ⟨_,rfl⟩) (λ_ _=>rfl)) (qaa (qan ix_tup (pv 2) (qak (v:=.int 4) (by rfl) g_STUFF ⟨_,rfl⟩) (λ_ _=>rfl)) pa_nil))))
   (qad (qaH (qah (qeU hu) (pv 6) (qan ix_tup (pv 2) (qak (v:=.int 4) (by rfl) g_STUFF ⟨_,rfl⟩) (λ_ _=>rfl)) (qao _)) (qae (qaC (qaV qH qJ qK mt_append (pv 3) (qaa qag pa_nil)))) pss_nil)
   (qae (qaH (qah op_eq (qam call_len_seq (by rfl) T.len b_len (qaa (pv 6) pa_nil)) qaf (qao _)) (qad (qaq (i:=6) scMadeNode.nd (by rfl) (by trivial) (qfU F_bare_stuff hr_bare_stuff (by rfl) qaA))
   (qae (qaC (qaV qH qJ qK mt_append (pv 3) (qaa qag pa_nil))))) pss_nil)))) pss_nil)
   (qae (qap (qaK (qaa (qay (qaa (qaK (qaa (pv 1) (qaa (qan ix_tup (pv 2) (qak (v:=.int 1) (by rfl) g_KIND ⟨_,rfl⟩) (λ_ _=>rfl)) (qaa (pv 4) (qaa (pv 5) (qaa (pv 6) pa_nil)))))) pa_nil)) (qaa (pv 3) pa_nil)))))))))))),?_⟩
  refine⟨by show 0<=sizeLine;decide,λW hW=>?_⟩;have s1:=qab hW (.lst []);refine⟨_,rfl,_,rfl,a,_,_,_,rfl,rfl,SqT.of (s1 _ _ ha),rfl,p,ds,d.nm,N,rfl,BookAt.same B s1,by omega,λH2 k2=>?_⟩;have s2:=s1.trans k2;have hW2:H2 W=some (.lst ([]:List V)):=k2 _ _ qac;dsimp only[qbu];refine qbf (λσ' H'=>σ'=[some (.ref p),some (.int e),some (.ref a),some (.ref W),some (.str (qaF ds d.nm)),none,none]/\Same H H'/\H' W=some (.lst ((wd (qaF ds d.nm≠d.nm) (Str.ofString "name")).map V.str))) (λD' kk=>?_) ?_
  ·refine⟨_,rfl,_,rfl,a,_,_,_,rfl,rfl,SqT.of (s2 _ _ ha),rfl,rfl,_,rfl,?_⟩
   by_cases h:qaF ds d.nm=d.nm
   ·rw[qC (by rw[h]:V.str (qaF ds d.nm)=V.str d.nm)];exact iteF (kk _ _ ⟨rfl,s2,by rw[qcq (λz=>z h)];exact hW2⟩)
   ·rw[qB (λz=>h (V.str.inj z):¬V.str (qaF ds d.nm)=V.str d.nm)];exact iteT ⟨_,rfl,.inl ⟨rfl,_,SqL.of hW2⟩,W,_,_,rfl,rfl,hW2,by decide,kk _ _ ⟨rfl,qaE s2 hW,by rw[qce h,qac];rfl⟩⟩
  rintro _ H3 ⟨rfl,s3,hW3⟩;have l3:(wd (qaF ds d.nm≠d.nm) (Str.ofString "name")).length<=1:=by unfold wd;split<;>simp
  generalize e3:wd (qaF ds d.nm≠d.nm) (Str.ofString "name")=w1 at hW3 l3;refine⟨_,rfl,a,_,_,_,rfl,rfl,SqT.of (s3 _ _ ha),rfl,m',d.mks,rfl,s3 _ _ hm',pd.mks.2,λl H4 hl k4 el mo=>?_⟩;have s4:=s3.trans k4;have hW4:=k4 _ _ hW3;have hl0:H l=none:=s3.none hl;have neW:l≠W:=(qar hW3 hl).symm;have mf:=qdK pd.mks.1;dsimp only[qbu];refine qbf (λσ' H'=>σ'=[some (.ref p),some (.int e),some (.ref a),some (.ref W),some (.str (qaF ds d.nm)),some (.ref l),none]/\Same H H'/\H' W=some (.lst ((w1++wd (qav d.mks≠d.mks) (Str.ofString "marks")).map V.str))/\H' l=some (.lst ((qav d.mks).map V.str))) (λD' kk=>?_) ?_
  ·refine⟨_,rfl,_,rfl,a,_,_,_,rfl,rfl,SqT.of (s4 _ _ ha),rfl,_,_,.lst el (qg3 _),.lst (s4 _ _ hm') (qg3 _),qft mf.2.1,qft pd.mks.1,λee=>⟨_,rfl,?_⟩,λee=>⟨_,rfl,?_⟩⟩
   ·injection ee with ee
    have ee:qav d.mks=d.mks:=qeI (λa b h=>by injection h) ee;exact iteF (kk _ _ ⟨rfl,s4,by rw[qcq (λz=>z ee),qX];exact hW4,el⟩)
   ·have ne:qav d.mks≠d.mks:=λz=>ee (by rw[z])
    exact iteT ⟨_,rfl,.inl ⟨rfl,_,SqL.of hW4⟩,W,_,_,rfl,rfl,hW4,qaZ (by rw[qA];omega),kk _ _ ⟨rfl,qaE s4 hW,by rw[qce ne,qac,qT];rfl,by rw[qal neW];exact el⟩⟩
  rintro _ H5 ⟨rfl,s5,hW5,el5⟩;have l5:(w1++wd (qav d.mks≠d.mks) (Str.ofString "marks")).length<=2:=by
   rw[qD];have:(wd (qav d.mks≠d.mks) (Str.ofString "marks")).length<=1:=by unfold wd;split<;>simp
   omega
  generalize e5:w1++wd (qav d.mks≠d.mks) (Str.ofString "marks")=w2 at hW5 l5;refine⟨_,rfl,a,_,_,_,rfl,rfl,SqT.of (s5 _ _ ha),rfl,?_⟩;dsimp only[qbu];have oldW:∀b,N b->(H b).isSome=true->Nw N W b:=qdX hW;refine qbf (λσ' H'=>∃sx,σ'=[some (.ref p),some (.int e),some (.ref a),some (.ref W),some (.str (qaF ds d.nm)),some (.ref l),some (.ref sx)]/\Same H H'/\H' W=some (.lst ((w2++wd (ofPieces d.k=true/\qaj d.k d.st≠d.st) (Str.ofString "pieces")++wd (ofPieces d.k=true/\qaj d.k d.st=[]) (Str.ofString "bare")).map V.str))/\H' l=some (.lst ((qav d.mks).map V.str))/\StAt N H' sx (qdg d.k d.st)) (λD' kk=>?_) ?_
  ·refine⟨_,rfl,a,_,_,_,rfl,rfl,SqT.of (s5 _ _ ha),rfl,a_KINDS_OF_PIECES,_,rfl,.inr (KP H5),rfl,qco _,_,rfl,?_⟩;rw[if_neg qF,qbl,pieces_mem];cases eo:ofPieces d.k with
   | false =>
     refine iteF (kk _ _ ⟨s',rfl,s5,?_,el5,?_⟩)
     · rw[qcq (λz=>by rw[eo]at z;exact absurd z.1 (by decide)),qcq (λz=>by rw[eo]at z;exact absurd z.1 (by decide)),qX,qX]
       exact hW5
     · unfold qdg
       rw[eo]
       exact st'.keep s5.keep λ_ n _=>n
   | true =>
     have pc:=pd.pc eo
     refine iteT ⟨_,rfl,a,_,_,_,rfl,rfl,SqT.of (s5 _ _ ha),rfl,_,rfl,a,_,_,_,rfl,rfl,SqT.of (s5 _ _ ha),rfl,d.k,s',d.st,N,rfl,st'.keep s5.keep (λ_ n _=>n),up.same s5,pc.1,pc.2,λs6 H6 hs6 k6 st6=>?_⟩
     have s06:=s5.trans k6
     have hW6:=k6 _ _ hW5
     have el6:=k6 _ _ el5
     have ne6:s6≠W:=(qar hW5 hs6).symm
     dsimp only[qbu]
     refine qbf (λσ' H'=>σ'=[some (.ref p),some (.int e),some (.ref a),some (.ref W),some (.str (qaF ds d.nm)),some (.ref l),some (.ref s6)]/\Same H H'/\H' W=some (.lst ((w2++wd (ofPieces d.k=true/\qaj d.k d.st≠d.st) (Str.ofString "pieces")).map V.str))/\H' l=some (.lst ((qav d.mks).map V.str))/\StAt N H' s6 (qaj d.k d.st)) (λD2 k2=>?_) ?_
     · obtain⟨n6,vs6,hs6',pa6⟩:=st6
       obtain⟨ns',vs',hs',pa'⟩:=st'.keep s06.keep (λ_ n _=>n)
       refine⟨_,rfl,_,rfl,a,_,_,_,rfl,rfl,SqT.of (s06 _ _ ha),rfl,_,_,.lst hs6' (qfA pa6),.lst hs' (qfA pa'),qgp (qfm pc.1),qgp pc.1,λee=>⟨_,rfl,?_⟩,λee=>⟨_,rfl,?_⟩⟩
       · injection ee with ee
         have ee:qaj d.k d.st=d.st:=qeI thD_inj ee
         exact iteF (k2 _ _ ⟨rfl,s06,by rw[qcq (λz=>z.2 ee),qX];exact hW6,el6,n6,vs6,hs6',pa6⟩)
       · have ne:qaj d.k d.st≠d.st:=λz=>ee (by rw[z])
         refine iteT ⟨_,rfl,.inl ⟨rfl,_,SqL.of hW6⟩,W,_,_,rfl,rfl,hW6,qaZ (by rw[qA];omega),k2 _ _ ⟨rfl,qaE s06 hW,by rw[qce ⟨eo,ne⟩,qac,qT];rfl,by rw[qal neW];exact el6,n6,vs6,by rw[qal ne6];exact hs6',?_⟩⟩
         refine pa6.mono λv x h=>?_
         cases x with
         | int n=>exact h
         | tri so y n =>
           obtain⟨b,eb,nb,hb⟩:=h
           exact⟨b,eb,nb,by rw[qal (qgb hb hW6 (by intro z;cases z))];exact hb⟩
     rintro _ H7 ⟨rfl,s7,hW7,el7,n7,vs7,hs7,pa7⟩
     have l7:(w2++wd (ofPieces d.k=true/\qaj d.k d.st≠d.st) (Str.ofString "pieces")).length<=3:=by
       rw[qD]
       have:(wd (ofPieces d.k=true/\qaj d.k d.st≠d.st) (Str.ofString "pieces")).length<=1:=by unfold wd;split<;>simp
       omega
     generalize w2++wd (ofPieces d.k=true/\qaj d.k d.st≠d.st) (Str.ofString "pieces")=w3 at hW7 l7 kk
     have lp:vs7.length=(qaj d.k d.st).length:=pa7.length
     refine⟨_,rfl,s6,_,rfl,.inl (SqL.of hs7),rfl,_,rfl,?_⟩
     by_cases he:qaj d.k d.st=[]
     · rw[qC (by rw[lp,he];rfl:V.int (vs7.length:Nat)=V.int 0)]
       refine iteT ⟨rfl,λsb H8 k8 stb=>?_⟩
       have s8:=s7.trans k8
       have hW8:=k8 _ _ hW7
       have el8:=k8 _ _ el7
       refine⟨_,rfl,.inl ⟨rfl,_,SqL.of hW8⟩,W,_,_,rfl,rfl,hW8,qaZ (by rw[qA];omega),kk _ _ ⟨sb,rfl,qaE s8 hW,by rw[qce ⟨eo,he⟩,qac,qT];rfl,by rw[qal neW];exact el8,?_⟩⟩
       unfold qdg
       rw[if_pos eo,if_pos he]
       refine stb.keep (N':=N) (λb o n eb=>by rw[qal];exact eb;rintro rfl;have n:H7 b=none:=n;rw[hW7]at n;cases n) λb n _=>up b (s7.none n)
     · rw[qB (λz=>he (qO (by have:=V.int.inj z;omega)):¬V.int (vs7.length:Nat)=V.int 0)]
       refine iteF (kk _ _ ⟨s6,rfl,s7,by rw[qcq (λz=>he z.2),qX];exact hW7,el7,?_⟩)
       unfold qdg
       rw[if_pos eo,if_neg he]
       exact⟨n7,vs7,hs7,pa7⟩
  rintro _ H9 ⟨sx,rfl,s9,hW9,el9,st9⟩;refine⟨_,rfl,_,rfl,a,_,_,_,rfl,rfl,SqT.of (s9 _ _ ha),rfl,_,rfl,_,rfl,_,rfl,(by show 5<=sizeLine;decide),λu hu=>⟨by show 1<=sizeLine;decide,λL hL=>⟨_,rfl,by show 2<=sizeLine;decide,λt ht=>?_⟩⟩⟩;have k10:=qab hu (.tup [.int e,.str d.k.s,.str (qaF ds d.nm),.ref l,.ref sx]);have k11:=qab hL (.lst [.ref u]);have k12:=qab ht (.tup [.ref L,.ref W]);have k:=(k10.trans k11).trans k12;refine q t _ (s9.trans k) ⟨L,W,qac,up L (s9.none (k10.none hL)),⟨[u],k12 _ _ qac,.cons ?_ .nil⟩,up W hW,?_⟩
  ·exact⟨up u (s9.none hu),l,sx,(k11.trans k12) _ _ qac,up l hl0,k _ _ el9,st9.keep k.keep λ_ n _=>n⟩
  ·rw[k _ _ hW9];unfold qaQ;rw[<-e5,<-e3]
theorem scLater:FnScope ["nodes", "parts", "level", "told"] ["nodes", "parts"] (qai sLater):=⟨rfl,rfl,rfl,by ac_rfl,rfl,by ac_rfl,by ac_rfl⟩
theorem ok_later_nodes{f:Addr}{fd:FuncData}(F:Fun K "later_nodes" "later_nodes" sLater f fd)(NU:Nums mg)(gl:∃t,mg "LEVEL" = some (.int 0 t))(F_mended_level:Fx P w K mg base CX0 3 "mended_level" ["nodes", "level", "kind"] spMendLv)(F_open_nodes:Fx P w K mg base CX0 2 "open_nodes" ["nodes"] spOpen)(F_made_node:Fx P w K mg base CX0 3 "made_node" ["nodes", "elder", "parts"] spMadeNode)(F_level_words:Fx P w K mg base CX0 1 "level_words" ["parts", "level"] spLevelWords):FnOk P w K mg base CX0 4 f fd ["nodes", "parts"] spLater:=by
 refine F.ok scLater (λvs H Q E h=>?_) (λcdv A outer s H vs Q E hr h=>?_)
 ·obtain⟨p,a,d,ds,N,rfl,_⟩:=h;rfl
 ·obtain⟨p,a,d,ds,N,rfl,B,ok,ne,na,pd,up,q⟩:=h;obtain⟨_,g_LEVEL⟩:=gl;obtain⟨_,g_KIND⟩:=NU.kind;have hr_mended_level:=hr;have hr_made_node:=hr;have hr_open_nodes:Room 2 _:=hr.mono (by decide);have hr_level_words:Room 1 _:=hr.mono (by decide);obtain⟨m',s',ha,_⟩:=na.ex;have ee:d.e=((d.e.toNat:Nat):Int):=by have:=pd.e.1;omega
  have el:d.e.toNat<=100000:=by have:=pd.e.2;omega
  have le:=ok.le;refine⟨_,(qad (qaq (i:=2) scLater.nd (by rfl) (by trivial) (qaB F_mended_level hr_mended_level (by rfl) qaA (qaa (pv 0) (qaa (qan ix_tup (pv 1) (qak (v:=.int 0) (by rfl) g_LEVEL ⟨_,rfl⟩) (λ_ _=>rfl)) (qaa (qan ix_tup (pv 1) (qak (v:=.int 1) (by rfl) g_KIND ⟨_,rfl⟩) (λ_ _=>rfl)) pa_nil)))))
   (qad (qaH (qah op_eq (pv 2) qaf (qao _)) (qae (qap (qaK (qaa (qay pa_nil) (qaa (qay (qaa qag pa_nil)) pa_nil))))) pss_nil)
   (qad (qaq (i:=3) scLater.nd (by rfl) (by trivial) (qaB F_made_node hr_made_node (by rfl) qaA (qaa (pv 0) (qaa (qan ix_list (qaB F_open_nodes hr_open_nodes (by rfl) qaA (qaa (pv 0) pa_nil)) (qaO op_sub (pv 2) qaf) (λ_ _=>rfl)) (qaa (pv 1) pa_nil)))))
   (qae (qap (qaK (qaa (qan ix_tup (pv 3) qaf (λ_ _=>rfl)) (qaa (qaO op_cat (qaB F_level_words hr_level_words (by rfl) qaA (qaa (pv 1) (qaa (pv 2) pa_nil))) (qan ix_tup (pv 3) qaf (λ_ _=>rfl))) pa_nil)))))))),?_⟩
  refine⟨_,rfl,_,rfl,a,_,_,_,rfl,rfl,SqT.of ha,rfl,_,rfl,a,_,_,_,rfl,rfl,SqT.of ha,rfl,p,ds,d.e.toNat,d.k,N,by rw[<-ee];rfl,B,ok,ne,el,λH1 s1=>?_⟩;refine⟨_,rfl,rfl,_,rfl,?_⟩;unfold qax at q
  by_cases h0:qaU ds d.k d.e.toNat=0
  ·rw[if_pos h0]at q;rw[qC (by rw[h0];rfl:V.int (qaU ds d.k d.e.toNat:Nat)=V.int 0)];refine iteT ⟨by show 0<=sizeLine;decide,λl hl=>⟨by show 1<=sizeLine;decide,λm hm=>⟨by show 2<=sizeLine;decide,λt ht=>?_⟩⟩⟩;have k1:=qab hl (.lst []);have k2:=qab hm (.lst [.str (Str.ofString "place")]);have k3:=qab ht (.tup [.ref l,.ref m]);exact q t _ (s1.trans ((k1.trans k2).trans k3)) ⟨l,m,qac,up l (s1.none hl),⟨[],(k2.trans k3) _ _ qac,.nil⟩,up m (s1.none (k1.none hm)),k3 _ _ qac⟩
  rw[if_neg h0]at q;obtain⟨a1,a2,a3,a4,a5⟩:=qeJ h0;rw[qB (λz=>h0 (by have:=V.int.inj z;omega):¬V.int (qaU ds d.k d.e.toNat:Nat)=V.int 0)];refine iteF ⟨_,rfl,_,rfl,p,ds,N,rfl,BookAt.same B s1,ok,ne,λl H2 hl k2 h2=>?_⟩;have s2:=s1.trans k2;have hp:(qbi ds)[qaU ds d.k d.e.toNat-1]?=some (qb8 ds (qaU ds d.k d.e.toNat)):=by
   unfold qbi;rw[u4 (by omega),show(upL ds).length-1-(qaU ds d.k d.e.toNat-1)=(upL ds).length-qaU ds d.k d.e.toNat by omega];exact a4
  generalize qaU ds d.k d.e.toNat=lv at *;generalize qb8 ds lv=el' at *;refine⟨_,rfl,_,_,rfl,rfl,l,_,_,_,rfl,rfl,SqL.of h2,(by
   rw[show((lv:Nat):Int)-1=((lv-1:Nat):Int) by omega];exact qbL (v:=V.int (el':Nat)) (by rw[qR,qR,hp];rfl)),_,rfl,p,a,(el':Nat),d,ds,N,rfl,BookAt.same B s2,le,na.keep s2.keep (λ_ n _=>n),pd,up.same s2,λt H3 k3 T3=>?_⟩
  have s3:=s2.trans k3;obtain⟨L,W,et,nL,BL,nW,eW⟩:=T3;refine⟨_,rfl,t,_,_,_,rfl,rfl,SqT.of et,rfl,_,rfl,_,rfl,a,d,lv,N,rfl,na.keep s3.keep (λ_ n _=>n),λm H4 hm k4 e4=>?_⟩;refine⟨_,rfl,t,_,_,_,rfl,rfl,SqT.of (k4 _ _ et),rfl,m,W,_,_,rfl,rfl,e4,k4 _ _ eW,?_,λm2 hm2=>⟨by show 2<=sizeLine;decide,λt2 ht2=>?_⟩⟩
  ·rw[qA,qA];exact qS (vR (qen d lv) (qep ds d)) (by decide)
  have k5:=qab hm2 (.lst ((qaN d lv).map V.str++(qaQ ds d).map V.str));have k6:=qab ht2 (.tup [.ref L,.ref m2]);have k:=k4.trans (k5.trans k6);exact q t2 _ (s3.trans k) ⟨L,m2,qac,nL,BookAt.same BL k,up m2 ((s3.trans k4).none hm2),by rw[k6 _ _ qac,qT]⟩
theorem scFirst:FnScope ["parts", "told"] ["parts"] (qai sFirst):=⟨rfl,rfl,rfl,by ac_rfl,rfl,by ac_rfl,by ac_rfl⟩
theorem ok_first_nodes{f:Addr}{fd:FuncData}(F:Fun K "first_nodes" "first_nodes" sFirst f fd)(NU:Nums mg)(F_later_nodes:Fx P w K mg base CX0 4 "later_nodes" ["nodes", "parts"] spLater)(F_bare_body:Fx P w K mg base CX0 1 "bare_body" [] spBareBody)(F_made_node:Fx P w K mg base CX0 3 "made_node" ["nodes", "elder", "parts"] spMadeNode)(F_level_words:Fx P w K mg base CX0 1 "level_words" ["parts", "level"] spLevelWords):FnOk P w K mg base CX0 5 f fd ["parts"] spFirst:=by
 refine F.ok scFirst (λvs H Q E h=>?_) (λcdv A outer s H vs Q E hr h=>?_)
 ·obtain⟨a,d,N,rfl,_⟩:=h;rfl
 ·obtain⟨a,d,N,rfl,na,pd,up,q⟩:=h;obtain⟨_,g_KIND⟩:=NU.kind;have hr_later_nodes:=hr;have hr_made_node:Room 3 _:=hr.mono (by decide);have hr_bare_body:Room 1 _:=hr.mono (by decide);have hr_level_words:Room 1 _:=hr.mono (by decide);obtain⟨m',s',ha,_⟩:=na.ex;refine⟨_,(qad (qaH (qah op_ne (qan ix_tup (pv 0) (qak (v:=.int 1) (by rfl) g_KIND ⟨_,rfl⟩) (λ_ _=>rfl)) qag (qao _)) (qad (qaq (i:=1) scFirst.nd (by rfl) (by trivial) (qaB F_later_nodes hr_later_nodes (by rfl) qaA (qaa (qay (qaa (qfU F_bare_body hr_bare_body (by rfl) qaA) pa_nil)) (qaa (pv 0) pa_nil))))
   (qae (qap (qaK (qaa (qaO op_cat (qay (qaa (qfU F_bare_body hr_bare_body (by rfl) qaA) pa_nil)) (qan ix_tup (pv 1) qaf (λ_ _=>rfl))) (qaa (qaO op_cat (qay (qaa qag pa_nil)) (qan ix_tup (pv 1) qaf (λ_ _=>rfl))) pa_nil)))))) pss_nil)
   (qad (qaq (i:=1) scFirst.nd (by rfl) (by trivial) (qaB F_made_node hr_made_node (by rfl) qaA (qaa (qay pa_nil) (qaa (qcy un_neg qaf) (qaa (pv 0) pa_nil)))))
   (qae (qap (qaK (qaa (qan ix_tup (pv 1) qaf (λ_ _=>rfl)) (qaa (qaO op_cat (qaB F_level_words hr_level_words (by rfl) qaA (qaa (pv 0) (qaa qaf pa_nil))) (qan ix_tup (pv 1) qaf (λ_ _=>rfl))) pa_nil))))))),?_⟩
  refine⟨_,rfl,a,_,_,_,rfl,rfl,SqT.of ha,rfl,rfl,_,rfl,?_⟩;rw[show decide (V.str d.k.s=V.str (Str.ofString "body"))=decide (d.k=.body)from kdt d.k .body];unfold qbe at q
  by_cases hk:d.k=.body
  ·rw[if_pos hk]at q;rw[qC hk];refine iteF ⟨by show 0<=sizeLine;decide,λo ho=>⟨_,rfl,_,rfl,o,a,-1,d,[],N,rfl,⟨[],qac,.nil⟩,by decide,na.keep (qab ho _).keep (λ_ n _=>n),pd,up.same (qab ho _),λt H3 k3 T3=>?_⟩⟩;have s3:=(qab ho _).trans k3;obtain⟨L,W,et,nL,BL,nW,eW⟩:=T3;refine⟨_,rfl,t,_,_,_,rfl,rfl,SqT.of et,rfl,_,rfl,a,d,0,N,rfl,na.keep s3.keep (λ_ n _=>n),λm H4 hm k4 e4=>?_⟩;refine⟨_,rfl,t,_,_,_,rfl,rfl,SqT.of (k4 _ _ et),rfl,m,W,_,_,rfl,rfl,e4,k4 _ _ eW,?_,λm2 hm2=>⟨by show 2<=sizeLine;decide,λt2 ht2=>?_⟩⟩
   ·rw[qA,qA];exact qS (vR (qen d 0) (qep [] d)) (by decide)
   have k5:=qab hm2 (.lst ((qaN d 0).map V.str++(qaQ [] d).map V.str));have k6:=qab ht2 (.tup [.ref L,.ref m2]);have k:=k4.trans (k5.trans k6);exact q t2 _ (s3.trans k) ⟨L,m2,qac,nL,BookAt.same BL k,up m2 ((s3.trans k4).none hm2),by rw[k6 _ _ qac,qT]⟩
  ·rw[if_neg hk]at q;rw[qB hk];refine iteT ⟨rfl,λb H1 k1 nb=>⟨by show 1<=sizeLine;decide,λo ho=>⟨_,rfl,o,a,d,[bodyNd],N,rfl,⟨[b],qac,.cons (nb.keep (qab ho _).keep λc n _=>up c n) .nil⟩,nodes_body,by simp,na.keep (k1.trans (qab ho _)).keep (λ_ n _=>n),pd,up.same (k1.trans (qab ho _)),λt H3 k3 T3=>?_⟩⟩⟩;have s3:=(k1.trans (qab ho _)).trans k3;obtain⟨L,W,et,nL,BL,nW,eW⟩:=T3;refine⟨rfl,λb2 H4 k4 nb2=>⟨by show 1<=sizeLine;decide,λo2 ho2=>?_⟩⟩;have s4:=s3.trans k4;have k5:=qab ho2 (.lst [.ref b2]);have k45:=k4.trans k5;obtain⟨as,eL,nds⟩:=BL;have ll:as.length<=1:=by rw[nds.length];exact(qd2 nodes_body (by simp) (by decide) pd).2
   refine⟨_,rfl,t,_,_,_,rfl,rfl,SqT.of (k45 _ _ et),rfl,o2,L,_,_,rfl,rfl,qac,k45 _ _ eL,?_,λo3 ho3=>?_⟩
   ·rw[qA];exact qS (show 1+as.length<=2 by omega) (by decide)
   have k6:=qab ho3 (.lst ([.ref b2]++as.map V.ref));refine⟨by show 1<=sizeLine;decide,λo4 ho4=>?_⟩;have k7:=qab ho4 (.lst [.str (Str.ofString "body")]);have k47:=(k45.trans k6).trans k7;refine⟨_,rfl,t,_,_,_,rfl,rfl,SqT.of (k47 _ _ et),rfl,o4,W,_,_,rfl,rfl,qac,k47 _ _ eW,?_,λo5 ho5=>⟨by show 2<=sizeLine;decide,λt2 ht2=>?_⟩⟩
   ·rw[qA];exact qS (vR (qN 1) (qca [bodyNd] d)) (by decide)
   have k8:=qab ho5 (.lst ([.str (Str.ofString "body")]++(qax [bodyNd] d).2.map V.str));have k9:=qab ht2 (.tup [.ref o3,.ref o5]);have k79:=k7.trans (k8.trans k9);have k49:=k47.trans (k8.trans k9);refine q t2 _ (s3.trans k49) ⟨o3,o5,qac,up o3 ((s4.trans k5).none ho3),⟨b2::as,k79 _ _ qac,.cons (nb2.keep (k5.trans (k6.trans k79)).keep λc n _=>up c (s3.none n)) (nds.keep k49.keep λ_ n _=>n)⟩,up o5 ((s3.trans k47).none ho5),by rw[k9 _ _ qac];rfl⟩
theorem scReadRow:FnScope ["nodes", "row", "parts", "told"] ["nodes", "row"] (qai sReadRow):=⟨rfl,rfl,rfl,by ac_rfl,rfl,by ac_rfl,by ac_rfl⟩
theorem ok_read_row{f:Addr}{fd:FuncData}(F:Fun K "read_row" "read_row" sReadRow f fd)(T:Bn mg)(U:Glob mg)(NU:Nums mg)(gl:∃t,mg "LEVEL" = some (.int 0 t))(F_row_parts:Fx P w K mg base CX0 7 "row_parts" ["row"] spRowParts)(F_first_nodes:Fx P w K mg base CX0 5 "first_nodes" ["parts"] spFirst)(F_later_nodes:Fx P w K mg base CX0 4 "later_nodes" ["nodes", "parts"] spLater):FnOk P w K mg base CX0 8 f fd ["nodes", "row"] spReadRow:=by
 refine F.ok scReadRow (λvs H Q E h=>?_) (λcdv A outer s H vs Q E hr h=>?_)
 ·obtain⟨p,x,ds,N,rfl,_⟩:=h;rfl
 ·obtain⟨p,x,ds,N,rfl,B,ok,rx,up,q⟩:=h;obtain⟨_,g_LEVEL⟩:=gl;obtain⟨_,g_KIND⟩:=NU.kind;obtain⟨_,g_NAME⟩:=NU.name;obtain⟨_,g_MARKS⟩:=NU.marks;obtain⟨_,g_STUFF⟩:=NU.stuff;obtain⟨_,g_MOST_NODES⟩:=U.nodes;have hr_row_parts:=hr;have hr_first_nodes:Room 5 _:=hr.mono (by decide);have hr_later_nodes:Room 4 _:=hr.mono (by decide);have one:∀(wx:Str) (H1:Hp) (l m t:Addr),Same H H1->H1 l=none->upd H1 l (.lst []) m=none->upd (upd H1 l (.lst [])) m (.lst [.str wx]) t=none->qbp ds x=([],[wx])->Q (.ref t) (upd (upd (upd H1 l (.lst [])) m (.lst [.str wx])) t (.tup [.ref l,.ref m])):=λwx H1 l m t s1 hl hm ht er=>by
   have k1:=qab hl (.lst []);have k2:=qab hm (.lst [.str wx]);have k3:=qab ht (.tup [.ref l,.ref m]);refine q t _ (s1.trans ((k1.trans k2).trans k3)) ?_;rw[er];exact⟨l,m,qac,up l (s1.none hl),⟨[],(k2.trans k3) _ _ qac,.nil⟩,up m (s1.none (k1.none hm)),k3 _ _ qac⟩
  refine⟨_,(qad (qaq (i:=2) scReadRow.nd (by rfl) (by trivial) (qaB F_row_parts hr_row_parts (by rfl) qaA (qaa (pv 1) pa_nil)))
   (qad (qaH (qgX (qhQ (pv 2))) (qae (qap (qaK (qaa (qay pa_nil) (qaa (qay (qaa qag pa_nil)) pa_nil))))) pss_nil)
   (qad (qaH (qah op_ge (qam call_len_seq (by rfl) T.len b_len (qaa (pv 0) pa_nil)) (qak (v:=.int 60) (by rfl) g_MOST_NODES ⟨_,rfl⟩) (qao _)) (qae (qap (qaK (qaa (qay pa_nil) (qaa (qay (qaa qag pa_nil)) pa_nil))))) pss_nil)
   (qad (qaH (qah op_eq (qam call_len_seq (by rfl) T.len b_len (qaa (pv 0) pa_nil)) qaf (qao _)) (qae (qap (qaB F_first_nodes hr_first_nodes (by rfl) qaA (qaa (pv 2) pa_nil)))) pss_nil)
   (qad (qaH (qah op_eq (qan ix_tup (pv 2) (qak (v:=.int 1) (by rfl) g_KIND ⟨_,rfl⟩) (λ_ _=>rfl)) qag (qao _)) (qad (qaq (i:=3) scReadRow.nd (by rfl) (by trivial) (qaB F_later_nodes hr_later_nodes (by rfl) qaA (qaa (pv 0) (qaa (qaK (qaa (qan ix_tup (pv 2) (qak (v:=.int 0) (by rfl) g_LEVEL ⟨_,rfl⟩) (λ_ _=>rfl)) (qaa qag (qaa (qan ix_tup (pv 2) (qak (v:=.int 2) (by rfl) g_NAME ⟨_,rfl⟩) (λ_ _=>rfl)) (qaa (qan ix_tup (pv 2) (qak (v:=.int 3) (by rfl) g_MARKS ⟨_,rfl⟩) (λ_ _=>rfl)) (qaa (qan ix_tup (pv 2) (qak (v:=.int 4) (by rfl) g_STUFF ⟨_,rfl⟩) (λ_ _=>rfl)) pa_nil)))))) pa_nil))))
   (qae (qap (qaK (qaa (qan ix_tup (pv 3) qaf (λ_ _=>rfl)) (qaa (qaO op_cat (qay (qaa qag pa_nil)) (qan ix_tup (pv 3) qaf (λ_ _=>rfl))) pa_nil)))))) pss_nil)
   (qae (qap (qaB F_later_nodes hr_later_nodes (by rfl) qaA (qaa (pv 0) (qaa (pv 2) pa_nil)))))))))),?_⟩
  refine⟨_,rfl,x,rfl,rx,λen H1 s1=>?_,λd ed a H1 s1 na=>?_⟩
  ·refine⟨_,rfl,_,rfl,iteT ⟨by show 0<=sizeLine;decide,λl hl=>⟨by show 1<=sizeLine;decide,λm hm=>⟨by show 2<=sizeLine;decide,λt ht=>one _ _ _ _ _ s1 hl hm ht ?_⟩⟩⟩⟩;unfold qbp;rw[en]
  have na:NdAt N H1 a d:=na.keep KeepN.refl λb n _=>up b n
  have pd:=qde rx ed;have er:qbp ds x=if 60<=ds.length then([],[Str.ofString "many"])else if ds=[]then qbe d
    else if d.k=.body then((qax ds {d with k:=.case}).1,Str.ofString "body" :: (qax ds {d with k:=.case}).2)else qax ds d:=by
   unfold qbp;rw[ed]
  obtain⟨as,hp,nds⟩:=B;have la:as.length=ds.length:=nds.length;obtain⟨m',s',ha,nm',hm',st'⟩:=na.ex;refine⟨_,rfl,_,rfl,iteF ?_⟩;refine⟨_,rfl,p,_,rfl,.inl (SqL.of (s1 _ _ hp)),_,_,rfl,rfl,_,rfl,?_⟩;rw[qA,la]
  by_cases h60:60<=ds.length
  ·rw[qC (by omega:(60:Int)<=(ds.length:Nat))];refine iteT ⟨by show 0<=sizeLine;decide,λl hl=>⟨by show 1<=sizeLine;decide,λm hm=>⟨by show 2<=sizeLine;decide,λt ht=>one _ _ _ _ _ s1 hl hm ht ?_⟩⟩⟩;rw[er,if_pos h60]
  rw[qB (by omega:¬(60:Int)<=(ds.length:Nat))];rw[if_neg h60]at er;refine iteF ⟨_,rfl,p,_,rfl,.inl (SqL.of (s1 _ _ hp)),rfl,_,rfl,?_⟩;rw[qA,la]
  by_cases h0:ds=[]
  ·rw[qC (by rw[h0];rfl:V.int (ds.length:Nat)=V.int 0)];rw[if_pos h0]at er;exact iteT ⟨_,rfl,a,d,N,rfl,na,pd,up.same s1,λt H2 k2 T2=>q t H2 (s1.trans k2) (by rw[er];exact T2)⟩
  rw[qB (λz=>h0 (qO (by have:=V.int.inj z;omega)):¬V.int (ds.length:Nat)=V.int 0)];rw[if_neg h0]at er;refine iteF ⟨_,rfl,a,_,_,_,rfl,rfl,SqT.of ha,rfl,rfl,_,rfl,?_⟩;rw[show decide (V.str d.k.s=V.str (Str.ofString "body"))=decide (d.k=.body)from kdt d.k .body]
  by_cases hk:d.k=.body
  rotate_left
  ·rw[qB hk];rw[if_neg hk]at er;exact iteF ⟨_,rfl,_,rfl,p,a,d,ds,N,rfl,⟨as,s1 _ _ hp,nds.keep s1.keep λ_ n _=>n⟩,ok,h0,na,pd,up.same s1,λt H2 k2 T2=>q t H2 (s1.trans k2) (by rw[er];exact T2)⟩
  rw[qC hk];rw[if_pos hk]at er;refine iteT ⟨_,rfl,_,rfl,a,_,_,_,rfl,rfl,SqT.of ha,rfl,_,rfl,a,_,_,_,rfl,rfl,SqT.of ha,rfl,_,rfl,a,_,_,_,rfl,rfl,SqT.of ha,rfl,_,rfl,a,_,_,_,rfl,rfl,SqT.of ha,rfl,(by show 5<=sizeLine;decide),λu hu=>?_⟩;have k1:=qab hu (.tup [.int d.e,.str Kd.case.s,.str d.nm,.ref m',.ref s']);have s2:=s1.trans k1;refine⟨p,u,{d with k:=.case},ds,N,rfl,⟨as,s2 _ _ hp,nds.keep s2.keep λ_ n _=>n⟩,ok,h0,⟨up u (s1.none hu),m',s',qac,nm',k1 _ _ hm',st'.keep k1.keep λ_ n _=>n⟩,qdO pd hk,up.same s2,λt H3 k3 T3=>?_⟩;have s3:=s2.trans k3;obtain⟨L,W,et,nL,BL,nW,eW⟩:=T3;refine⟨_,rfl,t,_,_,_,rfl,rfl,SqT.of et,rfl,(by show 1<=sizeLine;decide),λo4 ho4=>?_⟩;have k4:=qab ho4 (.lst [.str (Str.ofString "body")]);refine⟨_,rfl,t,_,_,_,rfl,rfl,SqT.of (k4 _ _ et),rfl,o4,W,_,_,rfl,rfl,qac,k4 _ _ eW,?_,λo5 ho5=>⟨by show 2<=sizeLine;decide,λt2 ht2=>?_⟩⟩
  ·rw[qA];exact qS (vR (qN 1) (qca ds {d with k:=.case})) (by decide)
  have k5:=qab ho5 (.lst ([.str (Str.ofString "body")]++(qax ds {d with k:=.case}).2.map V.str));have k6:=qab ht2 (.tup [.ref L,.ref o5]);have k:=k4.trans (k5.trans k6);refine q t2 _ (s3.trans k) ?_;rw[er];exact⟨L,o5,qac,nL,BookAt.same BL k,up o5 ((s3.trans k4).none ho5),by rw[k6 _ _ qac];rfl⟩
abbrev sFinished:Stmt:=top 75
abbrev sReadBook:Stmt:=top 69
theorem scFinished:FnScope ["nodes", "words", "begun", "noted", "book"] ["nodes"] (qai sFinished):=⟨rfl,rfl,rfl,by ac_rfl,rfl,by ac_rfl,by ac_rfl⟩
theorem ok_finished_book{f C:Addr}{fd:FuncData}(F:Fun K "finished_book" "finished_book" sFinished f fd)(T:Bn mg)(F_bare_body:Fx P w K mg base CX0 1 "bare_body" [] spBareBody)(F_lacks_notes:Fx P w K mg base CX0 2 "lacks_notes" ["nodes", "number"] spLacks)(F_mended_notes:Fx P w K mg base CX0 2 "mended_notes" ["nodes"] spMendNotes)(F_wants_case:Fx P w K mg base CX0 3 "wants_case" ["nodes", "number"] spWants)(F_mended_kinds:Fx P w K mg base CX0 4 "mended_kinds" ["nodes"] spMendKinds)(F_holds:Fx P w K mg base (CX1 P w) 1 "holds" ["book", "node"] (qdL C))(F_bare_stuff:Fx P w K mg base CX0 1 "bare_stuff" [] spBareStuff):FnOk P w K mg base CX0 5 f fd ["nodes"] spFinished:=by
 refine F.ok scFinished (λvs H Q E h=>?_) (λcdv A outer s H vs Q E hr h=>?_)
 ·obtain⟨p,ds,N,rfl,_⟩:=h;rfl
 ·obtain⟨p,ds,N,rfl,B,ok,up,q⟩:=h;have hr_bare_body:Room 1 _:=hr.mono (by decide);have hr_bare_stuff:Room 1 _:=hr.mono (by decide);have hr_holds:Room 1 _:=hr.mono (by decide);have hr_lacks_notes:Room 2 _:=hr.mono (by decide);have hr_mended_notes:Room 2 _:=hr.mono (by decide);have hr_wants_case:Room 3 _:=hr.mono (by decide);have hr_mended_kinds:=hr;obtain⟨okb,neb⟩:=qdk ok;have le:=okb.le;obtain⟨as,hp,nds⟩:=B;have la:as.length=ds.length:=nds.length;refine⟨_,(qad (qaq (i:=1) scFinished.nd (by rfl) (by trivial) (qay pa_nil))
   (qad (qaq (i:=2) scFinished.nd (by rfl) (by trivial) (pv 0))
   (qad (qaH (qah op_eq (qam call_len_seq (by rfl) T.len b_len (qaa (pv 0) pa_nil)) qaf (qao _)) (qad (qaq (i:=2) scFinished.nd (by rfl) (by trivial) (qay (qaa (qfU F_bare_body hr_bare_body (by rfl) qaA) pa_nil)))
   (qae (qaC (qaV qH qJ qK mt_append (pv 1) (qaa qag pa_nil))))) pss_nil)
   (qad (qaC (qaV qH xW xX mt_extend (pv 1) (qaa (qbr (own:=["number"]) (by rfl) (ix:=[2]) (frees:=["begun"]) (CompScope.frees (by rfl) (by ac_rfl) (by ac_rfl) (by ac_rfl) (by rfl) (by ac_rfl) (by first | exact qdZ (by rfl) | exact qeG (by rfl) (by rfl))) (qby (by rfl) T.range (qaa (qam call_len_seq (by rfl) T.len b_len (qaa (pv 2) pa_nil)) pa_nil)) (λcl C s2 H2 fp=>(qas (i:=0) (by show(["number", "begun"]:List Str).Nodup;ac_rfl) (by rfl) (by trivial) (by trivial))) (λcl C s2 H2 fp=>(qbX (qbk (qaB F_lacks_notes hr_lacks_notes (by rfl) qaA (qaa (pv 1) (qaa (pv 0) pa_nil)))))) (λcl C s2 H2 fp=>qag)) pa_nil)))
   (qad (qaq (i:=3) scFinished.nd (by rfl) (by trivial) (qaB F_mended_notes hr_mended_notes (by rfl) qaA (qaa (pv 2) pa_nil)))
   (qad (qaC (qaV qH xW xX mt_extend (pv 1) (qaa (qbr (own:=["number"]) (by rfl) (ix:=[3]) (frees:=["noted"]) (CompScope.frees (by rfl) (by ac_rfl) (by ac_rfl) (by ac_rfl) (by rfl) (by ac_rfl) (by first | exact qdZ (by rfl) | exact qeG (by rfl) (by rfl))) (qby (by rfl) T.range (qaa (qam call_len_seq (by rfl) T.len b_len (qaa (pv 3) pa_nil)) pa_nil)) (λcl C s2 H2 fp=>(qas (i:=0) (by show(["number", "noted"]:List Str).Nodup;ac_rfl) (by rfl) (by trivial) (by trivial))) (λcl C s2 H2 fp=>(qbX (qbk (qaB F_wants_case hr_wants_case (by rfl) qaA (qaa (pv 1) (qaa (pv 0) pa_nil)))))) (λcl C s2 H2 fp=>qag)) pa_nil)))
   (qad (qaq (i:=4) scFinished.nd (by rfl) (by trivial) (qaB F_mended_kinds hr_mended_kinds (by rfl) qaA (qaa (pv 3) pa_nil)))
   (qad (qaH (qah op_eq (qam call_len_seq (by rfl) T.len b_len (qaa (qaB F_holds hr_holds (by rfl) qhw (qaa (pv 4) (qaa qaf pa_nil))) pa_nil)) qaf (qao _)) (qad (qaC (qaV qH qJ qK mt_append (pv 4) (qaa (qaK (qaa qaf (qaa qag (qaa qag (qaa (qay pa_nil) (qaa (qfU F_bare_stuff hr_bare_stuff (by rfl) qaA) pa_nil)))))) pa_nil)))
   (qae (qaC (qaV qH qJ qK mt_append (pv 1) (qaa qag pa_nil))))) pss_nil)
   (qae (qap (qaK (qaa (pv 4) (qaa (pv 1) pa_nil))))))))))))),?_⟩
  refine⟨by show 0<=sizeLine;decide,λW hW=>?_⟩;have s1:=qab hW (.lst []);refine⟨_,rfl,?_⟩;dsimp only[qbu];have oldW:∀b,N b->(H b).isSome=true->Nw N W b:=qdX hW;have upW:∀{H':Hp},Same H H'->(∃o,H' W=some o)->Up0 (Nw N W) H':=λ{H'} sa hw b hb=>by
   obtain⟨o,e⟩:=hw;exact qcO (up b (sa.none hb)) e hb
  refine qbf (λσ' H'=>∃b,σ'=[some (.ref p),some (.ref W),some (.ref b),none,none]/\b≠W/\Same H H'/\H' W=some (.lst ((wd (ds=[]) (Str.ofString "body")).map V.str))/\BookAt (Nw N W) H' b (begun ds)) (λD' kk=>?_) ?_
  ·refine⟨_,rfl,p,_,rfl,.inl (SqL.of (s1 _ _ hp)),rfl,_,rfl,?_⟩;rw[qA,la]
   by_cases h0:ds=[]
   ·rw[qC (by rw[h0];rfl:V.int (ds.length:Nat)=V.int 0)];refine iteT ⟨rfl,λb H2 k2 nb=>⟨by show 1<=sizeLine;decide,λo ho=>?_⟩⟩;have k3:=qab ho (.lst [.ref b]);have s3:=(s1.trans k2).trans k3;have hW3:upd H2 o (.lst [.ref b]) W=some (.lst []):=k3 _ _ (k2 _ _ qac);have neo:o≠W:=(qar (k2 _ _ qac) ho).symm;refine⟨_,rfl,.inl ⟨rfl,_,SqL.of hW3⟩,W,_,_,rfl,rfl,hW3,by decide,kk _ _ ⟨o,rfl,neo,qaE s3 hW,by rw[qce h0,qac];rfl,?_⟩⟩;have:BookAt (Nw N W) (upd H2 o (.lst [.ref b])) o (begun ds):=by
     unfold begun;rw[if_pos h0];refine⟨[b],qac,.cons (nb.keep k3.keep λc n _=>?_) .nil⟩;exact qcO (up c (s1.none n)) qac n
    exact BookAt.put this neo
   ·rw[qB (λz=>h0 (qO (by have:=V.int.inj z;omega)):¬V.int (ds.length:Nat)=V.int 0)];refine iteF (kk _ _ ⟨p,rfl,qar hp hW,s1,by rw[qcq h0];exact qac,?_⟩);unfold begun;rw[if_neg h0];exact⟨as,s1 _ _ hp,nds.keep s1.keep oldW⟩
  rintro _ H2 ⟨b,rfl,neb',s2,hW2,B2⟩;have l2:(wd (ds=[]) (Str.ofString "body")).length<=1:=qdF _ _;have eW:qbA ds=wd (ds=[]) (Str.ofString "body")++atTo (begun ds) (λi d=>if qbF (begun ds) i d then[Str.ofString "notes"]else[]) (begun ds).length
   ++ atTo (qat (begun ds)) (λi d=>if qaD (qat (begun ds)) i d then[Str.ofString "case"]else[]) (qat (begun ds)).length++wd (kids (qaP (qat (begun ds))) 0=[]) (Str.ofString "bare"):=rfl
  have eB:qdU ds=if kids (qaP (qat (begun ds))) 0=[]then qaP (qat (begun ds))++[bareText]else qaP (qat (begun ds)):=rfl
  rw[eW,eB]at q;clear eW eB;generalize wd (ds=[]) (Str.ofString "body")=w0 at hW2 l2 q;generalize begun ds=bs at *;have le1:∀(b:Bool) (x:Str),(if b then[x]else[]).length<=1:=λb x=>by cases b<;>simp
  obtain⟨as2,hb2,nds2⟩:=B2;have la2:as2.length=bs.length:=nds2.length;have l3:(atTo bs (λi d=>if qbF bs i d then[Str.ofString "notes"]else[]) bs.length).length<=60:=by
   have:=qbC (ds:=bs) (f:=λi d=>if qbF bs i d then[Str.ofString "notes"]else[]) (B:=1) (λi d=>le1 _ _) bs.length;omega
  refine⟨_,rfl,.inl ⟨rfl,_,SqL.of hW2⟩,_,rfl,b,_,rfl,.inl (SqL.of hb2),_,rfl,?_⟩;rw[qA,la2];refine⟨by omega,by omega,qb3 (λi ys σ' H'=>Same H2 H'/\ys=(atTo bs (λi d=>if qbF bs i d then[Str.ofString "notes"]else[]) i).map V.str/\∃z,σ'=[z,some (.ref b)]) (by rw[rP];exact qaZ (by omega)) ⟨Same.refl H2,rfl,none,rfl⟩ ?_ ?_ ?_⟩
  ·rintro i ys σ' H' hi ⟨_,rfl,_⟩;rw[qA];have:=qbC (ds:=bs) (f:=λi d=>if qbF bs i d then[Str.ofString "notes"]else[]) (B:=1) (λi d=>le1 _ _) i;omega
  ·rintro i ys σ' H' hi ⟨k3,rfl,z,rfl⟩;rw[rP]at hi;have ed:bs[i]?=some bs[i]:=qG hi;obtain⟨fm,hk⟩:=okb.form bs[i] (yV hi);refine⟨_,rfl,_,rfl,b,i,bs[i],bs,Nw N W,by rw[Int.zero_add];rfl,⟨as2,k3 _ _ hb2,nds2.keep k3.keep λ_ n _=>n⟩,le,ed,fm,hk,λH4 k4=>⟨_,rfl,?_⟩⟩;rw[qa3 ed];cases eb:qbF bs i bs[i]with
   | true=>exact iteT ⟨k3.trans k4,by rw[if_pos rfl,qT];rfl,_,rfl⟩
   | false=>exact iteF ⟨k3.trans k4,by rw[if_neg (by decide),qX],_,rfl⟩
  rintro ys σ' H3 ⟨k3,rfl,_⟩ D hD;rw[rP];generalize atTo bs (λi d=>if qbF bs i d then[Str.ofString "notes"]else[]) bs.length=w1 at *;have k4:=qab hD (.lst (w1.map V.str));have k34:=k3.trans k4;have hW4:=k34 _ _ hW2;refine⟨W,D,_,_,rfl,rfl,hW4,qac,?_,?_⟩
  ·rw[qA,qA];exact qS (show w0.length+w1.length<=61 by omega) (by decide)
  rw[<-qT];have s5:=qaE (o:=.lst ((w0++w1).map V.str)) (s2.trans k34) hW;have hW5:upd (upd H3 D (.lst (w1.map V.str))) W (.lst ((w0++w1).map V.str)) W=some (.lst ((w0++w1).map V.str)):=qac;have B5:BookAt (Nw N W) (upd (upd H3 D (.lst (w1.map V.str))) W (.lst ((w0++w1).map V.str))) b bs:=BookAt.put (BookAt.same ⟨as2,hb2,nds2⟩ k34) neb';generalize upd (upd H3 D (.lst (w1.map V.str))) W (.lst ((w0++w1).map V.str))=H5 at s5 hW5 B5⊢;refine⟨_,rfl,b,bs,Nw N W,rfl,B5,upW s5 ⟨_,hW5⟩,okb,λn H6 hn k6 B6=>?_⟩;have s6:=s5.trans k6;have hW6:=k6 _ _ hW5;have nen:n≠W:=(qar hW5 hn).symm;have lm:=qgk bs;have am:=mend_as okb;have m1:=mend_ne okb neb;generalize qat bs=ns at *;obtain⟨as6,hn6,nds6⟩:=B6;have la6:as6.length=ns.length:=nds6.length;have l7:(atTo ns (λi d=>if qaD ns i d then[Str.ofString "case"]else[]) ns.length).length<=60:=by
   have:=qbC (ds:=ns) (f:=λi d=>if qaD ns i d then[Str.ofString "case"]else[]) (B:=1) (λi d=>le1 _ _) ns.length;omega
  refine⟨_,rfl,.inl ⟨rfl,_,SqL.of hW6⟩,_,rfl,n,_,rfl,.inl (SqL.of hn6),_,rfl,?_⟩;rw[qA,la6];refine⟨by omega,by omega,qb3 (λi ys σ' H'=>Same H6 H'/\ys=(atTo ns (λi d=>if qaD ns i d then[Str.ofString "case"]else[]) i).map V.str/\∃z,σ'=[z,some (.ref n)]) (by rw[rP];exact qaZ (by omega)) ⟨Same.refl H6,rfl,none,rfl⟩ ?_ ?_ ?_⟩
  ·rintro i ys σ' H' hi ⟨_,rfl,_⟩;rw[qA];have:=qbC (ds:=ns) (f:=λi d=>if qaD ns i d then[Str.ofString "case"]else[]) (B:=1) (λi d=>le1 _ _) i;omega
  ·rintro i ys σ' H' hi ⟨k7,rfl,z,rfl⟩;rw[rP]at hi;have ed:ns[i]?=some ns[i]:=qG hi;refine⟨_,rfl,_,rfl,n,i,ns[i],ns,Nw N W,by rw[Int.zero_add];rfl,⟨as6,k7 _ _ hn6,nds6.keep k7.keep λ_ n _=>n⟩,by omega,ed,am,λH8 k8=>⟨_,rfl,?_⟩⟩;rw[qa3 ed];cases eb:qaD ns i ns[i]with
   | true=>exact iteT ⟨k7.trans k8,by rw[if_pos rfl,qT];rfl,_,rfl⟩
   | false=>exact iteF ⟨k7.trans k8,by rw[if_neg (by decide),qX],_,rfl⟩
  rintro ys σ' H7 ⟨k7,rfl,_⟩ D2 hD2;rw[rP];generalize atTo ns (λi d=>if qaD ns i d then[Str.ofString "case"]else[]) ns.length=w2 at *;have k8:=qab hD2 (.lst (w2.map V.str));have k78:=k7.trans k8;have hW8:=k78 _ _ hW6;refine⟨W,D2,_,_,rfl,rfl,hW8,qac,?_,?_⟩
  ·rw[qA,qA,qD];exact qS (show w0.length+w1.length+w2.length<=121 by omega) (by decide)
  rw[<-qT];have s9:=qaE (o:=.lst ((w0++w1++w2).map V.str)) (s6.trans k78) hW;have hW9:upd (upd H7 D2 (.lst (w2.map V.str))) W (.lst ((w0++w1++w2).map V.str)) W=some (.lst ((w0++w1++w2).map V.str)):=qac;have B9:BookAt (Nw N W) (upd (upd H7 D2 (.lst (w2.map V.str))) W (.lst ((w0++w1++w2).map V.str))) n ns:=BookAt.put (BookAt.same ⟨as6,hn6,nds6⟩ k78) nen;generalize upd (upd H7 D2 (.lst (w2.map V.str))) W (.lst ((w0++w1++w2).map V.str))=H9 at s9 hW9 B9⊢;refine⟨_,rfl,n,ns,Nw N W,rfl,B9,upW s9 ⟨_,hW9⟩,by omega,am,λk H10 hk10 k10 B10=>?_⟩;have s10:=s9.trans k10;have hW10:=k10 _ _ hW9;have nek:k≠W:=(qar hW9 hk10).symm;have lk:=qeD ns;generalize qaP ns=bk at *;obtain⟨ask,hbk,ndsk⟩:=B10;have lak:ask.length=bk.length:=ndsk.length;dsimp only[qbu];refine qbf (λσ' H'=>∃z2,σ'=[some (.ref p),some (.ref W),z2,some (.ref n),some (.ref k)]/\Same H H'/\H' W=some (.lst ((w0++w1++w2++wd (kids bk 0=[]) (Str.ofString "bare")).map V.str))/\BookAt N H' k (if kids bk 0=[]then bk++[bareText]else bk)) (λD' kk=>?_) ?_
  ·refine⟨_,rfl,k,0,bk,_,rfl,⟨ask,hbk,ndsk⟩,by omega,by decide,.inr ⟨⟨by omega,by omega⟩,λl H11 hl k11 h11=>?_⟩⟩;have s11:=s10.trans k11;have hW11:=k11 _ _ hW10;have hk11:=k11 _ _ hbk;refine⟨l,_,rfl,.inl (SqL.of h11),rfl,_,rfl,?_⟩;rw[qA]
   by_cases hz:kids bk 0=[]
   rotate_left
   ·rw[qB (λz=>hz (qO (by have:=V.int.inj z;unfold kids;omega)):¬V.int ((qaX bk 0 bk.length).length:Nat)=V.int 0)];refine iteF (kk _ _ ⟨_,rfl,s11,by rw[qcq hz,qX];exact hW11,?_⟩);rw[if_neg hz];exact⟨ask,hk11,ndsk.keep k11.keep λ_ n _=>n.1.1⟩
   rw[qC (by rw[show(qaX bk 0 bk.length)=kids bk 0 from rfl,hz];rfl:V.int ((qaX bk 0 bk.length).length:Nat)=V.int 0)];refine iteT ⟨_,rfl,.inl ⟨rfl,_,SqL.of hk11⟩,by show 0<=sizeLine;decide,λmm hmm=>⟨rfl,λsb H13 k13 stb=>⟨by show 5<=sizeLine;decide,λu hu=>?_⟩⟩⟩;have k12:=qab hmm (.lst []);have k14:=qab hu (.tup [.int 0,.str Kd.text.s,.str (Str.ofString ""),.ref mm,.ref sb]);have s12:=s11.trans k12;have s13:=s12.trans k13;have k1214:=(k12.trans k13).trans k14;have s14:=s13.trans k14;have hk14:=k1214 _ _ hk11;have hW14:=k1214 _ _ hW11;refine⟨k,_,_,rfl,rfl,hk14,qaZ (by rw[qA];omega),?_⟩;have hW15:upd (upd H13 u (.tup [.int 0,.str Kd.text.s,.str (Str.ofString ""),.ref mm,.ref sb])) k (.lst (ask.map V.ref++[.ref u])) W=some (.lst ((w0++w1++w2).map V.str)):=by rw[qal nek.symm];exact hW14
   have hk0:H k=none:=s9.none hk10;refine⟨_,rfl,.inl ⟨rfl,_,SqL.of hW15⟩,W,_,_,rfl,rfl,hW15,?_,kk _ _ ⟨_,rfl,qaE (qaE s14 hk0) hW,by rw[qce hz,qac];simp,?_⟩⟩
   ·rw[qA,qD,qD];exact yY (show w0.length+w1.length+w2.length<=121 by omega) (by decide)
   rw[if_pos hz];refine⟨ask++[u],by rw[qal nek,qac];simp,NdsAt.append (ndsk.keep ((k11.trans k1214).keep.trans (keep_nw.trans (keep_nw.mono λc n=>n.1))) λc n _=>n.1.1) (.cons ?_ .nil)⟩;have kp:∀c o,H10 c=none->upd H13 u (.tup [.int 0,.str Kd.text.s,.str (Str.ofString ""),.ref mm,.ref sb]) c=some o->upd (upd (upd H13 u (.tup [.int 0,.str Kd.text.s,.str (Str.ofString ""),.ref mm,.ref sb])) k (.lst (ask.map V.ref++[.ref u]))) W (.lst ((w0++w1++w2).map V.str++[.str (Str.ofString "bare")])) c=some o:=λc o hc ho=>by
    rw[qal (qar hW10 hc).symm,qal (qar hbk hc).symm];exact ho
   have h12n:=k11.trans k12;have n1:H10 u=none:=(k11.trans (k12.trans k13)).none hu;have n2:H10 mm=none:=k11.none hmm;refine⟨up u (s13.none hu),mm,sb,kp _ _ n1 qac,up mm (s11.none hmm),kp _ _ n2 ((k13.trans k14) _ _ qac),stb.keep (λc o n hc=>kp c o (h12n.none n) (k14 _ _ hc)) λc n _=>up c (s12.none n)⟩
  rintro _ H16 ⟨z2,rfl,s16,hW16,B16⟩;refine⟨_,rfl,_,rfl,(by show 2<=sizeLine;decide),λt ht=>?_⟩;have k17:=qab ht (.tup [.ref k,.ref W]);exact q t _ (s16.trans k17) ⟨k,W,qac,up k (s9.none hk10),BookAt.same B16 k17,up W hW,k17 _ _ hW16⟩
theorem scReadBook:FnScope ["rows", "nodes", "mends", "number", "row", "told", "whole"] ["rows"] (qai sReadBook):=⟨rfl,rfl,rfl,by ac_rfl,rfl,by ac_rfl,by ac_rfl⟩
theorem ok_read_book{f:Addr}{fd:FuncData}(F:Fun K "read_book" "read_book" sReadBook f fd)(T:Bn mg)(gb:∃t,mg "BEHIND_ALL_ROWS" = some (.int (-1) t))(F_read_row:Fx P w K mg base CX0 8 "read_row" ["nodes", "row"] spReadRow)(F_finished_book:Fx P w K mg base CX0 5 "finished_book" ["nodes"] spFinished):FnOk P w K mg base CX0 9 f fd ["rows"] spReadBook:=by
 refine F.ok scReadBook (λvs H Q E h=>?_) (λcdv A outer s H vs Q E hr h=>?_)
 ·obtain⟨p,rows,rfl,_⟩:=h;rfl
 ·obtain⟨p,rows,rfl,hp,le,ro,q⟩:=h;obtain⟨_,g_BEHIND_ALL_ROWS⟩:=gb;have hr_read_row:=hr;have hr_finished_book:Room 5 _:=hr.mono (by decide);refine⟨_,(qad (qaq (i:=1) scReadBook.nd (by rfl) (by trivial) (qay pa_nil))
   (qad (qaq (i:=2) scReadBook.nd (by rfl) (by trivial) (qay pa_nil))
   (qad (qbT rR (by rfl) (qeL (by rfl) T.enumerate (qaa (pv 0) pa_nil)) (qes (by rfl) (qaL (qas (i:=3) scReadBook.nd (by rfl) (by trivial)) (qaL (qas (i:=4) scReadBook.nd (by rfl) (by trivial)) pgs_nil)))
   (qad (qaq (i:=5) scReadBook.nd (by rfl) (by trivial) (qaB F_read_row hr_read_row (by rfl) qaA (qaa (pv 1) (qaa (pv 4) pa_nil))))
   (qad (qaC (qaV qH xW xX mt_extend (pv 1) (qaa (qan ix_tup (pv 5) qaf (λ_ _=>rfl)) pa_nil)))
   (qae (qaC (qaV qH xW xX mt_extend (pv 2) (qaa (qbr (own:=["word"]) (by rfl) (ix:=[3]) (frees:=["number"]) (CompScope.frees (by rfl) (by ac_rfl) (by ac_rfl) (by ac_rfl) (by rfl) (by ac_rfl) (by first | exact qdZ (by rfl) | exact qeG (by rfl) (by rfl))) (qa1 (qan ix_tup (pv 5) qaf (λ_ _=>rfl))) (λcl C s2 H2 fp=>(qas (i:=0) (by show(["word", "number"]:List Str).Nodup;ac_rfl) (by rfl) (by trivial) (by trivial))) (λcl C s2 H2 fp=>qbs) (λcl C s2 H2 fp=>(qaK (qaa (pv 1) (qaa (pv 0) pa_nil))))) pa_nil)))))))
   (qad (qaq (i:=6) scReadBook.nd (by rfl) (by trivial) (qaB F_finished_book hr_finished_book (by rfl) qaA (qaa (pv 1) pa_nil)))
   (qad (qaC (qaV qH xW xX mt_extend (pv 2) (qaa (qbr (own:=["word"]) (by rfl) (CompScope.plain (by rfl) (by ac_rfl) (by ac_rfl) (by ac_rfl)) (qa1 (qan ix_tup (pv 6) qaf (λ_ _=>rfl))) (λcl C s2 H2 fp=>(qas (i:=0) (by show(["word"]:List Str).Nodup;ac_rfl) (by rfl) (by trivial) (by trivial))) (λcl C s2 H2 fp=>qbs) (λcl C s2 H2 fp=>(qaK (qaa (qak (v:=.int (-1)) (by rfl) g_BEHIND_ALL_ROWS ⟨_,rfl⟩) (qaa (pv 0) pa_nil))))) pa_nil)))
   (qae (qap (qaK (qaa (qan ix_tup (pv 6) qaf (λ_ _=>rfl)) (qaa (pv 2) pa_nil)))))))))),?_⟩
  refine⟨by show 0<=sizeLine;decide,λL hL=>⟨by show 0<=sizeLine;decide,λM hM=>?_⟩⟩;have s1:=qab hL (.lst []);have hM0:H M=none:=s1.none hM;have s2:=s1.trans (qab hM (.lst []));have hL2:upd (upd H L (.lst [])) M (.lst []) L=some (.lst []):=by rw[qal (qar qac hM),qac]
  have hM2:upd (upd H L (.lst [])) M (.lst []) M=some (.lst []):=qac;have neLM:L≠M:=qar qac hM;generalize upd (upd H L (.lst [])) M (.lst [])=H2 at s2 hL2 hM2⊢;have upN:∀{H':Hp},Same H H'->(∃o,H' L=some o)->(∃o,H' M=some o)->Up0 (Nw (Nw (qbz H) L) M) H':=λ{H'} sa hl hs b hb=>by
   obtain⟨o1,e1⟩:=hl;obtain⟨o2,e2⟩:=hs;exact qcO (qcO (sa.none hb) e1 hb) e2 hb
  have rdok:=qg4 ro;dsimp only[qbu];refine qbf (λσ' H'=>∃z1 z2 z3 z4,σ'=[some (.ref p),some (.ref L),some (.ref M),z1,z2,z3,z4]/\Same H H'/\BookAt (Nw (Nw (qbz H) L) M) H' L (rdTo rows rows.length).1/\qdS (Nw (Nw (qbz H) L) M) H' M (rdTo rows rows.length).2) (λD' kk=>?_) ?_
  ·refine⟨_,rfl,p,rfl,⟨_,SqL.of (s2 _ _ hp)⟩,qd8 (xs:=rows.map V.str) (λi σ' H'=>∃z1 z2 z3 z4,σ'=[some (.ref p),some (.ref L),some (.ref M),z1,z2,z3,z4]/\Same H H'/\BookAt (Nw (Nw (qbz H) L) M) H' L (rdTo rows i).1/\qdS (Nw (Nw (qbz H) L) M) H' M (rdTo rows i).2) ⟨none,none,none,none,rfl,s2,⟨[],hL2,.nil⟩,[],hM2,.nil⟩ ?_ ?_ ?_⟩
   ·rintro i σ' H' hi ⟨z1,z2,z3,z4,rfl,s3,_⟩;exact SqL.of (s3 _ _ hp)
   ·rintro i x σ' H' t hx ht ⟨z1,z2,z3,z4,rfl,s3,B3,M3⟩;rw[qR]at hx;cases er:rows[i]? with
    | none=>rw[er]at hx;cases hx
    | some r =>
    rw[er]at hx;cases hx;have hi:i<rows.length:=(qI.mp er).1;have k4:=qab ht (.tup [.int (i:Nat),.str r]);have s4:=s3.trans k4;rw[qfv er];have oki:=rdok i;have rm:=qcR rows i;have rw':=qdw (rdTo rows i).1 r;have okn:=(qhb oki (ro r (qP er))).le;rw[qD]at okn;generalize rdTo rows i=st at *;obtain⟨as3,hL3,nds3⟩:=B3;obtain⟨vs3,hM3,ms3⟩:=M3;refine⟨t,_,rfl,SqT.of qac,rfl,_,_,rfl,_,_,rfl,rfl,?_⟩;refine⟨_,rfl,_,rfl,L,r,st.1,_,rfl,BookAt.same ⟨as3,hL3,nds3⟩ k4,oki,ro r (qP er),upN s4 ⟨_,k4 _ _ hL3⟩ ⟨_,k4 _ _ hM3⟩,λtt H5 k5 T5=>?_⟩;generalize qbp st.1 r=rr at *;have s5:=s4.trans k5;have k45:=k4.trans k5;have hL5:=k45 _ _ hL3;have hM5:=k45 _ _ hM3;obtain⟨l,m,et,nl,⟨bs,hl,nds⟩,nm,em⟩:=T5;have lb:bs.length=rr.1.length:=nds.length;have l3:as3.length=st.1.length:=nds3.length;refine⟨_,rfl,.inl ⟨rfl,_,SqL.of hL5⟩,_,rfl,tt,_,_,_,rfl,rfl,SqT.of et,rfl,L,l,_,_,rfl,rfl,hL5,hl,?_,?_⟩
    ·rw[qA,qA];exact xY (qaZ (by omega))
    have k6:KeepN (Nw (Nw (qbz H) L) M) H5 (upd H5 L (.lst (as3.map V.ref++bs.map V.ref))):=keep_nw.mono λb n=>n.1
    have s6:=qaE (o:=.lst (as3.map V.ref++bs.map V.ref)) s5 hL;have hL6:upd H5 L (.lst (as3.map V.ref++bs.map V.ref)) L=some (.lst (as3.map V.ref++bs.map V.ref)):=qac;have hM6:upd H5 L (.lst (as3.map V.ref++bs.map V.ref)) M=some (.lst vs3):=by rw[qal neLM.symm];exact hM5
    have em6:=k6 _ _ nm em;have et6:upd H5 L (.lst (as3.map V.ref++bs.map V.ref)) tt=some (.tup [.ref l,.ref m]):=by rw[qal (qgb et hL5 (by intro z;cases z))];exact et
    have nds6:=(nds3.keep k45.keep λ_ n _=>n).append nds |>.keep k6 λ_ n _=>n
    have ms6:=(ms3.mono λv p h=>MdAt.keep h k45.keep λ_ n _=>n).mono λv p h=>MdAt.keep h k6 λ_ n _=>n
    have lms:vs3.length=st.2.length:=ms3.length;generalize upd H5 L (.lst (as3.map V.ref++bs.map V.ref))=H6 at *;have zl:(rr.2.map V.str).length<sizeLine:=by rw[qA];exact qaZ (by omega)
    refine⟨_,rfl,.inl ⟨rfl,_,SqL.of hM6⟩,_,rfl,tt,_,_,_,rfl,rfl,SqT.of et6,rfl,m,rfl,⟨_,SqL.of em6⟩,qaM (xs:=rr.2.map V.str) (λj ys σ' H'=>Same H6 H'/\Paired (MdAt (Nw (Nw (qbz H) L) M) H') ys ((rr.2.take j).map λy=>((i:Int),y))/\∃z,σ'=[z,some (.int (i:Nat))]) zl ⟨Same.refl H6,.nil,none,rfl⟩ ?_ ?_ ?_⟩
    ·rintro j ys σ' H' hj ⟨k7,pa,_⟩;refine⟨SqL.of (k7 _ _ em6),?_⟩;rw[pa.length,qA,rK];omega
    ·rintro j x ys σ' H' hx ⟨k7,pa,z,rfl⟩;rw[qR]at hx;cases ey:rr.2[j]? with
     | none=>rw[ey]at hx;cases hx
     | some y =>
     rw[ey]at hx;cases hx;refine⟨_,rfl,_,rfl,(by show 2<=sizeLine;decide),λu hu=>⟨k7.trans (qab hu _),?_,_,rfl⟩⟩;rw[rO,ey,xB,qT];exact qaJ (pa.mono λv p h=>MdAt.keep h (qab hu _).keep λ_ n _=>n) (.cons ⟨u,rfl,upN (s6.trans k7) ⟨_,k7 _ _ hL6⟩ ⟨_,k7 _ _ hM6⟩ u hu,qac⟩ .nil)
    ·rintro ys σ' H7 ⟨k7,pa,_⟩ D hD;rw[qA,rM]at pa;have k8:=qab hD (.lst ys);have k78:=k7.trans k8;have hM8:=k78 _ _ hM6;have ly:ys.length=rr.2.length:=by rw[pa.length,qA]
     refine⟨M,D,_,_,rfl,rfl,hM8,qac,xY (yY (show _<=2000 by omega) (by decide)),?_⟩;refine⟨_,_,_,_,rfl,qaE (s6.trans k78) hM0,⟨as3++bs,?_,nds6.keep (k78.keep.trans keep_nw) λ_ n _=>n⟩,vs3++ys,qac,?_⟩
     ·rw[qal neLM,qT];exact k78 _ _ hL6
     ·exact qaJ (ms6.mono λv p h=>MdAt.keep h (k78.keep.trans keep_nw) λ_ n _=>n) (pa.mono λv p h=>MdAt.keep h (k8.keep.trans keep_nw) λ_ n _=>n)
   ·rintro σ' H' ⟨z1,z2,z3,z4,rfl,s3,B3,M3⟩;rw[qA]at B3 M3;exact kk _ _ ⟨z1,z2,z3,z4,rfl,s3,B3,M3⟩
  rintro _ H3 ⟨z1,z2,z3,z4,rfl,s3,B3,M3⟩;have okA:=rdok rows.length;have rm:=qcR rows rows.length;have er:qcx rows=(qdU (rdTo rows rows.length).1,(rdTo rows rows.length).2++(qbA (rdTo rows rows.length).1).map λy=>((-1:Int),y)):=rfl;rw[er]at q;generalize rdTo rows rows.length=st at *;obtain⟨as3,hL3,nds3⟩:=B3;obtain⟨vs3,hM3,ms3⟩:=M3;refine⟨_,rfl,L,st.1,_,rfl,⟨as3,hL3,nds3⟩,okA,upN s3 ⟨_,hL3⟩ ⟨_,hM3⟩,λtt H5 k5 T5=>?_⟩;have ew:=qeK okA;have s5:=s3.trans k5;have hM5:=k5 _ _ hM3;obtain⟨l,m,et,nl,B5,nm,em⟩:=T5;generalize qbA st.1=wds at *;have zl:(wds.map V.str).length<sizeLine:=by rw[qA];exact qaZ (by omega)
  have lms:vs3.length=st.2.length:=ms3.length;refine⟨_,rfl,.inl ⟨rfl,_,SqL.of hM5⟩,_,rfl,tt,_,_,_,rfl,rfl,SqT.of et,rfl,m,rfl,⟨_,SqL.of em⟩,qaM (xs:=wds.map V.str) (λj ys σ' H'=>Same H5 H'/\Paired (MdAt (Nw (Nw (qbz H) L) M) H') ys ((wds.take j).map λy=>((-1:Int),y))/\∃z,σ'=[z]) zl ⟨Same.refl H5,.nil,none,rfl⟩ ?_ ?_ ?_⟩
  ·rintro j ys σ' H' hj ⟨k7,pa,_⟩;refine⟨SqL.of (k7 _ _ em),?_⟩;rw[pa.length,qA,rK];omega
  ·rintro j x ys σ' H' hx ⟨k7,pa,z,rfl⟩;rw[qR]at hx;cases ey:wds[j]? with
   | none=>rw[ey]at hx;cases hx
   | some y =>
   rw[ey]at hx;cases hx;refine⟨_,rfl,(by show 2<=sizeLine;decide),λu hu=>⟨k7.trans (qab hu _),?_,_,rfl⟩⟩;rw[rO,ey,xB,qT];exact qaJ (pa.mono λv p h=>MdAt.keep h (qab hu _).keep λ_ n _=>n) (.cons ⟨u,rfl,upN (s5.trans k7) ⟨_,k7 _ _ (k5 _ _ hL3)⟩ ⟨_,k7 _ _ hM5⟩ u hu,qac⟩ .nil)
  ·rintro ys σ' H7 ⟨k7,pa,_⟩ D hD;rw[qA,rM]at pa;have k8:=qab hD (.lst ys);have k78:=k7.trans k8;have hM8:=k78 _ _ hM5;have ly:ys.length=wds.length:=by rw[pa.length,qA]
   refine⟨M,D,_,_,rfl,rfl,hM8,qac,xY (yY (show _<=2000 by omega) (by decide)),?_⟩;have et8:upd (upd H7 D (.lst ys)) M (.lst (vs3++ys)) tt=some (.tup [.ref l,.ref m]):=by rw[qal (qgb (k78 _ _ et) hM8 (by intro z;cases z))];exact k78 _ _ et
   have s9:=qaE (o:=.lst (vs3++ys)) (s5.trans k78) hM0;have hM9:upd (upd H7 D (.lst ys)) M (.lst (vs3++ys)) M=some (.lst (vs3++ys)):=qac;have k9:KeepN (Nw (Nw (qbz H) L) M) (upd H7 D (.lst ys)) (upd (upd H7 D (.lst ys)) M (.lst (vs3++ys))):=keep_nw;obtain⟨bs,hl,nds⟩:=B5;have hl9:=k9 _ _ nl (k78 _ _ hl);refine⟨_,rfl,tt,_,_,_,rfl,rfl,SqT.of et8,rfl,_,rfl,(by show 2<=sizeLine;decide),λt ht=>?_⟩;have k10:=qab ht (.tup [.ref l,.ref M]);refine q t l M _ (s9.trans k10) (s9.none ht) qac nl.1.1 ⟨bs,k10 _ _ hl9,nds.keep ((k78.keep.trans k9).trans k10.keep) λ_ n _=>n.1.1⟩ hM0 ⟨vs3++ys,k10 _ _ hM9,?_⟩ nl.2;exact qaJ (ms3.mono λv p h=>MdAt.keep h ((k5.trans k78).keep.trans (k9.trans k10.keep)) λ_ n _=>n.1.1) (pa.mono λv p h=>MdAt.keep h (k8.keep.trans (k9.trans k10.keep)) λ_ n _=>n.1.1)
end
end K09
namespace Gen
open PySem L2 Bk
def StuffW:Kd->List Th->Prop
 | .picture,l=>∃a b:Int,l=[.int a,.int b]/\1<=a/\a<=2000/\1<=b/\b<=2000
 | .text,l | .head,l | .note,l=>(∀x∈l,PcOk x)/\(∃x r,l=x::r)/\l.length<=64
 | _,l=>l=[]
structure FormW(d:Nd):Prop where
 nm:d.nm=noName\/Name d.nm
 mks:d.mks.length<=6/\(∀m∈d.mks,Name m)/\True
 st:StuffW d.k d.st
theorem qhJ(c:Nat)(r:List Nat):∀{w:List Nat},c∉w->qbS c (w++c::r)=w::qbS c r
 | [], _ => by
   show qbS c (c::r)=_
   rw[qbS,if_pos rfl]
 | a :: w, h => by
   have h1:a≠c:=λz=>h (by rw[z];exact qM)
   rw[yA,qbS,if_neg h1,qhJ c r λm=>h (qQ _ m)]
   rfl
theorem cut_join:∀{l:List Str},l≠[]->(∀x∈l,32∉x.cps.toList)->(qbS 32 (Str.join (T " ") l).cps.toList).map mkS=l
 | [],h,_=>absurd rfl h
 | [x], _, h => by
   rw[qdB,qfc 32 (h x qM)]
   rfl
 | x :: y :: r, _, h => by
   rw[qcI,qa7,qa7,show(T " ").cps.toList=[32]from by ac_rfl,xT,List.singleton_append,qhJ 32 _ (h x qM),r8,cut_join (by simp) λz hz=>h z (qQ _ hz)]
def allW(d:Nd):List Str:=((d.k.s::w1 d)++w2 d)++w3 d
theorem qfy{x:Str}(h:Name x):∀c∈x.cps.toList,c≠32:=λc hc z=>by
 have:=h.2.2 c hc;unfold qg2 at this;omega
theorem qgf{x:Str}(h:Word x):∀c∈x.cps.toList,c≠32/\c≠42/\c≠123:=λc hc=>(by decide:∀c∈wordSigns,c≠32/\c≠42/\c≠123) c (h.2.2 c hc)
theorem qcL(t:Int):(qcu t).cps.toList=List.replicate t.toNat 42:=by
 unfold qcu;have all:∀n,(repS (T "*") n).cps.toList=List.replicate n 42:=by
  intro n;have go:∀(n:Nat) (acc:Array Nat),((List.replicate n (T "*").cps).foldl (·++ ·) acc).toList=acc.toList++List.replicate n 42:=by
   intro n
   induction n with
   | zero=>intro acc;simp
   | succ n ih =>
     intro acc
     rw[rN,yO,ih,vE,show(T "*").cps.toList=[42]from by ac_rfl,rN,xT]
     rfl
  have:=go n #[];simpa[repS]using this
 exact all _
theorem qhF(n:Nat):(gtS n).cps.toList=List.replicate n 62:=by
 unfold gtS;have go:∀(n:Nat) (acc:Array Nat),((List.replicate n (T ">").cps).foldl (·++ ·) acc).toList=acc.toList++List.replicate n 62:=by
  intro n
  induction n with
  | zero=>intro acc;simp
  | succ n ih =>
    intro acc
    rw[rN,yO,ih,vE,show(T ">").cps.toList=[62]from by ac_rfl,rN,xT]
    rfl
 have:=go n #[];simpa[repS]using this
def qiE(n:Nat):Bool:=let x:=Str.ofString (toString (n:Int));qdp x && decide (numI x.cps.toList=n) && !decide (32∈x.cps.toList) && decide (x≠T "|")
theorem num_all:∀n∈(List.range 2001).drop 1,qiE n=true:=by ac_rfl
theorem qeW{n:Int}(h1:1<=n)(h2:n<=2000):qbj (T (toString n))=n/\32∉(T (toString n)).cps.toList/\T (toString n)≠T "|":=by
 have hm:n.toNat∈(List.range 2001).drop 1:=by
  rw[List.mem_iff_getElem?];refine⟨n.toNat-1,?_⟩;rw[List.getElem?_drop,vF (by omega)]
  congr 1
  omega
 have:=num_all n.toNat hm;unfold qiE at this;rw[show((n.toNat:Nat):Int)=n by omega]at this;simp only[Bool.and_eq_true,decide_eq_true_iff,Bool.not_eq_true',decide_eq_false_iff_not]at this;obtain⟨⟨⟨a,b⟩,c⟩,d⟩:=this;refine⟨?_,c,d⟩;unfold qbj;rw[a,if_pos rfl,b];omega
def zeroN:Th->Th
 | .tri .note (.inr _) t=>.tri .note (.inr 0) t
 | x=>x
theorem qe7(n:Nat)(l:List Nat)(h:l.head?≠some 42):(List.replicate n 42++l).dropWhile (·== 42)=l:=by
 induction n with
 | zero =>
   cases l with
   | nil=>rfl
   | cons a r =>
     have:a≠42:=λz=>h (by rw[z];rfl)
     rw[vI,yP,vO (by simpa using this)]
 | succ n ih=>rw[rN,yA,List.dropWhile_cons_of_pos (by simp),ih]
theorem brace_n:(T "{").cps.toList=[123]:=by ac_rfl
theorem brace_m:(T "}").cps.toList=[125]:=by ac_rfl
theorem qeY{x:Str}(h:x.cps.toList≠[123,125]):x≠T "{}":=by
 rintro rfl;exact h (by ac_rfl)
theorem read_piece{x:Th}(h:PcOk x):qaI (thS x)=some (zeroN x):=by
 cases x with
 | int n=>cases h
 | tri s y t =>
   cases s<;>cases y<;>first | (exfalso;exact h) | skip
   · rename_i w
     obtain⟨hw,t0,t3⟩:=h
     have hl:(thS (.tri .word (.inl w) t)).cps.toList=List.replicate t.toNat 42++w.cps.toList:=by
       show(qcu t++w).cps.toList=_
       rw[qa7,qcL]
     have hd:w.cps.toList.head?≠some 42:=λz=>by
       cases e:w.cps.toList with
       | nil=>rw[e]at z;cases z
       | cons a r =>
         rw[e]at z
         exact(qgf hw a (by rw[e];exact qM)).2.1 (rD z)
     have hd2:w.cps.toList.head?≠some 123:=λz=>by
       cases e:w.cps.toList with
       | nil=>rw[e]at z;cases z
       | cons a r =>
         rw[e]at z
         exact(qgf hw a (by rw[e];exact qM)).2.2 (rD z)
     have th:thing (thS (.tri .word (.inl w) t))=w.cps.toList:=by unfold thing;rw[hl,qe7 _ _ hd]
     have ln:((thS (.tri .word (.inl w) t)).length:Int)-(thing (thS (.tri .word (.inl w) t))).length=t:=by
       rw[th,<-qbM,hl,qD,xM]
       omega
     have ne:thS (.tri .word (.inl w) t)≠T "{}":=qeY λz=>by
       rw[hl]at z
       cases e:t.toNat with
       | zero =>
         rw[e,vI,yP]at z
         exact hd2 (by rw[z];rfl)
       | succ n =>
         rw[e,rN,yA]at z
         have:=(List.cons.inj z).1
         cases this
     have pe:qbW (thS (.tri .word (.inl w) t))=.tri .word (.inl w) t:=by
       unfold qbW
       rw[if_neg (λz=>hd2 (by rw[th]at z;exact z.1)),ln,th]
     unfold qaI
     rw[if_neg ne,pe,if_pos (qdq (x:=.tri .word (.inl w) t) ⟨hw,t0,t3⟩)]
     rfl
   · rename_i n
     obtain⟨hn,t0,t3⟩:=h
     have hl:(thS (.tri .page (.inl n) t)).cps.toList=List.replicate t.toNat 42++(123::(n.cps.toList++[125])):=by
       show(qcu t++T "{" ++ n++T "}").cps.toList=_
       rw[qa7,qa7,qa7,qcL,brace_n,brace_m]
       simp
     have th:thing (thS (.tri .page (.inl n) t))=123::(n.cps.toList++[125]):=by unfold thing;rw[hl,qe7 _ _ (by simp)]
     have ln:((thS (.tri .page (.inl n) t)).length:Int)-(thing (thS (.tri .page (.inl n) t))).length=t:=by
       rw[th,<-qbM,hl,qD,xM]
       omega
     have n1:n.cps.toList≠[]:=λz=>by
       have:=hn.1
       rw[<-qbM,z]at this
       simp at this
     have ne:thS (.tri .page (.inl n) t)≠T "{}":=qeY λz=>by
       rw[hl]at z
       have:=xN List.length z
       simp only[List.length_append,List.length_cons,List.length_nil,List.length_replicate]at this
       have:n.cps.toList.length=0:=by omega
       exact n1 (qO this)
     have pe:qbW (thS (.tri .page (.inl n) t))=.tri .page (.inl n) t:=by
       unfold qbW
       rw[if_pos (by rw[th];exact⟨rfl,by simp[List.getLast?_cons]⟩),ln,th]
       have e:mkS (qg1 (123::(n.cps.toList++[125])))=n:=by
         unfold qg1
         rw[wK,wH,List.dropLast_concat]
       rw[e]
     unfold qaI
     rw[if_neg ne,pe,if_pos (qdq (x:=.tri .page (.inl n) t) ⟨hn,t0,t3⟩)]
     rfl
   · rename_i k
     obtain⟨_,_,t0⟩:=h
     subst t0
     show qaI (T "{}")=some (qbZ 0)
     unfold qaI
     rw[if_pos rfl]
theorem pc_sp{x:Th}(h:PcOk x):32∉(thS x).cps.toList:=by
 cases x with
 | int n=>cases h
 | tri s y t =>
   cases s<;>cases y<;>first | (exfalso;exact h) | skip
   · rename_i w
     show 32∉(qcu t++w).cps.toList
     rw[qa7,qcL]
     intro z
     rcases qY.mp z with z | z
     · cases yI z
     · exact(qgf h.1 32 z).1 rfl
   · rename_i n
     show 32∉(qcu t++T "{" ++ n++T "}").cps.toList
     rw[qa7,qa7,qa7,qcL,brace_n,brace_m]
     intro z
     rcases qY.mp z with z | z
     · rcases qY.mp z with z | z
       · rcases qY.mp z with z | z
         · cases yI z
         · have:(32:Nat)=123:=by simpa using z
           cases this
       · exact qfy h.1 32 z rfl
     · have:(32:Nat)=125:=by simpa using z
       cases this
   · show 32∉(T "{}").cps.toList
     ac_rfl
theorem st_sp{k:Kd}{st:List Th}(h:StuffW k st):∀x∈st,32∉(thS x).cps.toList:=by
 intro x hx;cases k<;>first
  | (obtain⟨h1,_⟩:=h;exact pc_sp (h1 x hx))
  | (obtain ⟨a,b,rfl,a1,a2,b1,b2⟩:=h
     rcases qV.mp hx with rfl | hx
     · exact(qeW a1 a2).2.1
     · have:x=.int b:=(by simpa using hx)
       subst this
       exact(qeW b1 b2).2.1)
  | (have:st=[]:=h;subst this;cases hx)
theorem hash_l:(T "#").cps.toList=[35]:=by ac_rfl
theorem dot_l:(T ".").cps.toList=[46]:=by ac_rfl
theorem bar_l:(T "|").cps.toList=[124]:=by ac_rfl
theorem qhu(c:Nat)(x:Str)(y:Str)(h:y.cps.toList=[c]):tl1 (y++x)=x:=by
 unfold tl1;rw[qa7,h];rfl
theorem qhj(c:Nat)(x:Str)(y:Str)(h:y.cps.toList=[c]):(y++x).cps.toList.head?=some c:=by
 rw[qa7,h];rfl
theorem qhD(c:Nat){x y:Str}(h:y.cps.toList=[c])(n:Name x):labB c (y++x)=true:=by
 unfold labB;rw[qhj c x y h,qhu c x y h,qfa n];simp
theorem qh2{c e:Nat}{x y:Str}(h:y.cps.toList=[e])(ne:e≠c):labB c (y++x)=false:=by
 unfold labB;rw[qhj e x y h,qB (λz=>ne (rD z))];rfl
theorem qhd{e:Nat}{x y:Str}(h:y.cps.toList=[e])(ne:e≠124):y++x≠T "|":=λz=>by
 have:=xN (λs:Str=>s.cps.toList.head?) z;rw[show(y++x).cps.toList.head?=some e from qhj e x y h,show(T "|").cps.toList.head?=some 124 from by rw[bar_l];rfl]at this;exact ne (rD this)
theorem qiC(k:Kd):32∉k.s.cps.toList/\k.s≠T "|":=by cases k<;>ac_rfl
theorem qhA{d:Nd}(h:FormW d):∀x∈w1 d,d.nm≠noName/\x=T "#" ++ d.nm/\Name d.nm:=λx hx=>by
 unfold w1 at hx
 split at hx
 ·cases hx
 ·rename_i n;exact⟨n,by simpa using hx,h.nm.resolve_left n⟩
theorem allW_sp{d:Nd}(h:FormW d):∀x∈allW d,32∉x.cps.toList:=by
 intro x hx;unfold allW at hx;rcases qY.mp hx with hx | hx
 ·rcases qY.mp hx with hx | hx
  ·rcases qV.mp hx with rfl | hx
   ·exact(qiC d.k).1
   ·obtain⟨_,rfl,n⟩:=qhA h x hx;rw[qa7,hash_l];intro z;rcases qY.mp z with z | z
    ·have:(32:Nat)=35:=by simpa using z
     cases this
    ·exact qfy n 32 z rfl
  ·obtain⟨m,hm,rfl⟩:=rG.mp hx;have n:=h.mks.2.1 m hm;rw[qa7,dot_l];intro z;rcases qY.mp z with z | z
   ·have:(32:Nat)=46:=by simpa using z
    cases this
   ·exact qfy n 32 z rfl
 ·unfold w3 at hx
  split at hx
  ·rcases qV.mp hx with rfl | hx
   ·rw[bar_l];decide
   ·obtain⟨t,ht,rfl⟩:=rG.mp hx;exact st_sp h.st t ht
  ·cases hx
theorem kd_head(k:Kd)(hk:k∈kindsAll):∃a r,k.s.cps.toList=a::r/\a≠62:=by
 have all:∀k∈kindsAll,(k.s.cps.toList.head?.map λa=>decide (a≠62))=some true:=by ac_rfl
 have:=all k hk;cases e:k.s.cps.toList with
 | nil=>rw[e]at this;cases this
 | cons a r =>
   rw[e]at this
   exact⟨a,r,rfl,rL (rD this)⟩
theorem drop_gts(n:Nat)(l:List Nat){a:Nat}{r:List Nat}(e:l=a::r)(h:a≠62):(List.replicate n 62++l).dropWhile (·== 62)=l/\((List.replicate n 62++l).takeWhile (·== 62)).length=n:=by
 subst e
 induction n with
 | zero =>
   rw[vI,yP,vO (by simpa using h),List.takeWhile_cons_of_neg (by simpa using h)]
   exact⟨rfl,rfl⟩
 | succ n ih =>
   rw[rN,yA,List.dropWhile_cons_of_pos (by simp),List.takeWhile_cons_of_pos (by simp),rC,ih.1,ih.2]
   exact⟨rfl,rfl⟩
theorem node_head{d:Nd}(hk:d.k∈kindsAll):∃a r,(qdR d).cps.toList=a::r/\a≠62:=by
 obtain⟨a,r,e,n⟩:=kd_head d.k hk;have:∃t,(qdR d).cps.toList=d.k.s.cps.toList++t:=by
  unfold qdR;cases hw:(w1 d++w2 d)++w3 d with
  | nil =>
    refine⟨[],?_⟩
    have:((d.k.s::w1 d)++w2 d)++w3 d=d.k.s::((w1 d++w2 d)++w3 d):=by simp
    rw[this,hw,qdB,qX]
  | cons y t =>
    have:((d.k.s::w1 d)++w2 d)++w3 d=d.k.s::((w1 d++w2 d)++w3 d):=by simp
    rw[this,hw,qcI,qa7,qa7]
    exact⟨_,xT ..⟩
 obtain⟨t,et⟩:=this;exact⟨a,r++t,by rw[et,e];rfl,n⟩
theorem qfM{d:Nd}(l:Nat)(h:FormW d)(hk:d.k∈kindsAll):qbg (gtS l++qdR d)=allW d/\qcC (gtS l++qdR d)=l:=by
 obtain⟨a,r,e,n⟩:=node_head hk;have:=drop_gts l (qdR d).cps.toList e n;unfold qbg qcC;rw[qa7,qhF,this.1,this.2];exact⟨cut_join (by simp) (allW_sp h),rfl⟩
theorem allW_bar{d:Nd}(h:FormW d):(∀x∈d.k.s::(w1 d++w2 d),x≠T "|"):=by
 intro x hx;rcases qV.mp hx with rfl | hx
 ·exact(qiC d.k).2
 rcases qY.mp hx with hx | hx
 ·obtain⟨_,rfl,_⟩:=qhA h x hx;exact qhd hash_l (by decide)
 ·obtain⟨m,_,rfl⟩:=rG.mp hx;exact qhd dot_l (by decide)
theorem idx_app{a b:List Str}(h:∀x∈a,x≠T "|"):(a++b).findIdx (·== T "|")=a.length+b.findIdx (·== T "|"):=by
 induction a with
 | nil=>simp
 | cons x r ih =>
   rw[yA,List.findIdx_cons,show(x == T "|")=false from by simpa using h x qM,cond_false,ih λy hy=>h y (qQ _ hy),rC]
   omega
theorem qhN{d:Nd}(h:FormW d):qb2 (allW d)=1+(w1 d++w2 d).length:=by
 have e:allW d=(d.k.s::(w1 d++w2 d))++w3 d:=by unfold allW;simp
 unfold qb2;rw[e,idx_app (allW_bar h),rC];unfold w3
 split
 ·rw[List.findIdx_cons,show(T "|" == T "|")=true from by simp,cond_true];omega
 ·rw[List.findIdx_nil];omega
theorem qhM{d:Nd}(h:FormW d):qbG (allW d)=w1 d++w2 d:=by
 unfold qbG;rw[qhN h];have e:allW d=d.k.s::((w1 d++w2 d)++w3 d):=by unfold allW;simp
 rw[e,wK,wH,Nat.add_sub_cancel_left,List.take_left]
theorem rest_of{d:Nd}(h:FormW d):qck (allW d)=d.st.map thS:=by
 unfold qck;rw[qhN h];have e:allW d=(d.k.s::(w1 d++w2 d))++w3 d:=by unfold allW;simp
 rw[e,show 1+(w1 d++w2 d).length+1=(d.k.s::(w1 d++w2 d)).length+1 by rw[rC];omega,List.drop_append];rw[yU (by omega),yP,Nat.add_sub_cancel_left];unfold w3
 split
 ·rfl
 ·rename_i z;rw[qO (Nat.eq_zero_of_not_pos z)];rfl
theorem marks_all{d:Nd}(h:FormW d):((w2 d).map (labB 46)).all id=true/\(w2 d).filter (labB 46)=w2 d:=by
 have all:∀x∈w2 d,labB 46 x=true:=λx hx=>by
  obtain⟨m,hm,rfl⟩:=rG.mp hx;exact qhD 46 dot_l (h.mks.2.1 m hm)
 refine⟨?_,List.filter_eq_self.mpr all⟩;rw[yH];intro b hb;obtain⟨x,hx,rfl⟩:=rG.mp hb;exact all x hx
theorem labs_read{d:Nd}(h:FormW d):qcD (w1 d++w2 d)=true/\qbV (w1 d++w2 d)=d.nm/\qbo (w1 d++w2 d)=d.mks:=by
 obtain⟨ma,mf⟩:=marks_all h;have mk:(w2 d).map tl1=d.mks:=by
  unfold w2;rw[xE];have:(tl1∘λx=>T "." ++ x)=id:=by
   funext m;exact qhu 46 m (T ".") dot_l
  rw[this,List.map_id]
 by_cases hn:d.nm=noName
 ·have e1:w1 d=[]:=by unfold w1;rw[if_pos hn]
  rw[e1,yP];have f1:qbO (w2 d)=false:=by
   cases e:w2 d with
   | nil=>rfl
   | cons x r =>
     have hx:x∈w2 d:=by rw[e];exact qM
     obtain⟨m,hm,rfl⟩:=rG.mp hx
     exact qh2 dot_l (by decide)
  refine⟨?_,?_,?_⟩
  ·unfold qcD;rw[f1];exact ma
  ·unfold qbV;rw[f1,hn];rfl
  ·unfold qbo;rw[mf,mk]
 ·have nm:=h.nm.resolve_left hn;have e1:w1 d=[T "#" ++ d.nm]:=by unfold w1;rw[if_neg hn]
  have f1:qbO (w1 d++w2 d)=true:=by rw[e1];exact qhD 35 hash_l nm
  refine⟨?_,?_,?_⟩
  ·unfold qcD;rw[f1,if_pos rfl,e1];exact ma
  ·unfold qbV;rw[f1,if_pos rfl,e1];exact qhu 35 d.nm (T "#") hash_l
  ·unfold qbo;rw[xQ,mf,e1,show[T "#" ++ d.nm].filter (labB 46)=[]from List.filter_cons_of_neg (by rw[qh2 hash_l (by decide)];decide),yP,mk]
theorem stuff_read{k:Kd}{st:List Th}(h:StuffW k st):qbb k (st.map thS)=some (st.map zeroN)/\(qaS k=false->st=[]):=by
 by_cases hp:k=.picture
 ·subst hp;obtain⟨a,b,rfl,a1,a2,b1,b2⟩:=h;refine⟨?_,λz=>by cases z⟩;unfold qbb;have e:(([Th.int a,Th.int b].map thS).map λx=>Th.int (qbj x))=[.int a,.int b]:=by
   show[Th.int (qbj (T (toString a))),Th.int (qbj (T (toString b)))]=_;rw[(qeW a1 a2).1,(qeW b1 b2).1]
  rw[if_pos rfl,e,if_pos ⟨a,b,rfl,a1,a2,b1,b2⟩];rfl
 ·by_cases ho:ofPieces k=true
  ·have hk:k∈[Kd.text,.head,.note]:=by cases k<;>first | (cases ho;done) | decide
   obtain⟨pc,⟨x,r,e⟩⟩:(∀x∈st,PcOk x)/\(∃x r,st=x::r):=by cases k<;>first | (cases ho;done) | exact⟨h.1,h.2.1⟩
   have hs:qaS k=true:=by unfold qaS;rw[qC hk,Bool.or_true]
   refine⟨?_,λz=>by rw[hs]at z;cases z⟩;have e1:(st.map thS).map qaI=(st.map zeroN).map some:=by
    rw[xE,xE];exact List.map_congr_left λx hx=>read_piece (pc x hx)
   have e2:(st.map thS).filterMap qaI=st.map zeroN:=by
    have:(st.map thS).filterMap qaI=((st.map thS).map qaI).filterMap id:=by rw[vP (f:=qaI) (g:=id) (l:=st.map thS)];rfl
    rw[this,e1,vP];exact List.filterMap_some
   unfold qbb;rw[if_neg hp,hs,e1,e2];have e3:((st.map zeroN).map some).any Option.isNone=false:=by
    rw[vU];intro o ho;obtain⟨y,_,rfl⟩:=rG.mp ho;simp
   rw[e3,qA,e,qC (by simp:0<(x::r).length)];rfl
  ·have ho:ofPieces k=false:=by simpa using ho
   have st0:st=[]:=by cases k<;>first | exact absurd rfl hp | exact h | exact absurd ho (by decide)
   have hs:qaS k=false:=by
    unfold qaS;cases k<;>first | exact absurd rfl hp | rfl | exact absurd ho (by decide)
   subst st0;refine⟨?_,λ_=>rfl⟩;unfold qbb;rw[if_neg hp,hs];rfl
theorem kind_self(k:Kd)(hk:k∈kindsAll):kindOf k.s=some k:=by
 have all:∀k∈kindsAll,kindOf k.s=some k:=by ac_rfl
 exact all k hk
theorem parts_written{d:Nd}(l:Nat)(h:FormW d)(hk:d.k∈kindsAll):qbB (gtS l++qdR d)=some ⟨(l:Int),d.k,d.nm,d.mks,d.st.map zeroN⟩:=by
 obtain⟨rw1,rl⟩:=qfM l h hk;obtain⟨a1,a2,a3⟩:=labs_read h;obtain⟨s1,s2⟩:=stuff_read h.st;unfold qbB;rw[rw1,rl,qhM h,rest_of h,a1,a2,a3,show(allW d).headD noName=d.k.s from rfl,kind_self d.k hk];dsimp only;rw[s1];have e:(!qaS d.k && decide (qb2 (allW d)<(allW d).length))=false:=by
  cases hs:qaS d.k with
  | true=>rfl
  | false =>
    rw[qhN h]
    have:(allW d).length=1+(w1 d++w2 d).length:=by
      unfold allW w3
      rw[s2 hs]
      simp
      omega
    rw[this]
    simp
 rw[e];rfl
theorem qhl{n:Int}(h1:1<=n)(h2:n<=2000):(T (toString n)).length<=4:=by
 have h:=(qeW h1 h2).1;unfold qbj at h
 split at h
 ·rename_i z;unfold qdp at z;rw[rH,rH,rA]at z;exact z.1.1.2
 ·omega
theorem qhs{n:Int}(h1:1<=n)(h2:n<=2000):Low (T (toString n)):=by
 have h:=(qeW h1 h2).1;unfold qbj at h
 split at h
 ·rename_i z;unfold qdp at z;rw[rH,all_map]at z;refine qek λc hc=>?_
  have:=qiq (rL (z.2 c hc));unfold Fig at this;omega
 ·omega
theorem qcw{x y:Str}(h:Low x)(k:Low y):Low (x++y):=qek λa ha=>by
 rw[qa7]at ha;unfold Low at h k;rw[yG]at h k;rcases qY.mp ha with z | z
 ·exact rL (h a (by simpa using z))
 ·exact rL (k a (by simpa using z))
theorem qgq(t:Int):Low (qcu t):=qek λc hc=>by
 rw[qcL]at hc;rw[yI hc];decide
theorem T_low1:Low (T "{")/\Low (T "}")/\Low (T "{}")/\Low (T "#")/\Low (T ".")/\Low (T "|")/\Low (T " "):=by
 unfold Low;ac_rfl
theorem pc_raw{x:Th}(h:PcOk x):Low (thS x)/\(thS x).length<=30:=by
 cases x with
 | int n=>cases h
 | tri s y t =>
   cases s<;>cases y<;>first | (exfalso;exact h) | skip
   · rename_i w
     refine⟨qcw (qgq t) h.1.low,?_⟩
     show(qcu t++w).length<=30
     rw[qaW]
     have:=qcY h.2.2
     have:=h.1.2.1
     omega
   · rename_i n
     refine⟨qcw (qcw (qcw (qgq t) T_low1.1) h.1.low) T_low1.2.1,?_⟩
     show(qcu t++T "{" ++ n++T "}").length<=30
     rw[qaW,qaW,qaW]
     have:=qcY h.2.2
     have:=h.1.2.1
     have:(T "{").length=1:=by ac_rfl
     have:(T "}").length=1:=by ac_rfl
     omega
   · exact⟨T_low1.2.2.1,by show(T "{}").length<=30;ac_rfl⟩
theorem qih{k:Kd}{st:List Th}(h:StuffW k st):st.length<=64/\∀x∈st,Low (thS x)/\(thS x).length<=30:=by
 have hl:st.length<=64:=by
  cases k<;>first
   | exact h.2.2
   | (obtain⟨a,b,rfl,_⟩:=h;show 2<=64;decide)
   | (have:st=[]:=h;subst this;show 0<=64;decide)
 refine⟨hl,λx hx=>?_⟩;cases k<;>first
  | (obtain⟨h1,_⟩:=h;exact pc_raw (h1 x hx))
  | (obtain ⟨a,b,rfl,a1,a2,b1,b2⟩:=h
     rcases qV.mp hx with rfl | hx
     · exact⟨qhs a1 a2,qS (qhl a1 a2) (by decide)⟩
     · have:x=.int b:=(by simpa using hx)
       subst this
       exact⟨qhs b1 b2,qS (qhl b1 b2) (by decide)⟩)
  | (have:st=[]:=h;subst this;cases hx)
theorem kd_low(k:Kd):Low k.s/\k.s.length<=30:=by
 refine⟨?_,qS (qig k) (by decide)⟩;cases k<;>(unfold Low;ac_rfl)
theorem allW_raw{d:Nd}(h:FormW d):(∀x∈allW d,Low x/\x.length<=30)/\(allW d).length<=73/\(w1 d++w2 d).length<=7:=by
 have l1:(w1 d).length<=1:=by unfold w1;split<;>simp
 have l2:(w2 d).length<=6:=by unfold w2;rw[qA];exact h.mks.1
 obtain⟨s1,s2⟩:=qih h.st;refine⟨λx hx=>?_,?_,by rw[qD];omega⟩
 ·unfold allW at hx;rcases qY.mp hx with hx | hx
  ·rcases qY.mp hx with hx | hx
   ·rcases qV.mp hx with rfl | hx
    ·exact kd_low d.k
    ·obtain⟨_,rfl,n⟩:=qhA h x hx;refine⟨qcw T_low1.2.2.2.1 n.low,?_⟩;rw[qaW];have:=n.2.1;have:(T "#").length=1:=by ac_rfl
     omega
   ·obtain⟨m,hm,rfl⟩:=rG.mp hx;have n:=h.mks.2.1 m hm;refine⟨qcw T_low1.2.2.2.2.1 n.low,?_⟩;rw[qaW];have:=n.2.1;have:(T ".").length=1:=by ac_rfl
    omega
  ·unfold w3 at hx
   split at hx
   ·rcases qV.mp hx with rfl | hx
    ·exact⟨T_low1.2.2.2.2.2.1,by ac_rfl⟩
    ·obtain⟨t,ht,rfl⟩:=rG.mp hx;exact s2 t ht
   ·cases hx
 ·unfold allW w3;rw[qD,qD,rC]
  split
  ·rw[rC,qA];omega
  ·simp;omega
theorem join_low:∀{l:List Str},(∀x∈l,Low x)->Low (Str.join (T " ") l)
 | [],_=>by unfold Low;ac_rfl
 | [x],h=>by rw[qdB];exact h x qM
 | x :: y :: r, h => by
   rw[qcI]
   exact qcw (qcw (h x qM) T_low1.2.2.2.2.2.2) (join_low λz hz=>h z (qQ _ hz))
theorem row_ok{d:Nd}{l:Nat}(h:FormW d)(hk:d.k∈kindsAll)(l1:l<=1000):RowOk (gtS l++qdR d):=by
 obtain⟨a1,a2,a3⟩:=allW_raw h;obtain⟨rw1,_⟩:=qfM l h hk;refine⟨?_,?_,?_,?_⟩
 ·refine qcw (qek λc hc=>?_) (join_low λx hx=>(a1 x hx).1);rw[qhF]at hc;rw[yI hc];decide
 ·rw[qaW,qie];have:=qgz (B:=30) (allW d) λx hx=>(a1 x hx).2
  have e:qdR d=Str.join (T " ") (allW d):=rfl;rw[e];have:=u7 30 a2;omega
 ·rw[rw1];exact⟨λx hx=>⟨(a1 x hx).1,qS (a1 x hx).2 (by decide)⟩,by omega⟩
 ·rw[rw1,qhM h];omega
end Gen
namespace L2
open PySem PyProof
section
variable{X:Cx}
def rEqN(neg:Bool):R2:=λx y H Q=>∃(a b:Addr) (xs:List V),x=.ref a/\y=.ref b/\H a=some (.lst xs)/\H b=some (.lst [])/\Q (.bl (if neg then !xs.isEmpty else xs.isEmpty)) H
theorem qfR(hu:X.A.units+64<cLine):OpR X (compareOp .Eq) (rEqN false):=by
 intro pins s σ H x y v u Q I rx ry h;obtain⟨a,b,xs,rfl,rfl,ha,hb,q⟩:=h;cases rx;cases ry;obtain⟨its,rv,pl,hz⟩:=I.list (SqL.of ha);obtain⟨its2,rv2,pl2,hz2⟩:=I.list (SqL.of hb);have l1:its.length=xs.length:=rv.length.symm;have l2:its2.length=0:=rv2.length.symm;rw[if_neg qF]at q;cases xs with
 | nil =>
   refine SeqAt.eq_listAt (e:=λ_=>true) pl.isList pl2.isList (by simp[l1,l2]) (by omega) (λj h1 h2=>absurd h1 (by rw[qZ,l1];exact yR _)) ?_
   rw[qZ,l1]
   exact⟨.bl _,H,I,rfl,q⟩
 | cons z zs=>exact SeqAt.eq_list_lengthsAt pl.isList pl2.isList (by simp[l1,l2]) (by omega) ⟨.bl _,H,I,rfl,q⟩
theorem qir(hu:X.A.units+64<cLine):OpR X (compareOp .NotEq) (rEqN true):=by
 intro pins s σ H x y v u Q I rx ry h;obtain⟨a,b,xs,rfl,rfl,ha,hb,q⟩:=h;cases rx;cases ry;obtain⟨its,rv,pl,hz⟩:=I.list (SqL.of ha);obtain⟨its2,rv2,pl2,hz2⟩:=I.list (SqL.of hb);have l1:its.length=xs.length:=rv.length.symm;have l2:its2.length=0:=rv2.length.symm;rw[if_pos rfl]at q;cases xs with
 | nil =>
   refine SeqAt.RcNeAt.lists (e:=λ_=>true) pl.isList pl2.isList (by simp[l1,l2]) (by omega) (λj h1 h2=>absurd h1 (by rw[qZ,l1];exact yR _)) _ _ _ _ ?_
   rw[qZ,l1]
   exact⟨.bl _,H,I,rfl,q⟩
 | cons z zs=>exact SeqAt.RcNeAt.lists_lengths pl.isList pl2.isList (by simp[l1,l2]) (by omega) _ _ _ _ ⟨.bl _,H,I,rfl,q⟩
end
end L2
namespace Gen
open PySem L2 Bk
theorem noNum{x:Th}(h:isNote x=false):noteNum x=none:=by
 cases x with
 | int n=>rfl
 | tri s y t =>
   cases s<;>first | rfl | cases h
def rg(a n:Nat):List Int:=(List.range' a n).map λ(i:Nat)=>(i:Int)
theorem rg_app(a m n:Nat):rg a m++rg (a+m) n=rg a (m+n):=by
 unfold rg;rw[<-qT,List.range'_append_1]
theorem qeu(m:Nat):∀(l:List Th) (c:Nat),c<=cntN m c l
 | [],c=>qN _
 | x :: r, c => by
   rw[cntN]
   split
   · exact qS (uB c) (qeu m r (c+1))
   · exact qeu m r c
theorem qcU(m:Nat):∀(l:List Th) (c:Nat),qaw (qa9 m c l)=rg c (cntN m c l-c)
 | [],c=>by rw[qa9,cntN,Nat.sub_self];rfl
 | x :: r, c => by
   rw[qa9,cntN]
   cases hx:isNote x with
   | false =>
     rw[if_neg (by simp),if_neg (by simp)]
     unfold qaw
     rw[yD,noNum hx]
     exact qcU m r c
   | true =>
     by_cases hc:c<m
     · rw[if_pos rfl,if_pos hc,if_pos ⟨rfl,hc⟩]
       unfold qaw
       rw[yD]
       have ih:=qcU m r (c+1)
       unfold qaw at ih
       have g:=qeu m r (c+1)
       show((c:Nat):Int)::List.filterMap noteNum (qa9 m (c+1) r)=_
       rw[ih,show cntN m (c+1) r-c=(cntN m (c+1) r-(c+1))+1 by omega]
       unfold rg
       rw[List.range'_succ]
       rfl
     · rw[if_pos rfl,if_neg hc,if_neg (λz=>hc z.2)]
       exact qcU m r c
theorem qfZ(c:Nat):∀j,qaw (addN c j)=rg c j
 | 0=>rfl
 | j + 1 => by
   rw[addN]
   unfold qaw
   rw[List.filterMap_append]
   have ih:=qfZ c j
   unfold qaw at ih
   rw[ih,<-rg_app c j 1]
   rfl
theorem qhB{m:Nat}{st:List Th}(hm:m<=60)(h:qcX st):qcX (qaG m st):=by
 refine⟨qho hm h.1,?_,qfr h.2.2⟩;obtain⟨x,r,rfl,nx⟩:=h.2.1;refine⟨x,qa9 m 0 r++addN (cntN m 0 (x::r)) (min (m-cntN m 0 (x::r)) (60-(qa9 m 0 (x::r)).length)),?_,nx⟩;unfold qaG;have:qa9 m 0 (x::r)=x::qa9 m 0 r:=by rw[qa9,nx];rfl
 rw[this,yA]
theorem may_note{k:Kd}(h:mayHold k .note=true):k=.text\/k=.head:=by cases k<;>first | exact .inl rfl | exact .inr rfl | cases h
theorem noted_form{ds:List Nd}(le:ds.length<=60){n:Nat}{d:Nd}(h:Form d):Form (noted ds n d):=by
 unfold noted
 split
 ·rename_i m;refine⟨h.nm,h.mks,?_⟩;have kl:=qc7 ds n;rcases may_note m with k | k
  ·have st:=h.st;show Stuff d.k (qaG _ d.st);rw[k]at st⊢;exact qhB (by omega) st
  ·have st:=h.st;show Stuff d.k (qaG _ d.st);rw[k]at st⊢;exact qhB (by omega) st
 ·exact h
theorem kids_rise(ds:List Nd)(n:Int):(kids ds n).Pairwise (·< ·):=by
 unfold kids qaX;refine List.pairwise_map.mpr ?_;refine List.Pairwise.imp (λ{a b} (h:a<b)=>by omega) (List.Pairwise.filter _ List.pairwise_lt_range)
structure TdOk(d:Nd):Prop where
 k:d.k∈kindsAll
 e:0<=d.e/\d.e<=8
 f:FormW d
 z:d.st.map zeroN=d.st
def wrS(d:Nd):Str:=gtS d.e.toNat++qdR d
theorem qfl{d:Nd}(h:TdOk d):qbB (wrS d)=some d:=by
 unfold wrS;rw[parts_written d.e.toNat h.f h.k,h.z,show((d.e.toNat:Nat):Int)=d.e by have:=h.e;omega]
theorem qhi{d:Nd}(h:TdOk d):RowOk (wrS d):=row_ok h.f h.k (by have:=h.e;omega)
theorem td_ok{d:Nd}(h:TdOk d):PartsOk d:=qde (qhi h) (qfl h)
noncomputable def rowF(ds:List Nd)(d:Nd):List Nd×List Str :=
 if 60<=ds.length then([],[T "many"])else if ds=[]then qbe d
  else if d.k=.body then((qax ds {d with k:=.case}).1,T "body" :: (qax ds {d with k:=.case}).2)else qax ds d
theorem read_told{ds:List Nd}{d:Nd}(h:TdOk d):qbp ds (wrS d)=rowF ds d:=by
 unfold qbp rowF;rw[qfl h]
abbrev Ln:=Nd×Nat
def fs(ns:List Ln):List Nd:=ns.map (·.1)
def elTo(ls:List Ln)(v:Nat):Nat->Option Nat
 | 0=>none
 | i + 1 => match ls[i]? with
   | none=>elTo ls v i
   | some l=>if l.2<=v then(if l.2=v then some i else none)else elTo ls v i
def LvOk(ns:List Ln):Prop:=∀v,elTo ns v ns.length=(qbi (fs ns))[v]?
theorem qit(ls:List Ln)(x:Ln)(v:Nat):∀i,i<=ls.length->elTo (ls++[x]) v i=elTo ls v i
 | 0,_=>rfl
 | i + 1, h => by
   rw[elTo,elTo,rQ (by omega),qit ls x v i (by omega)]
theorem qh9(a b:List Ln):fs (a++b)=fs a++fs b:=qT
theorem qbt(a:List Ln):(fs a).length=a.length:=qA _
theorem qb9{a:List Ln}{i:Nat}{x:Ln}(h:a[i]?=some x):(fs a)[i]?=some x.1:=by unfold fs;rw[qR,h];rfl
theorem path_push{ds:List Nd}(ok:NodesOk ds)(ne:ds≠[])(l59:ds.length<=59){c:Nd}{t:Nat}(h1:1<=t)(ht:t<=(upL ds).length){j:Nat}(hj:(upL ds)[(upL ds).length-t]?=some j)(may:mayHold (qc8 ds j) c.k=true)(ce:c.e=(j:Int))(cf:Form c/\c.k∈kindsAll) :
  qbi (ds++[c])=(qbi ds).take t++[ds.length]:=by
 unfold qbi;rw[(qeV ok ne l59 h1 ht hj may ce cf).2,List.reverse_cons,List.reverse_drop]
 congr 2
 omega
theorem lv_push{ns:List Ln}(ok:NodesOk (fs ns))(lv:LvOk ns)(ne:fs ns≠[])(l59:ns.length<=59){c:Nd}{t:Nat}(h1:1<=t)(ht:t<=(upL (fs ns)).length){j:Nat}(hj:(upL (fs ns))[(upL (fs ns)).length-t]?=some j)(may:mayHold (qc8 (fs ns) j) c.k=true)(ce:c.e=(j:Int))(cf:Form c/\c.k∈kindsAll):LvOk (ns++[(c,t)]):=by
 intro v;have hp:=path_push ok ne (by rw[qbt];exact l59) h1 ht hj may ce cf;have lp:(qbi (fs ns)).length=(upL (fs ns)).length:=by unfold qbi;rw[vG]
 rw[qh9,show fs [(c,t)]=[c]from rfl,hp,qD,xU,elTo,rT (qN _),Nat.sub_self];show(if t<=v then(if t=v then some ns.length else none)else elTo (ns++[(c,t)]) v ns.length)=_;have lt:((qbi (fs ns)).take t).length=t:=by rw[rK];omega
 by_cases h:t<=v
 ·rw[if_pos h,rT (by omega),lt]
  by_cases e:t=v
  ·rw[if_pos e,e,Nat.sub_self,qbt];rfl
  ·rw[if_neg e];rw[show v-t=(v-t-1)+1 by omega];rfl
 ·rw[if_neg h,qit _ _ _ _ (qN _),lv v,rQ (by omega),List.getElem?_take,if_pos (by omega)]
theorem qh3(c:Nd)(h:c.e=-1):LvOk [(c,0)]:=by
 intro v;have:qbi [c]=[0]:=by unfold qbi;rw[up1 c h];rfl
 rw[show fs [(c,0)]=[c]from rfl,this];show(if 0<=v then(if 0=v then some 0 else none)else none)=_;rw[if_pos (rS _)];cases v with
 | zero=>rfl
 | succ v=>rfl
theorem lv_nil:LvOk []:=λv=>rfl
def qgi(m:Nat)(a:List Th×Nat)(x:Th):List Th×Nat :=
 if isNote x then(if a.2<m/\a.1.length<60 then(a.1++[qbZ a.2],a.2+1)else a)else(a.1++[x],a.2)
def qbY(m:Nat)(l:List Th)(i:Nat):List Th×Nat:=(l.take i).foldl (qgi m) ([],0)
theorem qd3{m i:Nat}{l:List Th}{x:Th}(h:l[i]?=some x):qbY m l (i+1)=qgi m (qbY m l i) x:=by
 unfold qbY;rw[rO,h];show((l.take i)++[x]).foldl _ _=_;rw[List.foldl_append];rfl
theorem qhG{m:Nat}{st more:List Th}(h60:st.length<=60):∀i,i<=st.length->qbY m (st++more) i=(qa9 m 0 (st.take i),cntN m 0 (st.take i))
 | 0,_=>rfl
 | i + 1, h => by
   have e:st[i]?=some st[i]:=qG (by omega)
   rw[qd3 (x:=st[i]) (by rw[rQ (by omega)];exact e),qhG h60 i (by omega),rO,e]
   show qgi m _ _=(qa9 m 0 (st.take i++[st[i]]),cntN m 0 (st.take i++[st[i]]))
   rw[qb4,qcl]
   unfold qgi
   have l1:(qa9 m 0 (st.take i)).length<60:=by
     have:=qbR m (st.take i) 0
     rw[rK]at this
     omega
   by_cases hn:isNote st[i]=true
   · rw[if_pos hn,if_pos hn]
     by_cases hc:cntN m 0 (st.take i)<m
     · rw[if_pos ⟨hc,l1⟩,if_pos hc,if_pos ⟨hn,hc⟩]
     · rw[if_neg (λz=>hc z.1),if_neg hc,if_neg (λz=>hc z.2),qX]
   · rw[if_neg hn,if_neg hn,if_neg (λz=>hn z.1)]
theorem qgC{m:Nat}{st:List Th}(h60:st.length<=60):∀j,j<=m->qbY m (st++List.replicate m (qbZ 0)) (st.length+j)=(qa9 m 0 st++addN (cntN m 0 st) (min j (min (m-cntN m 0 st) (60-(qa9 m 0 st).length))),cntN m 0 st+min j (min (m-cntN m 0 st) (60-(qa9 m 0 st).length)))
 | 0, _ => by
   rw[Nat.add_zero,qhG h60 _ (qN _),rM,Nat.zero_min]
   show _=(qa9 m 0 st++[],_)
   rw[qX]
   rfl
 | j + 1, h => by
   have cm:=qdN m st 0 (rS _)
   have rl:=qbR m st 0
   rw[show st.length+(j+1)=(st.length+j)+1 by omega,qd3 (x:=qbZ 0) (by rw[rT (by omega),Nat.add_sub_cancel_left,List.getElem?_replicate,if_pos (by omega)]),qgC h60 j (by omega)]
   generalize cntN m 0 st=c at *
   generalize qa9 m 0 st=r at *
   unfold qgi
   rw[if_pos (show isNote (qbZ 0)=true from rfl)]
   show(if c+min j _<m/\(r++addN c _).length<60 then _ else _)=_
   rw[qD,qdu]
   by_cases z:c+min j (min (m-c) (60-r.length))<m/\r.length+min j (min (m-c) (60-r.length))<60
   · rw[if_pos z]
     have e1:min (j+1) (min (m-c) (60-r.length))=j+1:=by omega
     have e2:min j (min (m-c) (60-r.length))=j:=by omega
     rw[e1,e2]
     show(r++addN c j++[qbZ ((c+j:Nat):Int)],c+j+1)=_
     rw[addN,xT,Nat.add_assoc]
   · rw[if_neg z]
     have e1:min (j+1) (min (m-c) (60-r.length))=min j (min (m-c) (60-r.length)):=by omega
     rw[e1]
theorem noteNums_app(a b:List Th):qaw (a++b)=qaw a++qaw b:=List.filterMap_append
theorem qgZ(m:Nat)(st:List Th):(qaw (qaG m st)).length=cntN m 0 st+min (m-cntN m 0 st) (60-(qa9 m 0 st).length):=by
 unfold qaG;rw[noteNums_app,qcU,qfZ,qD];unfold rg;rw[qA,qA,List.length_range',List.length_range'];omega
theorem fnd_all{m:Nat}{st:List Th}(h60:st.length<=60):qbY m (st++List.replicate m (qbZ 0)) (st++List.replicate m (qbZ 0)).length=(qaG m st,(qaw (qaG m st)).length):=by
 have cm:=qdN m st 0 (rS _);rw[qD,xM,qgC h60 m (qN _),qgZ];have e:min m (min (m-cntN m 0 st) (60-(qa9 m 0 st).length))=min (m-cntN m 0 st) (60-(qa9 m 0 st).length):=by omega
 rw[e];rfl
theorem qfd(m:Nat):∀(l:List Th) (c:Nat),c<=m->(qa9 m c l).length+(l.filter isNote).length=l.length+(cntN m c l-c)/\cntN m c l=min m (c+(l.filter isNote).length)
 | [],c,h=>⟨by simp[qa9,cntN],by show c=min m (c+0);omega⟩
 | x :: l, c, h => by
   rw[qa9,cntN]
   by_cases hn:isNote x=true
   · rw[List.filter_cons_of_pos hn,if_pos hn]
     by_cases hc:c<m
     · obtain⟨a,b⟩:=qfd m l (c+1) hc
       have:=qeu m l (c+1)
       rw[if_pos hc,if_pos ⟨hn,hc⟩]
       simp only[List.length_cons]
       omega
     · obtain⟨a,b⟩:=qfd m l c h
       have:=qeu m l c
       rw[if_neg hc,if_neg (λz=>hc z.2)]
       simp only[List.length_cons]
       omega
   · obtain⟨a,b⟩:=qfd m l c h
     rw[List.filter_cons_of_neg hn,if_neg hn,if_neg (λz=>hn z.1)]
     simp only[List.length_cons]
     omega
theorem note_cnt':∀{st:List Th},(∀x∈st,PcOk x)->(qaw st).length=(st.filter isNote).length
 | [],_=>rfl
 | x :: l, h => by
   have ih:=note_cnt' (st:=l) λy hy=>h y (qQ _ hy)
   have hx:=h x qM
   unfold qaw at *
   cases x with
   | int n=>cases hx
   | tri s y t =>
     cases s<;>cases y<;>first | (exfalso;exact hx) | skip
     · exact ih
     · exact ih
     · show((_::l.filterMap noteNum).length)=(_::l.filter isNote).length
       rw[rC,rC,ih]
theorem lacks_is{st:List Th}{m:Nat}(pc:∀x∈st,PcOk x)(h60:st.length<=60):((qaG m st).length≠st.length\/(qaw (qaG m st)).length<m)↔(qaw st).length≠m:=by
 rw[note_cnt' pc,qgZ];obtain⟨a,b⟩:=qfd m st 0 (rS _);have c:=xL isNote st;unfold qaG;rw[qD,qdu];generalize (st.filter isNote).length=p at *;generalize cntN m 0 st=q at *;generalize (qa9 m 0 st).length=r at *;omega
def stp(f:Nat->Nd->Nd)(ns:List Ln):Nat->List Ln
 | 0=>ns
 | i + 1 => match ns[i]? with
   | none=>stp f ns i
   | some x=>(stp f ns i).set i (f i x.1,x.2)
theorem qch(f:Nat->Nd->Nd)(ns:List Ln):∀i,(stp f ns i).length=ns.length
 | 0=>rfl
 | i + 1 => by
   rw[stp]
   cases ns[i]? with
   | none=>exact qch f ns i
   | some x=>show((stp f ns i).set i _).length=_;rw[List.length_set,qch f ns i]
theorem qcG(f:Nat->Nd->Nd)(ns:List Ln):∀i j,(stp f ns i)[j]?=if j<i then ns[j]?.map (λx=>(f j x.1,x.2))else ns[j]?
 | 0,j=>by rw[if_neg (yR _)];rfl
 | i + 1, j => by
   rw[stp]
   cases e:ns[i]? with
   | none =>
     have hl:ns.length<=i:=List.getElem?_eq_none_iff.mp e
     show(stp f ns i)[j]?=_
     rw[qcG f ns i j]
     by_cases h1:j<i
     · rw[if_pos h1,if_pos (by omega)]
     · rw[if_neg h1,rY (by omega)]
       simp
   | some x =>
     show((stp f ns i).set i (f i x.1,x.2))[j]?=_
     rw[List.getElem?_set,qcG f ns i j,qch]
     by_cases h1:i=j
     · subst h1
       have:i<ns.length:=(qI.mp e).1
       rw[if_pos rfl,if_pos this,if_pos (by omega),e]
       rfl
     · rw[if_neg h1]
       by_cases h2:j<i
       · rw[if_pos h2,if_pos (by omega)]
       · rw[if_neg h2,if_neg (by omega)]
theorem qgc(f:Nat->Nd->Nd)(ns:List Ln):fs (stp f ns ns.length)=atTo (fs ns) (λi d=>[f i d]) (fs ns).length:=by
 apply yM;intro j;unfold fs;rw[qR,qcG]
 by_cases h:j<ns.length
 ·rw[if_pos h,qd6 (qN _) (by rw[qA];exact h),qR];cases ns[j]?<;>rfl
 ·rw[if_neg h,rY (by omega),rY (by rw[qbP (qN _),qA];omega)];rfl
theorem qiz{f:Nat->Nd->Nd}(hf:∀i d,(f i d).e=d.e)(ns:List Ln)(i j:Nat):((fs (stp f ns i))[j]?).map Nd.e=((fs ns)[j]?).map Nd.e:=by
 unfold fs;rw[qR,qR,qcG]
 split
 ·cases ns[j]? with
  | none=>rfl
  | some x=>exact xN some (hf j x.1)
 ·rfl
theorem kids_cong{a b:List Nd}(hl:a.length=b.length)(h:∀j:Nat,(a[j]?).map Nd.e=(b[j]?).map Nd.e)(n:Int):kids a n=kids b n:=by
 unfold kids qaX;rw[hl]
 congr 1
 apply List.filter_congr;intro j _;rw[h j]
theorem stp_kids{f:Nat->Nd->Nd}(hf:∀i d,(f i d).e=d.e)(ns:List Ln)(i:Nat)(n:Int):kids (fs (stp f ns i)) n=kids (fs ns) n :=
 kids_cong (by rw[qbt,qbt,qch]) (λj=>qiz hf ns i j) n
theorem kid_in{es:List Nd}{n:Int}{j:Nat}:(j:Int)∈kids es n↔(es[j]?).map Nd.e=some n:=by
 unfold kids qaX;rw[rG];constructor
 ·rintro⟨i,hi,e⟩;have:i=j:=by omega
  subst this;exact rL (xA.mp hi).2
 ·intro h;refine⟨j,xA.mpr ⟨wI.mpr ?_,qC h⟩,rfl⟩;cases e:es[j]? with
  | none=>rw[e]at h;cases h
  | some d=>exact(qI.mp e).1
theorem rise_head{l:List Int}(r:l.Pairwise (·< ·)){x:Int}(hx:x∈l)(lo:∀y∈l,x<=y):∃t,l=x::t:=by
 cases l with
 | nil=>cases hx
 | cons a t =>
   refine⟨t,?_⟩
   have h1:=lo a qM
   rcases qV.mp hx with rfl | h
   · rfl
   · have:=(List.pairwise_cons.mp r).1 x h
     omega
theorem next_at{es:List Nd}{k j:Nat}{d c:Nd}(hk:k<j)(ec:es[j]?=some c)(he:c.e=d.e)(no:∀i:Nat,k<i->i<j->(es[i]?).map Nd.e≠some d.e):qaY es k d=c.k:=by
 have hj:(j:Int)∈(kids es d.e).filter (λx=>decide ((k:Int)<x)):=xA.mpr ⟨kid_in.mpr (by rw[ec];exact xN some he),qC (by omega)⟩;obtain⟨t,et⟩:=rise_head ((kids_rise es d.e).filter _) hj λy hy=>by
  obtain⟨h1,h2⟩:=xA.mp hy;have h2:=rL h2;obtain⟨i,c',rfl,ei,ee⟩:=qed h1
  by_cases z:i<j
  ·exact absurd (by rw[ei];exact xN some ee) (no i (by omega) z)
  ·omega
 unfold qaY;rw[et];show qc8 es (j:Int).toNat=_;unfold qc8;rw[rP,ec]
theorem next_no{es:List Nd}{k:Nat}{d:Nd}(no:∀i:Nat,k<i->i<es.length->(es[i]?).map Nd.e≠some d.e):qaY es k d=.no:=by
 unfold qaY;have:(kids es d.e).filter (λx=>decide ((k:Int)<x))=[]:=by
  rw[List.filter_eq_nil_iff];intro x hx z;have z:=rL z;obtain⟨i,c,rfl,ei,ee⟩:=qed hx;exact no i (by omega) (qI.mp ei).1 (by rw[ei];exact xN some ee)
 rw[this]
theorem next_stp{f:Nat->Nd->Nd}(hf:∀i d,(f i d).e=d.e)(ns:List Ln)(i:Nat)(d:Nd):qaY (fs (stp f ns i)) i d=qaY (fs ns) i d:=by
 unfold qaY;rw[stp_kids hf];cases e:(kids (fs ns) d.e).filter (λj=>decide ((i:Int)<j))with
 | nil=>rfl
 | cons j r =>
   have hj:j∈(kids (fs ns) d.e).filter (λj=>decide ((i:Int)<j)):=by rw[e];exact qM
   have:=rL (xA.mp hj).2
   show qc8 _ _=qc8 _ _
   unfold qc8 fs
   rw[qR,qR,qcG,if_neg (by omega)]
def qcs(sp:List Int)(n:Nat):List Nat:=(List.range n).filter λi=>decide ((i:Int)∉sp)
theorem qdn(sp:List Int)(n:Nat):qcs sp (n+1)=qcs sp n++(if(n:Int)∈sp then[]else[n]):=by
 unfold qcs;rw[u9,xQ]
 congr 1
 by_cases h:(n:Int)∈sp
 ·rw[if_pos h];simp[h]
 ·rw[if_neg h];simp[h]
theorem qc0(sp:List Int):∀n,(qcs sp n).length=qbx sp n
 | 0=>rfl
 | n + 1 => by
   rw[qdn,qD,qc0 sp n,qbx]
   split<;>rfl
theorem qfj{sp:List Int}{j:Nat}(hj:(j:Int)∉sp):∀{n:Nat},j<n->(qcs sp n)[qbx sp j]?=some j
 | 0,h=>absurd h (yR _)
 | n + 1, h => by
   rw[qdn]
   by_cases e:j<n
   · rw[rQ (by rw[qc0];exact qha hj e),qfj hj e]
   · have:j=n:=by omega
     subst this
     rw[rT (by rw[qc0];exact qN _),qc0,Nat.sub_self,if_neg hj]
     rfl
theorem qgx{sp:List Int}{n x:Nat}(h:x∈qcs sp n):x<n/\(x:Int)∉sp:=by
 obtain⟨a,b⟩:=xA.mp h;exact⟨wI.mp a,rL b⟩
theorem qdP(sp:List Int)(n:Nat):(qcs sp n).Nodup:=List.nodup_range.filter _
theorem left_first{sp:List Int}{n j i:Nat}(hj:(j:Int)∉sp)(hn:j<n)(hi:i<qbx sp j):(qcs sp n)[i]?≠some j:=λz=>by
 have h1:=qfj hj hn;obtain⟨l1,e1⟩:=qI.mp z;obtain⟨l2,e2⟩:=qI.mp h1;exact List.pairwise_iff_getElem.mp (qdP sp n) i (qbx sp j) l1 l2 hi (by rw[e1,e2])
theorem qfE(es:List Nd)(sp:List Int):∀n,n<=es.length->qez es sp n=(qcs sp n).filterMap λi=>(es[i]?).map λd=>{d with e:=qcj sp d.e}
 | 0,_=>rfl
 | n + 1, h => by
   have e:es[n]?=some es[n]:=qG (by omega)
   have ih:=qfE es sp n (by omega)
   unfold qez at *
   rw[qa3 e,ih,qdn,List.filterMap_append]
   congr 1
   by_cases hn:(n:Int)∈sp
   · rw[if_pos hn,if_pos hn];rfl
   · rw[if_neg hn,if_neg hn]
     simp[e]
end Gen
namespace L2
open PySem PySem.Spec PyProof.Rows
end L2
namespace Br
open PySem L2 Bk Gen Gd Bd
end Br
namespace L2
open PySem PySem.Spec PyProof.Rows
end L2
namespace Br
open PySem L2 Bk Gen Gd Bd
end Br
namespace L2
open PySem PySem.Spec PyProof.Rows
end L2
namespace Br
open PySem L2 Bk Gen Gd Bd
end Br
namespace Gen
open PySem L2 Bk
def six(x:Ln)(m s:Addr):List V:=[.int x.1.e,.str x.1.k.s,.str x.1.nm,.ref m,.ref s,.int x.2]
def LnAt(N:Addr->Prop)(H:Hp)(a:Addr)(x:Ln):Prop:=∃m s,H a=some (.lst (six x m s))/\N m/\H m=some (.lst (x.1.mks.map V.str))/\StAt N H s x.1.st
def Ou(p m:Addr)(as:List Addr):Addr->Prop:=λb=>b≠p/\b≠m/\b∉as
structure LS(H:Hp)(p m:Addr)(as:List Addr)(ns:List Ln)(ms:List (Int×Str)):Prop where
 hp:H p=some (.lst (as.map V.ref))
 nd:as.Nodup
 ls:Paired (LnAt (Ou p m as) H) as ns
 md:qdS (Ou p m as) H m ms
 pm:p≠m
 pa:p∉as
 ma:m∉as
section
variable{H H':Hp}{p m:Addr}{as:List Addr}{ns:List Ln}{ms:List (Int×Str)}
theorem LnAt.keep{N N':Addr->Prop}{a:Addr}{x:Ln}(h:LnAt N H a x)(ha:H' a=H a)(k:KeepN N H H')(sub:∀b,N b->(H b).isSome=true->N' b):LnAt N' H' a x:=by
 obtain⟨mk,s,e,nm,em,st⟩:=h;exact⟨mk,s,ha.trans e,sub mk nm (by rw[em];rfl),k _ _ nm em,st.keep k sub⟩
theorem qdd{α β:Type}{F G:α->β->Prop}{l:List α}{r:List β}(h:Paired F l r):(∀a∈l,∀b,F a b->G a b)->Paired G l r:=by
 induction h with
 | nil=>intro _;exact .nil
 | cons q t ih=>intro f;exact .cons (f _ qM _ q) (ih λa ha=>f a (qQ _ ha))
theorem LS.len(h:LS H p m as ns ms):as.length=ns.length:=h.ls.length
theorem LS.same(h:LS H p m as ns ms)(s:Same H H'):LS H' p m as ns ms:=by
 obtain⟨vs,em,pr⟩:=h.md;refine⟨s _ _ h.hp,h.nd,h.ls.mono λa x q=>?_,⟨vs,s _ _ em,pr.mono λv q z=>MdAt.keep z s.keep λ_ n _=>n⟩,h.pm,h.pa,h.ma⟩;obtain⟨mk,s',e,nm,e2,st⟩:=q;exact⟨mk,s',s _ _ e,nm,s _ _ e2,st.keep s.keep λ_ n _=>n⟩
theorem LS.out(h:LS H p m as ns ms){b:Addr}(hb:H b=none):Ou p m as b:=by
 obtain⟨vs,em,_⟩:=h.md;refine⟨λz=>?_,λz=>?_,λz=>?_⟩
 ·rw[z,h.hp]at hb;cases hb
 ·rw[z,em]at hb;cases hb
 ·obtain⟨i,hi,e⟩:=List.mem_iff_getElem.mp z;obtain⟨x,_,mk,s',ea,_⟩:=qaR h.ls (qI.mpr ⟨hi,e⟩);rw[ea]at hb;cases hb
theorem LS.mend(h:LS H p m as ns ms){vs:List V}(em:H m=some (.lst vs)){t:Addr}{i:Int}{y:Str}(nt:Ou p m as t)(et:H t=some (.tup [.int i,.str y])):LS (upd H m (.lst (vs++[.ref t]))) p m as ns (ms++[(i,y)]):=by
 have k:KeepN (Ou p m as) H (upd H m (.lst (vs++[.ref t]))):=λb o n e=>by rw[qal n.2.1];exact e
 obtain⟨vs',em',pr⟩:=h.md;rw[em]at em';cases em';refine⟨by rw[qal h.pm];exact h.hp,h.nd,qdd h.ls λa ha x q=>q.keep (qal λz=>h.ma (z ▸ ha)) k λ_ n _=>n,⟨_,qac,qaJ (pr.mono λv q z=>MdAt.keep z k λ_ n _=>n) (.cons ⟨t,rfl,nt,k _ _ nt et⟩ .nil)⟩,h.pm,h.pa,h.ma⟩
theorem LS.node(h:LS H p m as ns ms){a mk s:Addr}{x:Ln}(ha:H a=none)(nm:Ou p m as mk)(em:H mk=some (.lst (x.1.mks.map V.str)))(st:StAt (Ou p m as) H s x.1.st):LS (upd (upd H a (.lst (six x mk s))) p (.lst (as.map V.ref++[.ref a]))) p m (as++[a]) (ns++[x]) ms:=by
 have na:=h.out ha;have sub:∀b,Ou p m as b->(H b).isSome=true->Ou p m (as++[a]) b:=λb n e=>⟨n.1,n.2.1,λz=>by
  rcases qY.mp z with z | z
  ·exact n.2.2 z
  ·have:b=a:=by simpa using z
   rw[this,ha]at e;cases e⟩
 have k:KeepN (Ou p m as) H (upd (upd H a (.lst (six x mk s))) p (.lst (as.map V.ref++[.ref a]))):=λb o n e=>by rw[qal n.1,qal (λz=>by rw[z,ha]at e;cases e)];exact e
 have hm':∀b,b≠p->(∃o,H b=some o)->upd (upd H a (.lst (six x mk s))) p (.lst (as.map V.ref++[.ref a])) b=H b:=λb n ⟨o,e⟩=>by rw[qal n,qal (λz=>by rw[z,ha]at e;cases e)]
 obtain⟨vs,e2,pr⟩:=h.md;refine⟨by rw[qac,qT];rfl,?_,qaJ (qdd h.ls λb hb y q=>q.keep (hm' b (λz=>h.pa (z ▸ hb)) ?_) k sub) (.cons ?_ .nil),⟨vs,(hm' m (Ne.symm h.pm) ⟨_,e2⟩).trans e2,pr.mono λv q z=>MdAt.keep z k sub⟩,h.pm,λz=>?_,λz=>?_⟩
 ·rw[List.nodup_append];refine⟨h.nd,xI.mpr ⟨(by simp),vQ⟩,λb hb c hc z=>?_⟩;have:c=a:=by simpa using hc
  exact na.2.2 (this ▸ z ▸ hb)
 ·obtain⟨_,_,e,_⟩:=q;exact⟨_,e⟩
 ·exact⟨mk,s,by rw[qal na.1,qac],sub mk nm (by rw[em];rfl),k _ _ nm em,st.keep k sub⟩
 ·rcases qY.mp z with z | z
  ·exact h.pa z
  ·have:p=a:=by simpa using z
   exact na.1 this.symm
 ·rcases qY.mp z with z | z
  ·exact h.ma z
  ·have:m=a:=by simpa using z
   exact na.2.1 this.symm
theorem paired_set_of{α β:Type}{F G:α->β->Prop}{l:List α}{r:List β}(h:Paired F l r):∀{i:Nat} {a:α} {b:β},l.Nodup->l[i]?=some a->G a b->(∀c∈l,c≠a->∀d,F c d->G c d)->Paired G l (r.set i b):=by
 induction h with
 | nil=>intro i a b _ e;cases e
 | @cons x y l1 l2 q t ih =>
   intro i a b nd e ga f
   cases i with
   | zero =>
     have:x=a:=by simpa using e
     subst this
     refine .cons ga (qdd t λc hc d z=>f c (qQ _ hc) (λw=>?_) d z)
     exact(xI.mp nd).1 (w ▸ hc)
   | succ i =>
     have e:l1[i]?=some a:=by simpa using e
     have hm:=qP e
     exact .cons (f x qM (λw=>(xI.mp nd).1 (w ▸ hm)) y q) (ih (xI.mp nd).2 e ga λc hc=>f c (qQ _ hc))
theorem LS.set(h:LS H p m as ns ms){i:Nat}{a mk s:Addr}{x:Ln}(ea:as[i]?=some a)(nm:Ou p m as mk)(em:H mk=some (.lst (x.1.mks.map V.str)))(st:StAt (Ou p m as) H s x.1.st):LS (upd H a (.lst (six x mk s))) p m as (ns.set i x) ms:=by
 have hm:=qP ea;have k:KeepN (Ou p m as) H (upd H a (.lst (six x mk s))):=λb o n e=>by rw[qal (λz:b=a=>n.2.2 (z ▸ hm))];exact e
 obtain⟨vs,e2,pr⟩:=h.md;refine⟨by rw[qal (λz:p=a=>h.pa (z ▸ hm))];exact h.hp,h.nd,paired_set_of h.ls h.nd ea ⟨mk,s,qac,nm,k _ _ nm em,st.keep k λ_ n _=>n⟩ (λc hc nc d q=>q.keep (qal nc) k λ_ n _=>n),⟨vs,by rw[qal (λz:m=a=>h.ma (z ▸ hm))];exact e2,pr.mono λv q z=>MdAt.keep z k λ_ n _=>n⟩,h.pm,h.pa,h.ma⟩
theorem LS.get(h:LS H p m as ns ms){i:Nat}{x:Ln}(e:ns[i]?=some x):∃a,as[i]?=some a/\LnAt (Ou p m as) H a x:=by
 have hi:i<as.length:=by rw[h.len];exact(qI.mp e).1
 have ea:as[i]?=some as[i]:=qG hi;obtain⟨x',ex,q⟩:=qaR h.ls ea;rw[e]at ex;cases ex;exact⟨_,ea,q⟩
end
theorem LS.mv{H:Hp}{p m:Addr}{as:List Addr}{ns:List Ln}{ms:List (Int×Str)}(h:LS H p m as ns ms):∃vs,H m=some (.lst vs)/\vs.length=ms.length:=by
 obtain⟨vs,e,pr⟩:=h.md;exact⟨vs,e,pr.length⟩
def qa0(i:Int)(ws:List Str):List (Int×Str):=ws.map λy=>(i,y)
theorem qe4(ms:List (Int×Str))(i:Int)(W:List Str)(y:Str):ms++qa0 i (W++[y])=ms++qa0 i W++[(i,y)]:=by
 unfold qa0;rw[qT,xT];rfl
theorem qcz(ms:List (Int×Str))(i:Int):ms++qa0 i []=ms:=qX _
theorem LS.add{H:Hp}{p m t:Addr}{as:List Addr}{ns:List Ln}{ms:List (Int×Str)}{i:Int}{W:List Str}{y:Str}{vs:List V}(h:LS H p m as ns (ms++qa0 i W))(em:H m=some (.lst vs))(ht:H t=none):LS (upd (upd H t (.tup [.int i,.str y])) m (.lst (vs++[.ref t]))) p m as ns (ms++qa0 i (W++[y])):=by
 rw[qe4];have s1:=qab ht (.tup [.int i,.str y]);exact(h.same s1).mend (s1 _ _ em) (h.out ht) qac
theorem qcS{R:Addr->Prop}{H0 H:Hp}{m t:Addr}{o u:HO}(k:KeepN R H0 H)(ht:H t=none)(rm:∀b,R b->b≠m):KeepN R H0 (upd (upd H t o) m u):=λb v n e=>by
 have:=k b v n e;rw[qal (rm b n),qal (λz=>by rw[z,ht]at this;cases this)];exact this
theorem qcT{R:Addr->Prop}{H0 H:Hp}{t:Addr}{o:HO}(k:KeepN R H0 H)(ht:H t=none):KeepN R H0 (upd H t o):=λb v n e=>qab ht o b v (k b v n e)
def spWritten:Sp:=λvs H Q _=>∃(t:Addr) (d:Nd) (N:Addr->Prop),vs=[.ref t]/\NdAt N H t d/\TdOk d/\∀H',Same H H'->Q (.str (wrS d)) H'
def PcsD(l:List Th):Prop:=(∀x∈l,PcOk x/\zeroN x=x)/\l≠[]/\l.length<=64
def spPcsD:Sp:=λvs H Q _=>∃st:Addr,vs=[.ref st]/\StOk H st/\∀(s:Addr) (l:List Th) (H':Hp),PcsD l->StAt (qbz H) H' s l->StOk H' st->qci st H H'->Q (.ref s) H'
def spDrawn:Sp:=λvs H Q _=>∃st:Addr,vs=[.ref st]/\StOk H st/\∀(t:Addr) (d:Nd) (H':Hp),TdOk d->NdAt (qbz H) H' t d->StOk H' st->qci st H H'->Q (.ref t) H'
def spMayL:Sp:=λvs H Q _=>∃e k:Kd,vs=[.str e.s,.str k.s]/\e∈kindsAll/\k∈kindsAll/\∀H',Same H H'->Q (.bl (mayHold e k)) H'
def oN:Option Nat->V
 | none=>.non
 | some j=>.int (j:Nat)
def spElderL:Sp:=λvs H Q _=>∃(p m:Addr) (v:Nat) (as:List Addr) (ns:List Ln) (ms:List (Int×Str)),vs=[.ref p,.int v]/\LS H p m as ns ms/\ns.length<=60/\Q (oN (elTo ns v ns.length)) H
def spPlaceL:Sp:=λvs H Q _=>∃(p m:Addr) (k:Kd) (lv:Nat) (as:List Addr) (ns:List Ln) (ms:List (Int×Str)),vs=[.ref p,.str k.s,.int lv]/\LS H p m as ns ms/\ns.length<=60/\LvOk ns/\(∀d∈fs ns,d.k∈kindsAll)/\k∈kindsAll/\lv<=100 /\
 (qaU (fs ns) k lv=0->∀H',Same H H'->Q .non H')/\(qaU (fs ns) k lv≠0->∀l H',H l=none->Same H H'->H' l=some (.lst [.int (qb8 (fs ns) (qaU (fs ns) k lv):Nat),.int (qaU (fs ns) k lv:Nat)])->Q (.ref l) H')
def spRowL:Sp:=λvs H Q _=>∃(p t m:Addr) (i:Int) (as:List Addr) (ns:List Ln) (ms:List (Int×Str)) (d:Nd),vs=[.ref p,.ref t,.ref m,.int i]/\LS H p m as ns ms/\NodesOk (fs ns)/\LvOk ns/\ms.length<=800/\NdAt (Ou p m as) H t d/\TdOk d /\
 ∀(as':List Addr) (ns':List Ln) (H':Hp),LS H' p m as' ns' (ms++qa0 i (rowF (fs ns) d).2)->fs ns'=fs ns++(rowF (fs ns) d).1->LvOk ns'->(∀b∈as',b∈as\/H b=none)->KeepN (λb=>b≠p/\b≠m) H H'->Q .non H'
def qbv(ds:List Nd)(i:Nat):List Str:=atTo ds (λi d=>if qbF ds i d then[T "notes"]else[]) i
def spNotesL:Sp:=λvs H Q _=>∃(p m:Addr) (as:List Addr) (ns:List Ln) (ms:List (Int×Str)),vs=[.ref p,.ref m]/\LS H p m as ns ms/\NodesOk (fs ns)/\ms.length<=800 /\
 ∀(g:Addr) (H':Hp),LS H' p m as (stp (noted (fs ns)) ns ns.length) (ms++qa0 (-1) (qbv (fs ns) ns.length))->H g=none->H' g=some (.lst ((qba (fs ns)).map V.int))->KeepN (λb=>b≠m/\b∉as) H H'->Q (.ref g) H'
def spBehindL:Sp:=λvs H Q _=>∃(p m:Addr) (k:Nat) (d:Nd) (as:List Addr) (ns:List Ln) (ms:List (Int×Str)),vs=[.ref p,.int k]/\LS H p m as ns ms/\ns.length<=60/\(fs ns)[k]?=some d/\Q (.str (qaY (fs ns) k d).s) H
def mkK(ds:List Nd)(i:Nat)(d:Nd):Nd:={d with k:=if qaD ds i d then .case else d.k}
def qbQ(ds:List Nd)(i:Nat):List Str:=atTo ds (λi d=>if qaD ds i d then[T "case"]else[]) i
def spCasesL:Sp:=λvs H Q _=>∃(p m:Addr) (as:List Addr) (ns:List Ln) (ms:List (Int×Str)),vs=[.ref p,.ref m]/\LS H p m as ns ms/\ns.length<=60/\ms.length<=800 /\
 ∀(H':Hp),LS H' p m as (stp (mkK (fs ns)) ns ns.length) (ms++qa0 (-1) (qbQ (fs ns) ns.length))->KeepN (λb=>b≠m/\b∉as) H H'->Q .non H'
def qhV(N:Addr->Prop)(H:Hp)(t:Addr)(r:List Nd×List (Int×Str)):Prop:=∃b m,H t=some (.tup [.ref b,.ref m])/\BookAt N H b r.1/\qdS N H m r.2
def spDue:Sp:=λvs H Q _=>∃(r:Addr) (tds:List Nd) (N:Addr->Prop),vs=[.ref r]/\BookAt N H r tds/\(∀d∈tds,TdOk d)/\tds.length<=100/\∀t H',Same H H'->qhV (λ_=>True) H' t (qcx (tds.map wrS))->Q (.ref t) H'
end Gen
namespace Gen
open PySem L2 Bk Builtin Builtin.Str
end Gen
namespace L2
open PySem PySem.Spec PyProof.Rows
end L2
namespace Gen
open PySem L2 Bk
def strsT:List Str->TA
 | []=>tNil
 | y::r=>qfu (tC (.str y)) (strsT r)
def isStr:Expr->Str->Bool
 | .Constant (.str a) _ _,y=>a == y
 | _,_=>false
theorem isStr_eq{e:Expr}{y:Str}(h:isStr e y=true):∃j pos,e=.Constant (.str y) j pos:=by
 unfold isStr at h
 split at h
 ·rw[beq_iff_eq.mp h];exact⟨_,_,rfl⟩
 ·cases h
def isStrs:List Expr->List Str->Bool
 | [],[]=>true
 | e::es,y::ys=>isStr e y && isStrs es ys
 | _,_=>false
theorem qht{X:Cx}:∀{es:List Expr} {ys:List Str},isStrs es ys=true->PA X es (strsT ys)
 | [],[],_=>pa_nil
 | e :: es, y :: ys, h => by
   rw[isStrs,rH]at h
   obtain⟨a,b,rfl⟩:=isStr_eq h.1
   exact qaa qag (qht h.2) (by rfl)
theorem qhE{X:Cx}{es:List Expr}{pos:Pos}(ys:List Str)(h:isStrs es ys=true):PE X (.List es pos) (tLst (strsT ys)):=qay (qht h)
theorem strsT_ok:∀{ys:List Str} {σ:St} {H:Hp} {Q:List V->Hp->Prop},Q (ys.map V.str) H->strsT ys σ H Q
 | [],σ,H,Q,h=>h
 | y::r,σ,H,Q,h=>strsT_ok (ys:=r) (Q:=λxs H2=>Q (.str y::xs) H2) h
theorem qgG{ys:List Str}{σ:St}{H:Hp}{Q:VK}(le:ys.length<=100)(h:∀l,H l=none->Q (.ref l) (upd H l (.lst (ys.map V.str)))):tLst (strsT ys) σ H Q :=
 strsT_ok (Q:=λxs H2=>xs.length<=sizeLine/\∀l,H2 l=none->Q (.ref l) (upd H2 l (.lst xs))) ⟨by rw[qA];exact qS le (by decide),h⟩
end Gen
namespace K09
open PySem L2 Bk Gen
abbrev sSign:Stmt:=top 81
abbrev sPiecesD:Stmt:=top 79
abbrev sDrawn:Stmt:=top 80
abbrev sWritten:Stmt:=top 82
section
variable{P:Program}{w:World}{K:W.Frag}{mg:Str->Option Value}{base:Heap}
theorem scSign:FnScope ["_law_piece"] ["_law_piece"] (qai sSign):=⟨rfl,rfl,rfl,by ac_rfl,rfl,by ac_rfl,by ac_rfl⟩
theorem ok_sign{f:Addr}{fd:FuncData}(F:Fun K "_law_sign" "_law_sign" sSign f fd):FnOk P w K mg base CX0 1 f fd ["_law_piece"] spPiece:=by
 refine F.ok scSign (λvs H Q E h=>?_) (λcdv A outer s H vs Q E hr h=>?_)
 ·obtain⟨a,so,x,t,rfl,_⟩:=h;rfl
 ·obtain⟨a,so,x,t,rfl,ha,ok,q⟩:=h;refine⟨_,(qad (qaH (qah op_eq (qan ix_tup (pv 0) qaf (λ_ _=>rfl)) qag (qao _)) (qae (qap qag)) pss_nil)
   (qad (qaH (qah op_eq (qan ix_tup (pv 0) qaf (λ_ _=>rfl)) qag (qao _)) (qae (qap (qaO op_add_str (qaO op_add_str (qaO op_add_str (qaO op_mulS qag (qan ix_tup (pv 0) qaf (λ_ _=>rfl))) qag) (qan ix_tup (pv 0) qaf (λ_ _=>rfl))) qag))) pss_nil)
   (qae (qap (qaO op_add_str (qaO op_mulS qag (qan ix_tup (pv 0) qaf (λ_ _=>rfl))) (qan ix_tup (pv 0) qaf (λ_ _=>rfl))))))),?_⟩
  have sz:sizeLine=16777216:=by decide
  refine⟨_,rfl,a,_,_,_,rfl,rfl,SqT.of ha,rfl,rfl,_,rfl,?_⟩;rw[show decide (V.str so.s=V.str (Str.ofString "note"))=decide (so=.note)from sot so .note];cases so<;>cases x<;>first | (exfalso;exact ok) | skip
  ·have h1:=ok.1.2.1;have h3:=ok.2.2;have h2:=qcY ok.2.2;refine iteF ?_;refine⟨_,rfl,a,_,_,_,rfl,rfl,SqT.of ha,rfl,rfl,_,rfl,?_⟩;rw[show decide (V.str So.word.s=V.str (Str.ofString "page"))=decide (So.word=.page)from sot .word .page];refine iteF ?_;refine⟨_,rfl,a,_,_,_,rfl,rfl,SqT.of ha,rfl,_,t.toNat,rfl,by show V.int t=_;rw[Int.toNat_of_nonneg ok.2.1],by ac_rfl,by omega,?_⟩;refine⟨_,rfl,a,_,_,_,rfl,rfl,SqT.of ha,rfl,_,_,rfl,rfl,?_,q⟩;show(qcu t).length+_<=_;omega
  ·have h1:=ok.1.2.1;have h3:=ok.2.2;have h2:=qcY ok.2.2;refine iteF ?_;refine⟨_,rfl,a,_,_,_,rfl,rfl,SqT.of ha,rfl,rfl,_,rfl,?_⟩;rw[show decide (V.str So.page.s=V.str (Str.ofString "page"))=decide (So.page=.page)from sot .page .page];refine iteT ?_;refine⟨_,rfl,a,_,_,_,rfl,rfl,SqT.of ha,rfl,_,t.toNat,rfl,by show V.int t=_;rw[Int.toNat_of_nonneg ok.2.1],by ac_rfl,by omega,?_⟩;have e1:(T "{").length=1:=by ac_rfl
   have e2:(T "}").length=1:=by ac_rfl
   refine⟨_,_,rfl,rfl,?_,?_⟩
   ·show(qcu t).length+(T "{").length<=_;omega
   refine⟨_,rfl,a,_,_,_,rfl,rfl,SqT.of ha,rfl,_,_,rfl,rfl,?_,_,_,rfl,rfl,?_,q⟩
   ·show(qcu t++T "{").length+_<=_;rw[qaW];omega
   ·show(qcu t++T "{" ++ _).length+(T "}").length<=_;rw[qaW,qaW];omega
  ·exact iteT q
theorem qhf{x:Str}{i:Int}(h0:0<=i)(h1:i<(x.cps.toList.length:Int)):∃c∈x.cps.toList,atI x.cps.toList i=some c:=by
 obtain⟨c,e,m⟩:=qik (l:=x.cps.toList) h0 h1;exact⟨c,m,e⟩
def sAb:Str:=Str.ofString "ab"
def sXyz:Str:=Str.ofString "xyz"
def sPqr:Str:=Str.ofString "pqr"
theorem qgV{c:Nat}(h:qg2 c):Name ⟨#[c]⟩:=⟨by show 1<=1;decide,by show 1<=8;decide,λd hd=>by
 have:d=c:=by simpa using hd
 rw[this];exact h⟩
theorem word_one{c:Nat}(h:c∈wordSigns):Word ⟨#[c]⟩:=⟨by show 1<=1;decide,by show 1<=20;decide,λd hd=>by
 have:d=c:=by simpa using hd
 rw[this];exact h⟩
theorem ab_small:∀c∈sAb.cps.toList,97<=c/\c<=122:=by ac_rfl
theorem pqr_small:∀c∈sPqr.cps.toList,97<=c/\c<=122:=by ac_rfl
theorem xyz_word:∀c∈sXyz.cps.toList,c∈wordSigns:=by ac_rfl
def Nb(H:Hp)(l:Addr):Addr->Prop:=λb=>H b=none/\b≠l
theorem pcs_push{H H2 H6:Hp}{st l t:Addr}{vs:List V}{its:List Th}{x0:Th}(hst:∃o,H st=some o)(hl:H l=none)(K2:qci st H H2)(K6:qci st H2 H6)(pr:Paired (ItAt (Nb H l) H2) vs its)(it:ItAt (Nb H l) H6 (.ref t) x0)(S6:StOk H6 st) :
  Paired (ItAt (Nb H l) (upd H6 l (.lst (vs++[.ref t])))) (vs++[.ref t]) (its++[x0])/\StOk (upd H6 l (.lst (vs++[.ref t]))) st/\qci st H (upd H6 l (.lst (vs++[.ref t]))):=by
 obtain⟨o,e⟩:=hst;have ls:st≠l:=qar e hl;have kk:KeepN (Nb H l) H6 (upd H6 l (.lst (vs++[.ref t]))):=λb u n eb=>by rw[qal n.2];exact eb
 have k2:KeepN (Nb H l) H2 H6:=λb u n eb=>K6 b u (λz=>by have n1:=n.1;rw[z,e]at n1;cases n1) eb
 refine⟨qaJ (pr.mono λv x q=>q.keep (k2.trans kk) λ_ n _=>n) (.cons (it.keep kk λ_ n _=>n) .nil),?_,λb u n eb=>?_⟩
 ·obtain⟨x,y,e6,z⟩:=S6;exact⟨x,y,by rw[qal ls];exact e6,z⟩
 ·rw[qal (qar eb hl)];exact K6 _ _ n (K2 _ _ n eb)
theorem scPiecesD:FnScope ["_law_stream_here", "_law_pieces_here", "_law_many", "_law_k", "_law_sort"] ["_law_stream_here"] (qai sPiecesD):=⟨rfl,rfl,rfl,by ac_rfl,rfl,by ac_rfl,by ac_rfl⟩
theorem ok_pieces{f:Addr}{fd:FuncData}(F:Fun K "_law_pieces" "_law_pieces" sPiecesD f fd)(T:Bn mg)(F_take:Fx P w K mg base CX0 1 "_law_take" ["_law_stream_here", "_law_most"] spTake):FnOk P w K mg base CX0 2 f fd ["_law_stream_here"] spPcsD:=by
 refine F.ok scPiecesD (λvs H Q E h=>?_) (λcdv A outer s H vs Q E hr h=>?_)
 ·obtain⟨st,rfl,_⟩:=h;rfl
 ·obtain⟨st,rfl,S,q⟩:=h;have hr_take:=hr;refine⟨_,(qad (qaq (i:=1) scPiecesD.nd (by rfl) (by trivial) (qay pa_nil))
   (qad (qaq (i:=2) scPiecesD.nd (by rfl) (by trivial) (qaO op_add qaf (qaB F_take hr_take (by rfl) qaA (qaa (pv 0) (qaa qaf pa_nil)))))
   (qad (qaH (qah op_eq (qaB F_take hr_take (by rfl) qaA (qaa (pv 0) (qaa qaf pa_nil))) qaf (qao _)) (qae (qaq (i:=2) scPiecesD.nd (by rfl) (by trivial) (qaO op_add qaf (qaB F_take hr_take (by rfl) qaA (qaa (pv 0) (qaa qaf pa_nil)))))) pss_nil)
   (qad (qbT rR (by rfl) (qby (by rfl) T.range (qaa (pv 2) pa_nil)) (qas (i:=3) scPiecesD.nd (by rfl) (by trivial))
   (qad (qaq (i:=4) scPiecesD.nd (by rfl) (by trivial) (qaB F_take hr_take (by rfl) qaA (qaa (pv 0) (qaa qaf pa_nil))))
   (qae (qaH (qah op_eq (pv 4) qaf (qao _)) (qae (qaC (qaV qH qJ qK mt_append (pv 1) (qa8 (qaK (qaa qag (qaa (qan ix_str qag (qaB F_take hr_take (by rfl) qaA (qaa (pv 0) (qaa qaf pa_nil))) (λ_ _=>rfl)) (qaa (qaB F_take hr_take (by rfl) qaA (qaa (pv 0) (qaa qaf pa_nil))) pa_nil)))) pa_nil)))) (qae (qaH (qah op_lt (pv 4) qaf (qao _)) (qae (qaC (qaV qH qJ qK mt_append (pv 1) (qa8 (qaK (qaa qag (qaa qaf (qaa qaf pa_nil)))) pa_nil)))) (qae (qaC (qaV qH qJ qK mt_append (pv 1) (qa8 (qaK (qaa qag (qaa (qan ix_str qag (qaB F_take hr_take (by rfl) qaA (qaa (pv 0) (qaa qaf pa_nil))) (λ_ _=>rfl)) (qaa (qaB F_take hr_take (by rfl) qaA (qaa (pv 0) (qaa qaf pa_nil))) pa_nil)))) pa_nil))))))))))
   (qae (qap (pv 1))))))),?_⟩
  refine⟨by show 0<=sizeLine;decide,λwl hwl=>?_⟩;have s1:=qab hwl (.lst []);have hst:=S.some;have nw:wl≠st:=qbn hst hwl;refine⟨_,rfl,st,6,rfl,S.same s1,by decide,by decide,λr H1 r0 r1 S1 K1=>⟨_,_,rfl,rfl,?_⟩⟩;dsimp only[qbu,tNext];refine qau (λσ' H'=>∃n:Int,σ'=[some (.ref st),some (.ref wl),some (.int n),none,none]/\1<=n/\n<=64/\H' wl=some (.lst [])/\StOk H' st/\qci st H H') (λN0 go=>?_) ?_
  ·refine⟨_,rfl,st,16,rfl,S1,by decide,by decide,λr2 H2 r20 r21 S2 K2=>⟨rfl,_,rfl,?_⟩⟩;have K01:qci st H H1:=s1.keep.trans K1;have hw2:=K2 _ _ nw (K1 _ _ nw qac)
   by_cases h3:r2=3
   ·rw[qC (xN V.int h3)];refine iteT ⟨_,rfl,st,7,rfl,S2,by decide,by decide,λr3 H3 r30 r31 S3 K3=>⟨_,_,rfl,rfl,go _ _ ⟨_,rfl,by omega,by omega,K3 _ _ nw hw2,S3,(K01.trans K2).trans K3⟩⟩⟩
   ·rw[qB (λz=>h3 (V.int.inj z))];exact iteF (go _ _ ⟨_,rfl,by omega,by omega,hw2,S2,K01.trans K2⟩)
  rintro _ H1 ⟨n,rfl,n1,n2,hw1,S1,K1⟩;refine qau (λσ' H'=>∃(vs:List V) (its:List Th) (v3 v4:Option V),σ'=[some (.ref st),some (.ref wl),some (.int n),v3,v4]/\H' wl=some (.lst vs)/\Paired (ItAt (Nb H wl) H') vs its/\(∀x∈its,PcOk x/\zeroN x=x)/\its.length=n.toNat/\StOk H' st/\qci st H H') (λN0 go=>?_) ?_
  ·refine⟨_,rfl,_,rfl,by omega,by omega,qcJ (λi σ' H'=>∃(vs:List V) (its:List Th) (v3 v4:Option V),σ'=[some (.ref st),some (.ref wl),some (.int n),v3,v4]/\H' wl=some (.lst vs)/\Paired (ItAt (Nb H wl) H') vs its/\(∀x∈its,PcOk x/\zeroN x=x)/\its.length=i/\StOk H' st/\qci st H H') ⟨[],[],none,none,rfl,hw1,.nil,(λx hx=>nomatch hx),rfl,S1,K1⟩ ?_ ?_⟩
   ·rintro i σ' H2 hi ⟨vs,its,v3,v4,rfl,hw2,pr,ok,le,S2,K2⟩;have lenv:vs.length=its.length:=pr.length;have fin:∀(H6:Hp) (t:Addr) (x0:Th) (v3 v4:Option V),qci st H2 H6->ItAt (Nb H wl) H6 (.ref t) x0->StOk H6 st->PcOk x0->zeroN x0=x0->∃(vs':List V) (its:List Th) (v3' v4':Option V),[some (V.ref st),some (.ref wl),some (.int n),v3,v4]=[some (.ref st),some (.ref wl),some (.int n),v3',v4']/\upd H6 wl (.lst (vs++[.ref t])) wl=some (.lst vs')/\Paired (ItAt (Nb H wl) (upd H6 wl (.lst (vs++[.ref t])))) vs' its/\(∀x∈its,PcOk x/\zeroN x=x)/\its.length=i+1/\StOk (upd H6 wl (.lst (vs++[.ref t]))) st/\qci st H (upd H6 wl (.lst (vs++[.ref t]))):=by
     intro H6 t x0 v3 v4 K6 it S6 pk zk;obtain⟨a,b,c⟩:=pcs_push hst hwl K2 K6 pr it S6;refine⟨_,_,_,_,rfl,qac,a,λx hx=>?_,by rw[qD,le];rfl,b,c⟩;rcases qY.mp hx with hx | hx
     ·exact ok x hx
     ·have:x=x0:=by simpa using hx
      rw[this];exact⟨pk,zk⟩
    refine⟨_,rfl,st,5,rfl,S2,by decide,by decide,λr3 H3 r30 r31 S3 K3=>?_⟩;have hw3:=K3 _ _ nw hw2;refine⟨_,rfl,rfl,_,rfl,?_⟩;refine ite2 (λ_=>?_) (λ_=>?_)
    ·refine⟨_,rfl,.inl ⟨rfl,_,SqL.of hw3⟩,_,rfl,st,2,rfl,S3,by decide,by decide,λr4 H4 r40 r41 S4 K4=>?_⟩;obtain⟨c,mc,ec⟩:=qhf (x:=sAb) r40 (by rw[show sAb.cps.toList.length=2 by ac_rfl];exact r41);refine⟨sAb,_,c,rfl,rfl,by ac_rfl,ec,_,rfl,st,4,rfl,S4,by decide,by decide,λr5 H5 r50 r51 S5 K5=>⟨by show 3<=sizeLine;decide,λt ht=>?_⟩⟩;have s5:=qab ht (.tup [.str (Str.ofString "page"),.str ⟨#[c]⟩,.int r5]);have K35:=(K3.trans K4).trans K5;have K25:=K35.trans s5.keep;refine⟨wl,_,_,rfl,rfl,K25 _ _ nw hw2,qaz (by omega),?_⟩;exact fin _ t (.tri .page (.inl ⟨#[c]⟩) r5) _ _ K25 ⟨t,rfl,⟨(K2.trans K35).back (qbn S5.some ht) ht,qbn ⟨_,K35 _ _ nw hw2⟩ ht⟩,qac⟩ (S5.same s5) ⟨qgV (ab_small c mc),by omega,by omega⟩ rfl
    ·refine⟨_,rfl,_,_,rfl,rfl,_,rfl,?_⟩;refine ite2 (λ_=>?_) (λ_=>?_)
     ·refine⟨_,rfl,.inl ⟨rfl,_,SqL.of hw3⟩,by show 3<=sizeLine;decide,λt ht=>?_⟩;have s5:=qab ht (.tup [.str (Str.ofString "note"),.int 0,.int 0]);have K25:=K3.trans s5.keep;refine⟨wl,_,_,rfl,rfl,K25 _ _ nw hw2,qaz (by omega),?_⟩;exact fin _ t (.tri .note (.inr 0) 0) _ _ K25 ⟨t,rfl,⟨(K2.trans K3).back (qbn S3.some ht) ht,qbn ⟨_,hw3⟩ ht⟩,qac⟩ (S3.same s5) ⟨by omega,by omega,rfl⟩ rfl
     ·refine⟨_,rfl,.inl ⟨rfl,_,SqL.of hw3⟩,_,rfl,st,3,rfl,S3,by decide,by decide,λr4 H4 r40 r41 S4 K4=>?_⟩;obtain⟨c,mc,ec⟩:=qhf (x:=sXyz) r40 (by rw[show sXyz.cps.toList.length=3 by ac_rfl];exact r41);refine⟨sXyz,_,c,rfl,rfl,by ac_rfl,ec,_,rfl,st,4,rfl,S4,by decide,by decide,λr5 H5 r50 r51 S5 K5=>⟨by show 3<=sizeLine;decide,λt ht=>?_⟩⟩;have s5:=qab ht (.tup [.str (Str.ofString "word"),.str ⟨#[c]⟩,.int r5]);have K35:=(K3.trans K4).trans K5;have K25:=K35.trans s5.keep;refine⟨wl,_,_,rfl,rfl,K25 _ _ nw hw2,qaz (by omega),?_⟩;exact fin _ t (.tri .word (.inl ⟨#[c]⟩) r5) _ _ K25 ⟨t,rfl,⟨(K2.trans K35).back (qbn S5.some ht) ht,qbn ⟨_,K35 _ _ nw hw2⟩ ht⟩,qac⟩ (S5.same s5) ⟨word_one (xyz_word c mc),by omega,by omega⟩ rfl
   ·rintro σ' H2 ⟨vs,its,v3,v4,rfl,hw2,pr,ok,le,S2,K2⟩;exact go _ _ ⟨vs,its,v3,v4,rfl,hw2,pr,ok,le,S2,K2⟩
  rintro _ H2 ⟨vs,its,v3,v4,rfl,hw2,pr,ok,le,S2,K2⟩;refine⟨_,rfl,q wl its H2 ⟨ok,λz=>?_,by omega⟩ ⟨hwl,vs,hw2,pr.mono λv x y=>y.keep KeepN.refl λ_ n _=>n.1⟩ S2 K2⟩;rw[z]at le;have:n.toNat=0:=le.symm;omega
theorem seq_strs{ys:List Str}{i:Nat}{u:TS}{D:Ends}{σ:St}{H:Hp}(le:ys.length<=100)(h:∀l,H l=none->u D (σ.set i (some (.ref l))) (upd H l (.lst (ys.map V.str)))):tSeq (tAsg (tLst (strsT ys)) (qbu i)) u D σ H:=by
 show tLst (strsT ys) σ H (λv H1=>qbu i v σ H1 (u D));exact qgG le h
theorem seq_strsIx{ys:List Str}{i:Nat}{r:R2}{tb:TE}{u:TS}{D:Ends}{σ:St}{H:Hp}(le:ys.length<=100)(h:∀l,H l=none->tb σ (upd H l (.lst (ys.map V.str))) λy H2=>r (.ref l) y H2 λv H3=>u D (σ.set i (some v)) H3):tSeq (tAsg (tOp r (tLst (strsT ys)) tb) (qbu i)) u D σ H:=by
 show tLst (strsT ys) σ H (λx H1=>tb σ H1 λy H2=>r x y H2 λv H3=>qbu i v σ H3 (u D));exact qgG le h
theorem qgs{l:List Str}{r:Int}(h0:0<=r)(h1:r<(l.length:Int)):∃x∈l,atI (l.map V.str) r=some (.str x):=by
 obtain⟨y,e,m⟩:=strs_at (nms:=l) h0 (by rw[qA];exact h1);exact⟨y,m,e⟩
def kds:List Str:=[Str.ofString "text",Str.ofString "note",Str.ofString "head",Str.ofString "text",Str.ofString "note",Str.ofString "picture",Str.ofString "case",Str.ofString "shelf",Str.ofString "grid",Str.ofString "aside",Str.ofString "aside",Str.ofString "body"]
theorem drawn_body:∃es1 pa pb pc,qbq sDrawn=.Assign [.Name "_law_kinds" pa] (.List es1 pb) pc::(qbq sDrawn).tail/\isStrs es1 kds=true:=⟨_,_,_,_,rfl,by ac_rfl⟩
theorem kds_kd:∀x∈kds,∃k:Kd,k∈kindsAll/\x=k.s:=λx hx=>by
 have:∀x∈kds,(kindOf x).isSome=true:=by ac_rfl
 cases e:kindOf x with
 | none=>have:=this x hx;rw[e]at this;cases this
 | some k =>
   obtain⟨a,b⟩:=qdj e
   exact⟨k,b,a.symm⟩
def nms6:List Str:=[Str.ofString "",Str.ofString "",Str.ofString "a",Str.ofString "b",Str.ofString "c",Str.ofString "ab"]
theorem nms_name:∀x∈nms6,x=noName\/Name x:=λx hx=>by
 have:∀x∈nms6,x=noName\/qdM x=true:=by ac_rfl
 exact(this x hx).imp id λh=>nameB_iff.mp h
theorem zero_all{l:List Th}(h:∀x∈l,zeroN x=x):l.map zeroN=l:=by
 induction l with
 | nil=>rfl
 | cons x r ih=>rw[r8,h x qM,ih λy hy=>h y (qQ _ hy)]
theorem qgS{lv:Int}{k:Kd}{nm:Str}{mks:List Str}{st:List Th}(h0:0<=lv)(h1:lv<9)(hk:k∈kindsAll)(hn:nm=noName\/Name nm)(hm:mks.length<=6/\∀m∈mks,Name m)(hs:(k=.picture->∃a b:Int,st=[.int a,.int b]/\1<=a/\a<=2000/\1<=b/\b<=2000)/\(ofPieces k=true->PcsD st)/\(k≠.picture->ofPieces k=false->st=[])):TdOk ⟨lv,k,nm,mks,st⟩:=by
 refine⟨hk,⟨h0,by show lv<=8;omega⟩,⟨hn,⟨hm.1,hm.2,trivial⟩,?_⟩,?_⟩
 ·have pcs:PcsD st->(∀x∈st,PcOk x)/\(∃x r,st=x::r)/\st.length<=64:=λ⟨a,b,c⟩=>⟨λx hx=>(a x hx).1,by cases st with | nil=>exact absurd rfl b | cons x r=>exact⟨x,r,rfl⟩,c⟩
  cases k<;>first | exact hs.1 rfl | exact pcs (hs.2.1 rfl) | exact hs.2.2 (by decide) rfl
 ·show st.map zeroN=st
  by_cases hp:k=.picture
  ·obtain⟨a,b,rfl,_⟩:=hs.1 hp;rfl
  ·cases ho:ofPieces k with
   | true=>exact zero_all λx hx=>((hs.2.1 ho).1 x hx).2
   | false=>rw[hs.2.2 hp ho];rfl
theorem scDrawn:FnScope ["_law_stream_here", "_law_kinds", "_law_level", "_law_kind", "_law_name", "_law_marks", "_law_stuff"] ["_law_stream_here"] (qai sDrawn):=⟨rfl,rfl,rfl,by ac_rfl,rfl,by ac_rfl,by ac_rfl⟩
theorem ok_drawn{f:Addr}{fd:FuncData}(F:Fun K "_law_drawn" "_law_drawn" sDrawn f fd)(T:Bn mg)(F_take:Fx P w K mg base CX0 1 "_law_take" ["_law_stream_here", "_law_most"] spTake)(F_pieces:Fx P w K mg base CX0 2 "_law_pieces" ["_law_stream_here"] spPcsD):FnOk P w K mg base CX0 3 f fd ["_law_stream_here"] spDrawn:=by
 refine F.ok scDrawn (λvs H Q E h=>?_) (λcdv A outer s H vs Q E hr h=>?_)
 ·obtain⟨st,rfl,_⟩:=h;rfl
 ·obtain⟨st,rfl,S,q⟩:=h;have hr_take:Room 1 _:=hr.mono (by decide);have hr_pieces:=hr;obtain⟨es1,pa,pb,pc,eb,i_kds⟩:=drawn_body;rw[eb];refine⟨_,(qad (qaq (i:=1) scDrawn.nd (by rfl) (by trivial) (qhE kds i_kds))
   (qad (qaq (i:=2) scDrawn.nd (by rfl) (by trivial) (qaB F_take hr_take (by rfl) qaA (qaa (pv 0) (qaa qaf pa_nil))))
   (qad (qaq (i:=3) scDrawn.nd (by rfl) (by trivial) (qan ix_list (pv 1) (qaB F_take hr_take (by rfl) qaA (qaa (pv 0) (qaa qaf pa_nil))) (λ_ _=>rfl)))
   (qad (qaq (i:=4) scDrawn.nd (by rfl) (by trivial) (qan ix_list (qhE nms6 (by ac_rfl)) (qaB F_take hr_take (by rfl) qaA (qaa (pv 0) (qaa qaf pa_nil))) (λ_ _=>rfl)))
   (qad (qbU (i:=5) (by rfl) scDrawn.nd (by rfl) (by trivial) (own:=["_law_k"]) (ix:=[0]) (frees:=["_law_stream_here"]) (CompScope.frees (by rfl) (by ac_rfl) (by ac_rfl) (by ac_rfl) (by rfl) (by ac_rfl) (by first | exact qdZ (by rfl) | exact qeG (by rfl) (by rfl))) (qby (by rfl) T.range (qaa (qaO op_mul (qaB F_take hr_take (by rfl) qaA (qaa (pv 0) (qaa qaf pa_nil))) (qaB F_take hr_take (by rfl) qaA (qaa (pv 0) (qaa qaf pa_nil)))) pa_nil)) (λcl C s2 H2 fp=>(qas (i:=0) (by show(["_law_k", "_law_stream_here"]:List Str).Nodup;ac_rfl) (by rfl) (by trivial) (by trivial))) (λcl C s2 H2 fp=>qbs) (λcl C s2 H2 fp=>(qan (r:=rIxS) ix_str qag (qaB F_take hr_take (by rfl) qaA (qaa (pv 1) (qaa qaf pa_nil))) (λ_ _=>rfl))))
   (qad (qaq (i:=6) scDrawn.nd (by rfl) (by trivial) (qay pa_nil))
   (qad (qaH (qah op_eq (pv 3) qag (qao _)) (qae (qaq (i:=6) scDrawn.nd (by rfl) (by trivial) (qay (qaa (qaO op_add qaf (qaB F_take hr_take (by rfl) qaA (qaa (pv 0) (qaa qaf pa_nil)))) (qaa (qaO op_add qaf (qaB F_take hr_take (by rfl) qaA (qaa (pv 0) (qaa qaf pa_nil)))) pa_nil))))) pss_nil)
   (qad (qaH (qah op_in_seq (pv 3) (qay (qaa qag (qaa qag (qaa qag pa_nil)))) (by with_unfolding_all rfl)) (qae (qaq (i:=6) scDrawn.nd (by rfl) (by trivial) (qaB F_pieces hr_pieces (by rfl) qaA (qaa (pv 0) pa_nil)))) pss_nil)
   (qae (qap (qaK (qaa (pv 2) (qaa (pv 3) (qaa (pv 4) (qaa (pv 5) (qaa (pv 6) pa_nil)))))))))))))))),?_⟩
  have hst:=S.some;refine seq_strs (ys:=kds) (by decide) λkl hkl=>?_
  have s1:=qab hkl (.lst (kds.map V.str));have nk:kl≠st:=qbn hst hkl;refine⟨_,rfl,st,9,rfl,S.same s1,by decide,by decide,λlv H1 l0 l1 S1 K1=>?_⟩;refine⟨_,rfl,_,rfl,st,12,rfl,S1,by decide,by decide,λr2 H2 r20 r21 S2 K2=>?_⟩;obtain⟨kx,mk,ek⟩:=qgs (l:=kds) r20 (by rw[show kds.length=12 from rfl];exact r21);obtain⟨k,hk,rfl⟩:=kds_kd kx mk;refine⟨kl,_,_,_,rfl,rfl,SqL.of (K2 _ _ nk (K1 _ _ nk qac)),ek,?_⟩;have K02:qci st H H2:=(s1.keep.trans K1).trans K2;dsimp only[qbu];refine seq_strsIx (ys:=nms6) (by decide) λnl hnl=>?_
  have s3:=qab hnl (.lst (nms6.map V.str));have nn:nl≠st:=qbn S2.some hnl;refine⟨_,rfl,st,6,rfl,S2.same s3,by decide,by decide,λr3 H3 r30 r31 S3 K3=>?_⟩;obtain⟨nm,mn,en⟩:=qgs (l:=nms6) r30 (by rw[show nms6.length=6 from rfl];exact r31);refine⟨nl,_,_,_,rfl,rfl,SqL.of (K3 _ _ nn qac),en,?_⟩;have hnm:=nms_name nm mn;have K03:qci st H H3:=(K02.trans s3.keep).trans K3;refine⟨_,rfl,st,4,rfl,S3,by decide,by decide,λa H4 a0 a1 S4 K4=>⟨_,rfl,st,3,rfl,S4,by decide,by decide,λb H5 b0 b1 S5 K5=>⟨_,_,rfl,rfl,.inl ⟨by omega,by omega⟩,?_⟩⟩⟩;have ab6:a*b<=6:=by
   have h1:a<=3:=by omega
   have h2:b<=2:=by omega
   calc a*b<=3*b:=Int.mul_le_mul_of_nonneg_right h1 b0
    _<=6:=by omega
  have ab0:0<=a*b:=Int.mul_nonneg a0 b0;obtain⟨n,en⟩:∃n,n=a*b:=⟨_,rfl⟩;rw[<-en]at ab6 ab0;dsimp only;rw[<-en];have K05:=(K03.trans K4).trans K5;refine⟨_,rfl,by omega,by omega,qb3 (λi ys σ' H'=>∃(mks:List Str) (z:Option V),σ'=[z,some (.ref st)]/\ys=mks.map V.str/\mks.length=i/\(∀m∈mks,Name m)/\StOk H' st/\qci st H5 H') (qaz (by omega)) ⟨[],none,rfl,rfl,rfl,(λm hm=>nomatch hm),S5,KeepN.refl⟩ ?_ ?_ ?_⟩
  ·rintro i ys σ' H' hi ⟨mks,z,rfl,rfl,l,_⟩;rw[qA,l];exact qN _
  ·rintro i ys σ' H' hi ⟨mks,z,rfl,rfl,l,hm,S6,K6⟩;refine⟨_,rfl,st,3,rfl,S6,by decide,by decide,λr7 H7 r70 r71 S7 K7=>?_⟩;obtain⟨c,mc,ec⟩:=qhf (x:=sPqr) r70 (by rw[show sPqr.cps.toList.length=3 by ac_rfl];exact r71);refine⟨sPqr,_,c,rfl,rfl,by ac_rfl,ec,mks++[⟨#[c]⟩],_,rfl,by rw[qT];rfl,by rw[qD,l];rfl,λm hx=>?_,S7,K6.trans K7⟩;rcases qY.mp hx with hx | hx
   ·exact hm m hx
   ·have:m=⟨#[c]⟩:=by simpa using hx
    rw[this];exact qgV (pqr_small c mc)
  rintro ys σ' H6 ⟨mks,z,rfl,rfl,lm,hm,S6,K6⟩ M hM;have s7:=qab hM (.lst (mks.map V.str));have K06:=K05.trans K6;have K07:qci st H _:=K06.trans s7.keep;have S7:=S6.same s7;have hM0:H M=none:=K06.back (qbn S6.some hM) hM;have nM:M≠st:=qbn hst hM0;have eM:upd H6 M (.lst (mks.map V.str)) M=some (.lst (mks.map V.str)):=qac;generalize upd H6 M (.lst (mks.map V.str))=H7 at K07 S7 eM;refine⟨by show 0<=sizeLine;decide,λs0 hs0=>?_⟩;have s8:=qab hs0 (.lst []);have hs00:H s0=none:=K07.back (qbn S7.some hs0) hs0;have K08:qci st H _:=K07.trans s8.keep;have S8:=S7.same s8;have eM8:=s8 _ _ eM;have es8:upd H7 s0 (.lst []) s0=some (.lst []):=qac;generalize upd H7 s0 (.lst [])=H8 at K08 S8 eM8 es8;dsimp only[qbu,tNext];refine qau (λσ' H'=>∃(s:Addr) (l:List Th),σ'=[some (.ref st),some (.ref kl),some (.int lv),some (.str k.s),some (.str nm),some (.ref M),some (.ref s)]/\StAt (qbz H) H' s l/\H' M=some (.lst (mks.map V.str))/\StOk H' st/\qci st H H'/\(k=.picture->∃a b:Int,l=[.int a,.int b]/\1<=a/\a<=2000/\1<=b/\b<=2000)/\(k≠.picture->l=[])) (λN0 go=>?_) ?_
  ·refine⟨_,rfl,rfl,_,rfl,?_⟩;rw[show decide (V.str k.s=V.str (Str.ofString "picture"))=decide (k=.picture)from kdt k .picture]
   by_cases hp:k=.picture
   ·rw[qC hp];refine iteT ⟨_,rfl,st,2000,rfl,S8,by decide,by decide,λx H9 x0 x1 S9 K9=>⟨_,_,rfl,rfl,_,rfl,st,2000,rfl,S9,by decide,by decide,λy H10 y0 y1 S10 K10=>⟨_,_,rfl,rfl,by show 2<=sizeLine;decide,λs hs=>?_⟩⟩⟩;have K8x:=(K08.trans K9).trans K10;have hs1:H s=none:=K8x.back (qbn S10.some hs) hs;have s11:=qab hs (.lst [.int (1+x),.int (1+y)]);exact go _ _ ⟨s,[.int (1+x),.int (1+y)],rfl,⟨hs1,_,qac,.cons rfl (.cons rfl .nil)⟩,s11 _ _ (K10 _ _ nM (K9 _ _ nM eM8)),S10.same s11,K8x.trans s11.keep,(λ_=>⟨_,_,rfl,by omega,by omega,by omega,by omega⟩),(λz=>absurd hp z)⟩
   ·rw[qB hp];exact iteF (go _ _ ⟨s0,[],rfl,⟨hs00,[],es8,.nil⟩,eM8,S8,K08,(λz=>absurd z hp),(λ_=>rfl)⟩)
  rintro _ H9 ⟨s9,l9,rfl,st9,eM9,S9,K9,pic,npic⟩;refine qau (λσ' H'=>∃(s:Addr) (l:List Th),σ'=[some (.ref st),some (.ref kl),some (.int lv),some (.str k.s),some (.str nm),some (.ref M),some (.ref s)]/\StAt (qbz H) H' s l/\H' M=some (.lst (mks.map V.str))/\StOk H' st/\qci st H H'/\TdOk ⟨lv,k,nm,mks,l⟩) (λN0 go=>?_) ?_
  ·refine⟨_,rfl,by show 3<=sizeLine;decide,λtl htl=>⟨tl,_,rfl,.inl (SqL.of qac),rfl,rfl,_,rfl,?_⟩⟩;have s10:=qab htl (.lst [.str (Str.ofString "text"),.str (Str.ofString "note"),.str (Str.ofString "head")]);rw[if_neg qF,show[V.str (Str.ofString "text"),.str (Str.ofString "note"),.str (Str.ofString "head")]=[Kd.text,.note,.head].map (λk=>V.str k.s)from rfl,qbl];have K10:qci st H _:=K9.trans s10.keep;have S10:=S9.same s10;have eM10:=s10 _ _ eM9
   by_cases ho:k∈[Kd.text,.note,.head]
   ·rw[qC ho];refine iteT ⟨_,rfl,st,rfl,S10,λs l H11 pl st11 S11 K11=>go _ _ ⟨s,l,rfl,st11.keep KeepN.refl λb n _=>K10.back (λz=>?_) n,K11 _ _ nM eM10,S11,K10.trans K11,qgS l0 l1 hk hnm ⟨by omega,hm⟩ ⟨λz=>?_,λ_=>pl,λ_ z=>?_⟩⟩⟩
    ·obtain⟨o,e⟩:=S10.some;rw[z]at n;exact absurd (e.symm.trans n) (by simp)
    ·rw[z]at ho;exact absurd ho (by decide)
    ·exfalso;cases k<;>first | exact absurd z (by decide) | exact absurd ho (by decide)
   ·rw[qB ho];refine iteF (go _ _ ⟨s9,l9,rfl,st9.keep s10.keep λ_ n _=>n,eM10,S10,K10,qgS l0 l1 hk hnm ⟨by omega,hm⟩ ⟨pic,λz=>?_,λz _=>npic z⟩⟩);exfalso;cases k<;>first | exact ho (by decide) | cases z
  rintro _ H10 ⟨s10,l10,rfl,st10,eM10,S10,K10,td⟩;refine⟨_,rfl,_,rfl,_,rfl,_,rfl,_,rfl,by show 5<=sizeLine;decide,λt ht=>?_⟩;have s11:=qab ht (.tup [.int lv,.str k.s,.str nm,.ref M,.ref s10]);exact q t _ _ td ⟨K10.back (qbn S10.some ht) ht,M,s10,qac,hM0,s11 _ _ eM10,st10.keep s11.keep λ_ n _=>n⟩ (S10.same s11) (K10.trans s11.keep)
theorem scWritten:FnScope ["_law_told", "_law_level", "_law_kind", "_law_name", "_law_marks", "_law_stuff", "_law_row_here", "_law_mark"] ["_law_told"] (qai sWritten):=⟨rfl,rfl,rfl,by ac_rfl,rfl,by ac_rfl,by ac_rfl⟩
theorem ok_written{f:Addr}{fd:FuncData}(F:Fun K "_law_written" "_law_written" sWritten f fd)(T:Bn mg)(F_sign:Fx P w K mg base CX0 1 "_law_sign" ["_law_piece"] spPiece):FnOk P w K mg base CX0 2 f fd ["_law_told"] spWritten:=by
 refine F.ok scWritten (λvs H Q E h=>?_) (λcdv A outer s H vs Q E hr h=>?_)
 ·obtain⟨t,d,N,rfl,_⟩:=h;rfl
 ·obtain⟨t,d,N,rfl,na,td,q⟩:=h;have hr_sign:=hr;have hu:=hr.units;have sz:sizeLine=16777216:=by decide
  have fm:=td.f;have q:∀H',Same H H'->Q (.str (gtS d.e.toNat++qdR d)) H':=q;refine⟨_,(qad (qer (pv 0) (qes (by rfl) (qaL (qas (i:=1) scWritten.nd (by rfl) (by trivial)) (qaL (qas (i:=2) scWritten.nd (by rfl) (by trivial)) (qaL (qas (i:=3) scWritten.nd (by rfl) (by trivial)) (qaL (qas (i:=4) scWritten.nd (by rfl) (by trivial)) (qaL (qas (i:=5) scWritten.nd (by rfl) (by trivial)) pgs_nil)))))))
   (qad (qaq (i:=6) scWritten.nd (by rfl) (by trivial) (qaO op_add_str (qaO op_mulS qag (pv 1)) (pv 2)))
   (qad (qaH (qah op_ne (pv 3) qag (qao _)) (qae (qaq (i:=6) scWritten.nd (by rfl) (by trivial) (qaO op_add_str (qaO op_add_str (pv 6) qag) (pv 3)))) pss_nil)
   (qad (qbT rR (by rfl) (qa1 (pv 4)) (qas (i:=7) scWritten.nd (by rfl) (by trivial))
   (qae (qaq (i:=6) scWritten.nd (by rfl) (by trivial) (qaO op_add_str (qaO op_add_str (pv 6) qag) (pv 7)))))
   (qad (qaH (qah op_eq (pv 2) qag (qao _)) (qae (qap (qaO op_add_str (qaO op_add_str (qaO op_add_str (qaO op_add_str (pv 6) qag) (qcm call_str_int (by rfl) T.str b_str (qaa (qan ix_list (pv 5) qaf (λ_ _=>rfl)) pa_nil))) qag) (qcm call_str_int (by rfl) T.str b_str (qaa (qan ix_list (pv 5) qaf (λ_ _=>rfl)) pa_nil))))) pss_nil)
   (qad (qaH (qah (qfR hu) (pv 5) (qay pa_nil) (qao _)) (qae (qap (pv 6))) pss_nil)
   (qae (qap (qaO op_add_str (qaO op_add_str (pv 6) qag) (qaV xH PySem.F.slot_str_join PySem.F.type_str_join mt_join qag (qaa (qbr (own:=["_law_piece"]) (by rfl) (CompScope.plain (by rfl) (by ac_rfl) (by ac_rfl) (by ac_rfl)) (qa1 (pv 5)) (λcl C s2 H2 fp=>(qas (i:=0) (by show(["_law_piece"]:List Str).Nodup;ac_rfl) (by rfl) (by trivial) (by trivial))) (λcl C s2 H2 fp=>qbs) (λcl C s2 H2 fp=>(qaB F_sign hr_sign (by rfl) qaA (qaa (pv 0) pa_nil)))) pa_nil))))))))))),?_⟩
  obtain⟨m,sf,ha,nm,hm,nsf,vs,hsf,its⟩:=na.ex;have lvs:vs.length=d.st.length:=its.length;obtain⟨sl1,sl2⟩:=qih fm.st;have e8:=td.e;have nl:=qif fm.nm;have kl:=qig d.k;have gl:=qie d.e.toNat;refine⟨_,rfl,t,_,rfl,SqT.of ha,rfl,_,_,rfl,_,_,rfl,_,_,rfl,_,_,rfl,_,_,rfl,rfl,?_⟩;refine⟨_,rfl,_,d.e.toNat,rfl,by show V.int d.e=_;rw[Int.toNat_of_nonneg e8.1],by ac_rfl,by omega,_,rfl,_,_,rfl,rfl,?_,?_⟩
  ·show(gtS d.e.toNat).length+d.k.s.length<=_;omega
  have l0:(gtS d.e.toNat++d.k.s).length<=1007:=by rw[qaW];omega
  dsimp only[qbu];refine qbf (λσ' H'=>σ'=[some (.ref t),some (.int d.e),some (.str d.k.s),some (.str d.nm),some (.ref m),some (.ref sf),some (.str (r1 (gtS d.e.toNat++d.k.s) d)),none]/\H'=H) (λD' k=>?_) ?_
  ·refine⟨_,rfl,rfl,_,rfl,?_⟩;rw[show decide (V.str d.nm=V.str (Str.ofString ""))=decide (d.nm=noName)from nmt d.nm]
   by_cases hn:d.nm=noName
   ·rw[qC hn];refine iteF (k _ _ ⟨?_,rfl⟩);rw[r1,if_pos hn];rfl
   ·rw[qB hn];refine iteT ⟨_,rfl,_,_,rfl,rfl,?_,_,rfl,_,_,rfl,rfl,?_,k _ _ ⟨?_,rfl⟩⟩
    ·show(gtS d.e.toNat++d.k.s).length+(Bk.T " #").length<=_;rw[show(Bk.T " #").length=2 by ac_rfl];omega
    ·show(gtS d.e.toNat++d.k.s++Bk.T " #").length+d.nm.length<=_;rw[qaW _ (Bk.T " #"),show(Bk.T " #").length=2 by ac_rfl];omega
    ·rw[r1,if_neg hn];rfl
  rintro σ1 H1 ⟨rfl,rfl⟩;have l1:(r1 (gtS d.e.toNat++d.k.s) d).length<=1017:=qS (r1_len fm.nm) (by omega);generalize hr1:r1 (gtS d.e.toNat++d.k.s) d=ra at l1⊢;refine qbf (λσ' H'=>H'=H1/\∃v,σ'=[some (.ref t),some (.int d.e),some (.str d.k.s),some (.str d.nm),some (.ref m),some (.ref sf),some (.str (r2 ra d.mks)),v]) (λD' k=>?_) ?_
  ·refine⟨_,rfl,m,rfl,⟨_,SqL.of hm⟩,qdy (xs:=d.mks.map V.str) (λj σ' H'=>H'=H1/\∃v,σ'=[some (.ref t),some (.int d.e),some (.str d.k.s),some (.str d.nm),some (.ref m),some (.ref sf),some (.str (r2 ra (d.mks.take j))),v]) ⟨rfl,none,rfl⟩ ?_ ?_ ?_⟩
   ·rintro j σ' H' hj ⟨rfl,_⟩;exact SqL.of hm
   ·rintro j x σ' H' hx ⟨rfl,v,rfl⟩;rw[qR]at hx;cases e:d.mks[j]? with
    | none=>rw[e]at hx;cases hx
    | some mk =>
      rw[e]at hx
      cases hx
      have hmk:=(fm.mks.2.1 mk (qP e)).2.1
      have h2:=r2_len (l:=d.mks.take j) (r:=ra) λx hx=>fm.mks.2.1 x (uA hx)
      have h3:(d.mks.take j).length<=6:=qS (List.length_take_le' ..) fm.mks.1
      refine⟨_,rfl,_,_,rfl,rfl,?_,_,rfl,_,_,rfl,rfl,?_,rfl,some (.str mk),?_⟩
      · show(r2 ra (d.mks.take j)).length+(Bk.T " .").length<=_
        rw[show(Bk.T " .").length=2 by ac_rfl]
        omega
      · show(r2 ra (d.mks.take j)++Bk.T " .").length+mk.length<=_
        rw[qaW,show(Bk.T " .").length=2 by ac_rfl]
        omega
      · have hr2:r2 ra (d.mks.take (j+1))=r2 ra (d.mks.take j)++Bk.T " ." ++ mk:=by
          rw[rO,e]
          unfold r2
          rw[List.foldl_append]
          rfl
        rw[hr2]
        rfl
   ·rintro σ' H' ⟨rfl,v,rfl⟩;refine k _ _ ⟨rfl,v,?_⟩;rw[qA,rM]
  rintro σ2 H2 ⟨rfl,v,rfl⟩;have l2:(r2 ra d.mks).length<=1077:=by
   have h2:=r2_len (l:=d.mks) (r:=ra) λx hx=>fm.mks.2.1 x hx
   have:=fm.mks.1;omega
  have qq:∀H',Same H2 H'->Q (.str (lawS (gtS d.e.toNat) d)) H':=λH' s=>by rw[<-row_is];exact q H' s
  have lS:lawS (gtS d.e.toNat) d=if d.st.length>0 then r2 ra d.mks++Bk.T " | " ++ Str.join (Bk.T " ") (d.st.map thS)else r2 ra d.mks:=by rw[<-hr1];rfl
  rw[lS]at qq;generalize r2 ra d.mks=rb at l2 qq⊢;have e3:(Bk.T " | ").length=3:=by ac_rfl
  have e1:(Bk.T " ").length=1:=by ac_rfl
  have l3:(rb++Bk.T " | ").length<=1080:=by rw[qaW];omega
  refine⟨_,rfl,rfl,_,rfl,?_⟩;rw[show decide (V.str d.k.s=V.str (Str.ofString "picture"))=decide (d.k=.picture)from kdt d.k .picture]
  by_cases hk:d.k=.picture
  ·rw[decide_eq_true hk];have ok:=fm.st;rw[hk]at ok;obtain⟨x,y,est,x1,x2,y1,y2⟩:=ok;rw[est]at its;obtain⟨v1,v2,rfl,rfl,rfl⟩:∃v1 v2,vs=[v1,v2]/\v1=.int x/\v2=.int y:=by
    cases its with
    | cons q1 t =>
      cases t with
      | cons q2 t2 =>
        cases t2
        exact⟨_,_,rfl,q1,q2⟩
   have ix:=qe8 (qcp x1 x2);have iy:=qe8 (qcp y1 y2);refine iteT ⟨_,rfl,_,_,rfl,rfl,?_,_,rfl,sf,_,_,_,rfl,rfl,SqL.of hsf,rfl,x,rfl,qcn (qcp x1 x2),_,_,rfl,rfl,?_,_,_,rfl,rfl,?_,_,rfl,sf,_,_,_,rfl,rfl,SqL.of hsf,rfl,y,rfl,qcn (qcp y1 y2),_,_,rfl,rfl,?_,?_⟩
   ·show rb.length+(Bk.T " | ").length<=_;omega
   ·show(rb++Bk.T " | ").length+(Bk.T (toString x)).length<=_;omega
   ·show(rb++Bk.T " | " ++ Bk.T (toString x)).length+(Bk.T " ").length<=_;rw[qaW _ (Bk.T (toString x))];omega
   ·show(rb++Bk.T " | " ++ Bk.T (toString x)++Bk.T " ").length+(Bk.T (toString y)).length<=_;rw[qaW _ (Bk.T " "),qaW _ (Bk.T (toString x))];omega
   ·have:=qq H2 (Same.refl _);rw[est,if_pos (by show 2>0;decide)]at this;have e:rb++Bk.T " | " ++ Str.join (Bk.T " ") ([Th.int x,Th.int y].map thS)=rb++Bk.T " | " ++ Bk.T (toString x)++Bk.T " " ++ Bk.T (toString y):=by
     show rb++Bk.T " | " ++ (Bk.T (toString x)++Bk.T " " ++ Bk.T (toString y))=_;simp only[qcM]
    rw[e]at this;exact this
  rw[qB hk];refine iteF ?_;refine⟨_,rfl,by show 0<=sizeLine;decide,λt0 ht=>?_⟩;have s3:=qab ht (.lst []);refine⟨sf,t0,vs,rfl,rfl,s3 _ _ hsf,qac,?_⟩;rw[if_neg qF]
  by_cases e0:d.st=[]
  ·have ev:vs=[]:=by rw[e0]at lvs;exact qO lvs
   rw[ev];refine⟨_,rfl,iteT ⟨_,rfl,?_⟩⟩;have:=qq _ s3;rw[e0,if_neg (by show¬0>0;decide)]at this;exact this
  ·have pos:d.st.length>0:=by
    cases e:d.st with
    | nil=>exact absurd e e0
    | cons x r=>rw[rC];omega
   have ev:vs.isEmpty=false:=by
    cases vs with
    | nil=>rw[<-lvs]at pos;exact absurd pos (by decide)
    | cons x r=>rfl
   rw[ev];refine⟨_,rfl,iteF ?_⟩;rw[if_pos pos]at qq;have zl:vs.length<sizeLine:=qaz (by omega);refine⟨_,rfl,_,_,rfl,rfl,?_,?_⟩
   ·show rb.length+(Bk.T " | ").length<=_;omega
   refine⟨rfl,_,rfl,sf,rfl,⟨_,SqL.of (s3 _ _ hsf)⟩,qaM (λi ys σ' H'=>H'=upd H2 t0 (.lst [])/\ys=((d.st.take i).map thS).map V.str/\∃z,σ'=[z]) zl ⟨rfl,rfl,none,rfl⟩ ?_ ?_ ?_⟩
   ·rintro i ys σ' H' hi ⟨rfl,rfl,_⟩;exact⟨SqL.of (s3 _ _ hsf),by rw[qA,qA,rK];exact yQ _ _⟩
   ·rintro i x ys σ' H' hx ⟨rfl,rfl,z,rfl⟩;obtain⟨th,et,it⟩:=qaR its hx;have pk:PcOk th:=by
     have m:=qP et;have ok:=fm.st;cases e:d.k<;>rw[e]at ok hk<;>first
      | exact ok.1 th m
      | exact absurd rfl hk
      | (exfalso;have e0:d.st=[]:=ok;rw[e0]at pos;exact absurd pos (by decide))
    cases th with
    | int n=>cases pk
    | tri so x t' =>
      obtain⟨a',rfl,_,ha'⟩:=it
      refine⟨_,rfl,a',so,x,t',rfl,s3 _ _ ha',pk,rfl,?_,_,rfl⟩
      rw[xE,xE,qdm (V.str∘thS) et]
      rfl
   ·rintro ys σ' H' ⟨rfl,rfl,_⟩ D hD;have eT:d.st.take vs.length=d.st:=by rw[lvs,rM]
    rw[eT];have s4:=qab hD (.lst ((d.st.map thS).map V.str));have hj:=qgz (d.st.map thS) (B:=30) λx hx=>by
     obtain⟨y,hy,rfl⟩:=rG.mp hx;exact(sl2 y hy).2
    rw[qA]at hj;refine⟨_,D,_,rfl,rfl,SqL.of qac,λz hz=>?_,by rw[qA];omega,by ac_rfl,_,_,rfl,rfl,?_,qq _ (s3.trans s4)⟩
    ·obtain⟨y,hy,rfl⟩:=rG.mp hz;exact qS (sl2 y hy).2 (by decide)
    ·show(rb++Bk.T " | ").length+(Str.join (Bk.T " ") (d.st.map thS)).length<=_;have:d.st.length*30<=64*30:=u7 _ sl1;omega
abbrev sMayL:Stmt:=top 83
abbrev sElderL:Stmt:=top 84
abbrev sPlaceL:Stmt:=top 85
theorem scMayL:FnScope ["_law_kind", "_law_other"] ["_law_kind", "_law_other"] (qai sMayL):=⟨rfl,rfl,rfl,by ac_rfl,rfl,by ac_rfl,by ac_rfl⟩
theorem ok_may{f:Addr}{fd:FuncData}(F:Fun K "_law_may" "_law_may" sMayL f fd):FnOk P w K mg base CX0 1 f fd ["_law_kind", "_law_other"] spMayL:=by
 refine F.ok scMayL (λvs H Q E h=>?_) (λcdv A outer s H vs Q E hr h=>?_)
 ·obtain⟨e,k,rfl,_⟩:=h;rfl
 ·obtain⟨e,k,rfl,he,hk,q⟩:=h;refine⟨_,(qad (qaH (PW.pt (qdi (qah op_eq (pv 0) qag (qao _)) (qcg (qah op_eq (pv 0) qag (qao _))))) (qae (qap (qa2 op_eq (pv 1) qag (qao _)))) pss_nil)
   (qad (qaH (PW.pt (qdi (qah op_eq (pv 0) qag (qao _)) (qcg (qah op_eq (pv 0) qag (qao _))))) (qae (qap (qa2 op_in_seq (pv 1) (qay (qaa qag (qaa qag (qaa qag (qaa qag (qaa qag pa_nil)))))) (by with_unfolding_all rfl)))) pss_nil)
   (qad (qaH (qah op_eq (pv 0) qag (qao _)) (qae (qap (qa2 op_in_seq (pv 1) (qay (qaa qag (qaa qag (qaa qag (qaa qag (qaa qag (qaa qag pa_nil))))))) (by with_unfolding_all rfl)))) pss_nil)
   (qae (qap (qdr (qa2 op_in_seq (pv 0) (qay (qaa qag (qaa qag pa_nil))) (by with_unfolding_all rfl)) (qdb (qa2 op_notIn_seq (pv 1) (qay (qaa qag (qaa qag pa_nil))) (by with_unfolding_all rfl))))))))),?_⟩
  have ret:∀(b:Bool) (H':Hp),Same H H'->b=mayHold e k->Q (.bl b) H':=λb H' s e=>by rw[e];exact q H' s
  refine⟨_,rfl,rfl,_,rfl,?_⟩;rw[show decide (V.str e.s=V.str (Str.ofString "text"))=decide (e=.text)from kdt e .text]
  by_cases h1:e=.text
  ·subst h1;refine iteT (iteT ⟨_,rfl,rfl,ret _ _ (Same.refl _) ?_⟩);rw[show decide (V.str k.s=V.str (Str.ofString "note"))=decide (k=.note)from kdt k .note];cases k<;>rfl
  rw[qB h1];refine iteF ⟨_,rfl,rfl,_,rfl,?_⟩;rw[show decide (V.str e.s=V.str (Str.ofString "head"))=decide (e=.head)from kdt e .head]
  by_cases h2:e=.head
  ·subst h2;refine iteT ⟨_,rfl,rfl,ret _ _ (Same.refl _) ?_⟩;rw[show decide (V.str k.s=V.str (Str.ofString "note"))=decide (k=.note)from kdt k .note];cases k<;>rfl
  rw[qB h2];refine iteF ⟨_,rfl,rfl,_,rfl,?_⟩;have five:∀b:Bool,b=decide (k∈[Kd.case,.shelf,.grid,.text,.picture])->(e=.shelf\/e=.grid)->b=mayHold e k:=λb eb h=>by
   rw[eb];rcases h with rfl | rfl<;>(cases k<;>rfl)
  rw[show decide (V.str e.s=V.str (Str.ofString "shelf"))=decide (e=.shelf)from kdt e .shelf]
  by_cases h3:e=.shelf
  ·rw[qC h3];refine iteT (iteT ⟨_,rfl,by show 5<=sizeLine;decide,λtl htl=>⟨tl,_,rfl,.inl (SqL.of qac),rfl,rfl,ret _ _ (qab htl _) ?_⟩⟩);rw[if_neg qF];exact five _ (qbl k [Kd.case,.shelf,.grid,.text,.picture]) (.inl h3)
  rw[qB h3];refine iteF ⟨_,rfl,rfl,_,rfl,?_⟩;rw[show decide (V.str e.s=V.str (Str.ofString "grid"))=decide (e=.grid)from kdt e .grid]
  by_cases h4:e=.grid
  ·rw[qC h4];refine iteT ⟨_,rfl,by show 5<=sizeLine;decide,λtl htl=>⟨tl,_,rfl,.inl (SqL.of qac),rfl,rfl,ret _ _ (qab htl _) ?_⟩⟩;rw[if_neg qF];exact five _ (qbl k [Kd.case,.shelf,.grid,.text,.picture]) (.inr h4)
  rw[qB h4];refine iteF ⟨_,rfl,rfl,_,rfl,?_⟩;rw[show decide (V.str e.s=V.str (Str.ofString "aside"))=decide (e=.aside)from kdt e .aside]
  by_cases h5:e=.aside
  ·rw[qC h5];refine iteT ⟨_,rfl,by show 6<=sizeLine;decide,λtl htl=>⟨tl,_,rfl,.inl (SqL.of qac),rfl,rfl,ret _ _ (qab htl _) ?_⟩⟩;rw[if_neg qF];refine(qbl k [Kd.case,.shelf,.grid,.text,.head,.picture]).trans ?_;rw[h5];cases k<;>rfl
  rw[qB h5];refine iteF ⟨_,rfl,by show 2<=sizeLine;decide,λtl htl=>⟨tl,_,rfl,.inl (SqL.of qac),rfl,rfl,?_⟩⟩;have s1:=qab htl (.lst [.str (Str.ofString "body"),.str (Str.ofString "case")]);rw[if_neg qF,show inV (.str e.s) [.str (Str.ofString "body"),.str (Str.ofString "case")]=decide (e∈[Kd.body,.case])from qbl e [Kd.body,.case]]
  by_cases h6:e∈[Kd.body,.case]
  ·rw[qC h6];refine⟨_,rfl,iteT ⟨_,rfl,by show 2<=sizeLine;decide,λtl2 htl2=>⟨tl2,_,rfl,.inl (SqL.of qac),rfl,rfl,ret _ _ (s1.trans (qab htl2 _)) ?_⟩⟩⟩;rw[if_pos rfl,show inV (.str k.s) [.str (Str.ofString "note"),.str (Str.ofString "body")]=decide (k∈[Kd.note,.body])from qbl k [Kd.note,.body]];rcases qV.mp h6 with rfl | h6
   ·cases k<;>first | rfl | exact absurd hk (by decide)
   ·have:e=.case:=by simpa using h6
    subst this;cases k<;>first | rfl | exact absurd hk (by decide)
  ·rw[qB h6];refine⟨_,rfl,iteF (ret _ _ s1 ?_)⟩;cases e<;>first | exact absurd rfl h1 | exact absurd rfl h2 | exact absurd rfl h3 | exact absurd rfl h4 | exact absurd rfl h5 | exact absurd (by decide) h6 | rfl
theorem qiw{ns:List Ln}{v j:Nat}:∀{i:Nat},elTo ns v i=some j->∃c,ns[j]?=some c
 | 0,h=>nomatch h
 | i + 1, h => by
   rw[elTo]at h
   cases e:ns[i]? with
   | none=>rw[e]at h;exact qiw h
   | some x =>
     rw[e]at h
     dsimp only at h
     split at h
     · split at h
       · cases h
         exact⟨x,e⟩
       · cases h
     · exact qiw h
theorem scElderL:FnScope ["_law_nodes", "_law_level", "_law_k"] ["_law_nodes", "_law_level"] (qai sElderL):=⟨rfl,rfl,rfl,by ac_rfl,rfl,by ac_rfl,by ac_rfl⟩
theorem ok_elder{f:Addr}{fd:FuncData}(F:Fun K "_law_elder" "_law_elder" sElderL f fd)(T:Bn mg):FnOk P w K mg base CX0 1 f fd ["_law_nodes", "_law_level"] spElderL:=by
 refine F.ok scElderL (λvs H Q E h=>?_) (λcdv A outer s H vs Q E hr h=>?_)
 ·obtain⟨p,m,v,as,ns,ms,rfl,_⟩:=h;rfl
 ·obtain⟨p,m,v,as,ns,ms,rfl,L,le,q⟩:=h;refine⟨_,(qad (qbT rR (by rfl) (qem (by rfl) T.range (qaa (qaO op_sub (qam call_len_seq (by rfl) T.len b_len (qaa (pv 0) pa_nil)) qaf) (qaa (qcy un_neg qaf) (qaa (qcy un_neg qaf) pa_nil)))) (qas (i:=2) scElderL.nd (by rfl) (by trivial))
   (qae (qaH (qah op_le (qan ix_list (qan ix_list (pv 0) (pv 2) (λ_ _=>rfl)) qaf (λ_ _=>rfl)) (pv 1) (qao _)) (qad (qaH (qah op_eq (qan ix_list (qan ix_list (pv 0) (pv 2) (λ_ _=>rfl)) qaf (λ_ _=>rfl)) (pv 1) (qao _)) (qae (qap (pv 2))) pss_nil)
   (qae (qap qdc))) pss_nil)))
   (qae (qap qdc))),?_⟩
  have ll:=L.len;refine⟨_,rfl,p,_,rfl,.inl (SqL.of L.hp),_,_,rfl,rfl,_,rfl,_,rfl,_,_,rfl,⟨?_,?_,by decide,by decide⟩,qff (λi σ' H'=>H'=H/\(∃z,σ'=[some (.ref p),some (.int v),z])/\elTo ns v ns.length=elTo ns v (ns.length-i)) ⟨rfl,⟨none,rfl⟩,rfl⟩ ?_ ?_⟩
  ·rw[qA];omega
  ·rw[qA];omega
  ·rintro i σ' H' hi ⟨rfl,⟨z,rfl⟩,em⟩;have hi:i<ns.length:=by
    have:i<((((as.map V.ref).length:Nat):Int)-1 - -1).toNat:=hi;rw[qA]at this;omega
   obtain⟨t,et⟩:∃t,ns.length-i=t+1:=⟨ns.length-i-1,by omega⟩;have ev:(((as.map V.ref).length:Nat):Int)-1-(i:Nat)=((t:Nat):Int):=by rw[qA];omega
   have et':ns.length-(i+1)=t:=by omega
   have ex:ns[t]?=some ns[t]:=qG (by omega);obtain⟨a,ea,mk,sf,ha,_⟩:=L.get ex;generalize ns[t]=x at ex ha;rw[et,elTo,ex]at em;dsimp only at em;rw[ev];refine⟨_,rfl,_,rfl,p,_,_,_,rfl,rfl,SqL.of L.hp,qa6 ea,a,_,_,_,rfl,rfl,SqL.of ha,rfl,_,rfl,_,_,rfl,rfl,_,rfl,?_⟩
   by_cases h1:x.2<=v
   rotate_left
   ·rw[qB (by show¬((x.2:Nat):Int)<=(v:Int);omega)];refine iteF ⟨rfl,⟨_,rfl⟩,?_⟩;rw[em,if_neg h1,et']
   rw[qC (by show((x.2:Nat):Int)<=(v:Int);omega)];rw[if_pos h1]at em;refine iteT ⟨_,rfl,_,rfl,p,_,_,_,rfl,rfl,SqL.of L.hp,qa6 ea,a,_,_,_,rfl,rfl,SqL.of ha,rfl,_,rfl,rfl,_,rfl,?_⟩
   by_cases h2:x.2=v
   ·rw[qC (by show V.int ((x.2:Nat):Int)=V.int (v:Int);rw[h2])];rw[if_pos h2]at em;rw[em]at q;exact iteT ⟨_,rfl,q⟩
   ·rw[qB (by show¬V.int ((x.2:Nat):Int)=V.int (v:Int);exact λz=>h2 (by have:=V.int.inj z;omega))];rw[if_neg h2]at em;rw[em]at q;exact iteF q
  ·rintro σ' H' ⟨rfl,⟨z,rfl⟩,em⟩;have e0:ns.length-((((as.map V.ref).length:Nat):Int)-1 - -1).toNat=0:=by rw[qA];omega
   refine(?_:Q .non H');rw[e0]at em;rw[em]at q;exact q
theorem scPlaceL:FnScope ["_law_nodes", "_law_kind", "_law_level", "_law_high", "_law_elder_here"] ["_law_nodes", "_law_kind", "_law_level"] (qai sPlaceL):=⟨rfl,rfl,rfl,by ac_rfl,rfl,by ac_rfl,by ac_rfl⟩
theorem ok_place{f:Addr}{fd:FuncData}(F:Fun K "_law_place" "_law_place" sPlaceL f fd)(T:BnZ mg)(F_elder:Fx P w K mg base CX0 1 "_law_elder" ["_law_nodes", "_law_level"] spElderL)(F_may:Fx P w K mg base CX0 1 "_law_may" ["_law_kind", "_law_other"] spMayL):FnOk P w K mg base CX0 2 f fd ["_law_nodes", "_law_kind", "_law_level"] spPlaceL:=by
 refine F.ok scPlaceL (λvs H Q E h=>?_) (λcdv A outer s H vs Q E hr h=>?_)
 ·obtain⟨p,m,k,lv,as,ns,ms,rfl,_⟩:=h;rfl
 ·obtain⟨p,m,k,lv,as,ns,ms,rfl,L,le,lok,kok,hk,l100,q0,q1⟩:=h;have hr_elder:=hr;have hr_may:=hr;refine⟨_,(qad (qbT rR (by rfl) (qem (by rfl) T.range (qaa (qam (qf8 (by rfl)) (by rfl) T.min b_min (qaa (qam (qfQ (by rfl)) (by rfl) T.max b_max (qaa (pv 2) (qaa qaf pa_nil))) (qaa qaf pa_nil))) (qaa qaf (qaa (qcy un_neg qaf) pa_nil)))) (qas (i:=3) scPlaceL.nd (by rfl) (by trivial))
   (qad (qaq (i:=4) scPlaceL.nd (by rfl) (by trivial) (qaB F_elder hr_elder (by rfl) qaA (qaa (pv 0) (qaa (qaO op_sub (pv 3) qaf) pa_nil))))
   (qae (qaH (PW.pt (qcb (qgX (pc_notN (pv 4))) (qbD (qbk (qaB F_may hr_may (by rfl) qaA (qaa (qan ix_list (qan ix_list (pv 0) (pv 4) (λ_ _=>rfl)) qaf (λ_ _=>rfl)) (qaa (pv 1) pa_nil))))))) (qae (qap (qay (qaa (pv 4) (qaa (pv 3) pa_nil))))) pss_nil))))
   (qae (qap qdc))),?_⟩
  refine⟨_,rfl,_,_,rfl,_,_,rfl,_,rfl,_,_,rfl,?_⟩;have en:∃n0:Nat,n0=min (max lv 1) 6/\(if(6:Int)<(if(1:Int)>(lv:Int)then(1:Int)else(lv:Int))then(6:Int)else(if(1:Int)>(lv:Int)then(1:Int)else(lv:Int)))=(n0:Int):=⟨_,rfl,by omega⟩;obtain⟨n0,e0,en⟩:=en;rw[en];refine⟨⟨by omega,by omega,by decide,by decide⟩,qff (λi σ' H'=>Same H H'/\(∃y z,σ'=[some (.ref p),some (.str k.s),some (.int lv),y,z])/\qaU (fs ns) k lv=qdQ (okLv (fs ns) k) (n0-i)) ⟨Same.refl H,⟨none,none,rfl⟩,by unfold qaU;rw[<-e0];rfl⟩ ?_ ?_⟩
  ·rintro i σ' H' hi ⟨s2,⟨y,z,rfl⟩,em⟩;obtain⟨t,et⟩:∃t,n0-i=t+1:=⟨n0-i-1,by omega⟩;rw[show(n0:Int)-(i:Nat)=((t+1:Nat):Int) by omega];rw[et]at em;have et':n0-(i+1)=t:=by omega
   have L2:=L.same s2;refine⟨_,rfl,_,rfl,_,_,rfl,rfl,p,m,t,as,ns,ms,by show[V.ref p,V.int (((t+1:Nat):Int)-1)]=_;rw[show((t+1:Nat):Int)-1=((t:Nat):Int) by omega],L2,le,?_⟩;rw[lok t];cases ep:(qbi (fs ns))[t]? with
   | none =>
     refine⟨_,rfl,_,rfl,iteF (iteF ⟨s2,⟨_,_,rfl⟩,?_⟩)⟩
     rw[em,et',qdD]
     unfold okLv
     rw[qB (by have:=List.getElem?_eq_none_iff.mp ep;omega),yC]
   | some j =>
     have hb:t<(qbi (fs ns)).length:=(qI.mp ep).1
     have hj:∃c,ns[j]?=some c:=by
       have e2:=lok t
       rw[ep]at e2
       exact qiw e2
     obtain⟨c,ec⟩:=hj
     obtain⟨a,ea,mk,sf,ha,_⟩:=L2.get ec
     have ek:okLv (fs ns) k (t+1)=mayHold c.1.k k:=by
       unfold okLv
       rw[qC (show t+1<=_ from hb),xG,Nat.add_sub_cancel,xF,ep,Option.getD_some]
       unfold qc8
       rw[qb9 ec]
     have ej:qb8 (fs ns) (t+1)=j:=by
       unfold qb8
       rw[Nat.add_sub_cancel,xF,ep]
       rfl
     refine⟨_,rfl,_,rfl,iteT ⟨_,rfl,_,rfl,p,_,_,_,rfl,rfl,SqL.of L2.hp,qa6 ea,a,_,_,_,rfl,rfl,SqL.of ha,rfl,_,rfl,c.1.k,k,rfl,kok c.1 (qP (qb9 ec)),hk,λH3 s3=>⟨_,rfl,?_⟩⟩⟩
     cases eb:mayHold c.1.k k with
     | false =>
       refine iteF ⟨s2.trans s3,⟨_,_,rfl⟩,?_⟩
       rw[em,et',qdD (by rw[ek,eb])]
     | true =>
       have ev:qaU (fs ns) k lv=t+1:=by rw[em,qdJ (by rw[ek,eb])]
       refine iteT ⟨_,rfl,_,rfl,by show 2<=sizeLine;decide,λl hl=>q1 (by rw[ev];omega) l _ ((s2.trans s3).none hl) ((s2.trans s3).trans (qab hl _)) ?_⟩
       rw[qac,ev,ej]
       rfl
  ·rintro σ' H' ⟨s2,⟨y,z,rfl⟩,em⟩;refine(?_:Q .non H');refine q0 ?_ H' s2;rw[em,show n0-((n0:Int)-0).toNat=0 by omega];rfl
end
end K09
namespace Gen
open PySem L2 Bk
noncomputable def qcc(ds:List Nd)(d:Nd):List Nd×List Str:=if ds=[]then([qbK [] (-1) d],qaN d 0++qaQ [] d)else qax ds d
structure Splt(ns ns1:List Ln)(d d1:Nd)(W:List Str):Prop where
 nd:fs ns1++(qcc (fs ns1) d1).1=fs ns++(rowF (fs ns) d).1
 ws:W++(qcc (fs ns1) d1).2=(rowF (fs ns) d).2
theorem splt_A{d:Nd}(h:d.k≠.body):Splt [] [(bodyNd,0)] d d [T "body"]:=by
 have e:rowF [] d=(bodyNd::(qcc [bodyNd] d).1,T "body" :: (qcc [bodyNd] d).2):=by
  unfold rowF qbe qcc;rw[if_neg (by decide:¬60<=([]:List Nd).length),if_pos rfl,if_neg h,if_neg (by simp)]
 exact⟨by show[bodyNd]++(qcc [bodyNd] d).1=[]++(rowF [] d).1;rw[e];rfl,by show _=(rowF [] d).2;rw[e];rfl⟩
theorem splt_B{ns:List Ln}{d:Nd}(ne:fs ns≠[])(l:ns.length<=59)(h:d.k=.body):Splt ns ns d {d with k:=.case} [T "body"]:=by
 have e:rowF (fs ns) d=((qcc (fs ns) {d with k:=.case}).1,T "body" :: (qcc (fs ns) {d with k:=.case}).2):=by
  unfold rowF qcc;rw[if_neg (by rw[qbt];omega),if_neg ne,if_pos h,if_neg ne]
 exact⟨by rw[e],by rw[e];rfl⟩
theorem splt_C{d:Nd}(h:d.k=.body):Splt [] [] d d []:=by
 have e:rowF [] d=qcc [] d:=by
  unfold rowF qbe qcc;rw[if_neg (by decide:¬60<=([]:List Nd).length),if_pos rfl,if_pos h,if_pos rfl]
 exact⟨by show[]++(qcc [] d).1=[]++(rowF [] d).1;rw[e],by show[]++(qcc [] d).2=(rowF [] d).2;rw[e];rfl⟩
theorem splt_D{ns:List Ln}{d:Nd}(ne:fs ns≠[])(l:ns.length<=59)(h:d.k≠.body):Splt ns ns d d []:=by
 have e:rowF (fs ns) d=qcc (fs ns) d:=by
  unfold rowF qcc;rw[if_neg (by rw[qbt];omega),if_neg ne,if_neg h,if_neg ne]
 exact⟨by rw[e],by rw[e];rfl⟩
structure Plc(ns:List Ln)(d:Nd)(e:Int)(l:Nat):Prop where
 tl:qcc (fs ns) d=([qbK (fs ns) e d],qaN d l++qaQ (fs ns) d)
 lv:LvOk (ns++[(qbK (fs ns) e d,l)])
theorem plc_first(d:Nd):Plc [] d (-1) 0:=⟨by show qcc [] d=_;unfold qcc;rw[if_pos rfl];rfl,qh3 _ rfl⟩
theorem plc_later{ns:List Ln}{d:Nd}(ok:NodesOk (fs ns))(lv:LvOk ns)(ne:fs ns≠[])(l59:ns.length<=59)(pd:PartsOk d)(h:qaU (fs ns) d.k d.e.toNat≠0):Plc ns d (qb8 (fs ns) (qaU (fs ns) d.k d.e.toNat):Nat) (qaU (fs ns) d.k d.e.toNat):=by
 obtain⟨a,_,b,c,m⟩:=qeJ h;refine⟨?_,lv_push ok lv ne l59 a b c m rfl (qeq pd)⟩;unfold qcc qax;rw[if_neg ne,if_neg h]
theorem tail_place{ns:List Ln}{d:Nd}(ne:fs ns≠[])(h:qaU (fs ns) d.k d.e.toNat=0):qcc (fs ns) d=([],[T "place"]):=by
 unfold qcc qax;rw[if_neg ne,if_pos h]
theorem fs_nil{ns:List Ln}:fs ns=[]↔ns=[]:=by unfold fs;exact List.map_eq_nil_iff
theorem qfq(ds:List Nd)(nm:Str):qaF ds nm≠nm↔(nm≠noName/\nm∈ds.map Nd.nm):=by
 unfold qaF
 by_cases h:nm∈ds.map Nd.nm
 ·rw[if_pos h];exact⟨λz=>⟨λy=>z y.symm,h⟩,λz y=>z.1 y.symm⟩
 ·rw[if_neg h];exact⟨λz=>absurd rfl z,λz=>absurd z.2 h⟩
theorem mendN_yes{ds:List Nd}{nm:Str}(h:nm≠noName/\nm∈ds.map Nd.nm):qaF ds nm=noName:=by
 unfold qaF;rw[if_pos h.2]
theorem cut_any{xs:List V}(a b:Nat)(h:a<=xs.length):cutV xs (some (a:Int)) (some ((a+b:Nat):Int))=(xs.drop a).take b:=by
 unfold cutV;rw[HT.sIx_nat,HT.sIx_nat,uI h]
 by_cases z:a+b<=xs.length
 ·rw[uI z,Nat.add_sub_cancel_left]
 ·rw[Nat.min_eq_right (by omega),rZ (by rw[rV];omega),rZ (by rw[rV];omega)]
theorem drop_none{l:List Th}(h:∀x∈l,isNote x=false):l.dropWhile isNote=l:=by
 cases l with
 | nil=>rfl
 | cons x r=>rw[uD,h x qM];rfl
theorem newSt_no{k:Kd}{st:List Th}(h:ofPieces k=false):qdg k st=st:=by unfold qdg;rw[h];rfl
theorem newSt_bare{k:Kd}{st:List Th}(h:ofPieces k=true)(e:qaj k st=[]):qdg k st=bareSt:=by unfold qdg;rw[if_pos h,if_pos e]
theorem newSt_kept{k:Kd}{st:List Th}(h:ofPieces k=true)(e:qaj k st≠[]):qdg k st=qaj k st:=by unfold qdg;rw[if_pos h,if_neg e]
structure RS(H0:Hp)(p m:Addr)(i:Int)(ms:List (Int×Str))(as1:List Addr)(ns1:List Ln)(W:List Str)(pl:Addr)(e l:Int)(H:Hp):Prop where
 ls:LS H p m as1 ns1 (ms++qa0 i W)
 kp:KeepN (λb=>b≠p/\b≠m) H0 H
 np:pl≠m
 hp:H pl=some (.lst [.int e,.int l])
section
variable{H0 H H':Hp}{p m pl:Addr}{i e l:Int}{ms:List (Int×Str)}{as1:List Addr}{ns1:List Ln}{W:List Str}
theorem RS.same(h:RS H0 p m i ms as1 ns1 W pl e l H)(s:Same H H'):RS H0 p m i ms as1 ns1 W pl e l H':=⟨h.ls.same s,λb o n x=>s _ _ (h.kp b o n x),h.np,s _ _ h.hp⟩
theorem RS.add(h:RS H0 p m i ms as1 ns1 W pl e l H){vs:List V}{t:Addr}{y:Str}(em:H m=some (.lst vs))(ht:H t=none):RS H0 p m i ms as1 ns1 (W++[y]) pl e l (upd (upd H t (.tup [.int i,.str y])) m (.lst (vs++[.ref t]))) :=
 ⟨h.ls.add em ht,qcS h.kp ht λb n=>n.2,h.np,by rw[qal h.np];exact qab ht _ _ _ h.hp⟩
theorem RS.out(h:RS H0 p m i ms as1 ns1 W pl e l H){vs:List V}{t b:Addr}{o u:HO}(ht:H t=none)(nb:b≠m)(hb:H b=some u):upd (upd H t o) m (.lst vs) b=some u:=by rw[qal nb];exact qab ht _ _ _ hb
end
end Gen
namespace K09
open PySem L2 Bk Gen
abbrev sKeptL:Stmt:=top 86
abbrev sRowL:Stmt:=top 87
section
variable{P:Program}{w:World}{K:W.Frag}{mg:Str->Option Value}{base:Heap}
theorem scKeptL:FnScope ["_law_kind", "_law_pieces_here", "_law_at"] ["_law_kind", "_law_pieces_here"] (qai sKeptL):=⟨rfl,rfl,rfl,by ac_rfl,rfl,by ac_rfl,by ac_rfl⟩
theorem ok_kept{f:Addr}{fd:FuncData}(F:Fun K "_law_kept" "_law_kept" sKeptL f fd)(T:Bn mg):FnOk P w K mg base CX0 1 f fd ["_law_kind", "_law_pieces_here"] spMendPieces:=by
 refine F.ok scKeptL (λvs H Q E h=>?_) (λcdv A outer s H vs Q E hr h=>?_)
 ·obtain⟨k,sa,st,N,rfl,_⟩:=h;rfl
 ·obtain⟨k,sa,st,N,rfl,⟨nsa,vs,hs,its⟩,up,pc,le,q⟩:=h;have lv:vs.length=st.length:=its.length;have zl:vs.length<sizeLine:=qaz (by omega);refine⟨_,(qad (qaH (qah op_eq (pv 0) qag (qao _)) (qae (qbU (i:=1) (by rfl) scKeptL.nd (by rfl) (by trivial) (own:=["_law_piece"]) (CompScope.plain (by rfl) (by ac_rfl) (by ac_rfl) (by ac_rfl)) (qa1 (pv 1)) (λcl C s2 H2 fp=>(qas (i:=0) (by show(["_law_piece"]:List Str).Nodup;ac_rfl) (by rfl) (by trivial) (by trivial))) (λcl C s2 H2 fp=>(qbX (qah op_ne (qan (r:=rIxT K) ix_tup (pv 0) qaf (λ_ _=>rfl)) qag (qao _)))) (λcl C s2 H2 fp=>(pv 0)))) pss_nil)
   (qad (qaq (i:=2) scKeptL.nd (by rfl) (by trivial) qaf)
   (qad (qd7 rR (PW.pt (qcb (qah op_lt (pv 2) (qam call_len_seq (by rfl) T.len b_len (qaa (pv 1) pa_nil)) (qao _)) (qbD (qah op_eq (qan ix_tup (qan ix_list (pv 1) (pv 2) (λ_ _=>rfl)) qaf (λ_ _=>rfl)) qag (qao _))))) (qae (qaq (i:=2) scKeptL.nd (by rfl) (by trivial) (qaO op_add (pv 2) qaf))))
   (qae (qap (qbd sl_list (pv 1) (qbc (pv 2)) (qbc (qaO op_add (pv 2) qaf)))))))),?_⟩
  refine qau (λσ' H'=>∃(c:Addr) (l:List Th),σ'=[some (.str k.s),some (.ref c),none]/\Same H H'/\StAt N H' c l/\(∀x∈l,PcOk x)/\l.length<=500/\qaj k st=(l.dropWhile isNote).take 60) (λN0 kk=>?_) ?_
  ·refine⟨_,rfl,rfl,_,rfl,?_⟩;rw[show decide (V.str k.s=V.str (Str.ofString "note"))=decide (k=.note)from kdt k .note]
   by_cases hk:k=.note
   ·rw[qC hk];refine iteT ⟨_,rfl,sa,rfl,⟨_,SqL.of hs⟩,qaM (λi ys σ' H'=>H'=H/\Paired (ItAt N H) ys ((st.take i).filter λx=>!isNote x)/\∃z,σ'=[z]) zl ⟨rfl,.nil,none,rfl⟩ ?_ ?_ ?_⟩
    ·rintro i ys σ' H' hi ⟨rfl,pa,_⟩;refine⟨SqL.of hs,?_⟩;rw[pa.length];exact qS (xL ..) (by rw[rK];omega)
    ·rintro i x ys σ' H' hx ⟨rfl,pa,z,rfl⟩;obtain⟨th,et,it⟩:=qaR its hx;have tk:st.take (i+1)=st.take i++[th]:=by rw[rO,et];rfl
     obtain⟨so,y,n,rfl,en⟩:=qeO (pc th (qP et));have it':=it;obtain⟨a,rfl,_,ha⟩:=it;refine⟨_,rfl,a,_,_,_,rfl,rfl,SqT.of ha,rfl,rfl,_,rfl,?_⟩;rw[show decide (V.str so.s=V.str (Str.ofString "note"))=decide (so=.note)from sot so .note,<-en];rw[tk,xQ];cases eb:isNote (.tri so y n)with
     | true=>exact iteF ⟨rfl,by simpa[eb]using pa,_,rfl⟩
     | false =>
       refine iteT ⟨_,rfl,rfl,?_,_,rfl⟩
       rw[show([Th.tri so y n].filter λx=>!isNote x)=[Th.tri so y n] by simp[eb]]
       exact qaJ pa (.cons it' .nil)
    ·rintro ys σ' H' ⟨rfl,pa,_⟩ D hD;rw[lv,rM]at pa;refine kk _ _ ⟨D,st.filter λx=>!isNote x,rfl,qab hD _,⟨up D hD,_,qac,pa.mono λv x h=>h.keep (qab hD _).keep λ_ n _=>n⟩,λx hx=>pc x (xA.mp hx).1,qS (xL ..) le,?_⟩;unfold qaj;rw[if_pos hk,drop_none λx hx=>by have:=(xA.mp hx).2;simpa using this]
   ·rw[qB hk];refine iteF (kk _ _ ⟨sa,st,rfl,Same.refl _,⟨nsa,vs,hs,its⟩,pc,le,?_⟩);unfold qaj;rw[if_neg hk]
  rintro _ H1 ⟨c,l,rfl,s1,⟨nc,ws,hc,pa⟩,pcl,lel,em⟩;have lw:ws.length=l.length:=pa.length;refine⟨λm σ' H'=>∃i:Nat,σ'=[some (.str k.s),some (.ref c),some (.int (i:Nat))]/\H'=H1/\i<=l.length/\m=l.length-i/\l.dropWhile isNote=(l.drop i).dropWhile isNote,⟨_,0,rfl,rfl,rS _,rfl,rfl⟩,?_⟩;rintro m σ' H' ⟨i,rfl,rfl,hi,rfl,ei⟩;have fin:(l.drop i).dropWhile isNote=l.drop i->∀z,H' z=none->Q (.ref z) (upd H' z (.lst (cutV ws (some (i:Int)) (some ((i:Int)+60))))):=λed z hz=>by
   rw[show((i:Int)+60)=((i+60:Nat):Int) by omega,cut_any i 60 (by omega)];refine q z _ (s1.none hz) (s1.trans (qab hz _)) ⟨up z (s1.none hz),_,qac,?_⟩;rw[em,ei,ed];exact(Gen.Paired.takeP 60 (Gen.Paired.dropP i pa)).mono λv x h=>h.keep (qab hz _).keep λ_ n _=>n
  refine⟨_,rfl,_,rfl,c,_,rfl,.inl (SqL.of hc),_,_,rfl,rfl,_,rfl,?_⟩;rw[lw]
  by_cases hl:i<l.length
  rotate_left
  ·rw[qB (by omega:¬((i:Nat):Int)<(l.length:Nat))];exact iteF (iteF ⟨_,rfl,_,rfl,_,rfl,_,rfl,_,_,rfl,rfl,_,rfl,c,_,rfl,SqL.of hc,fin (by rw[yU (by omega)];rfl)⟩)
  rw[qC (by omega:((i:Nat):Int)<(l.length:Nat))];have ev:ws[i]?=some ws[i]:=qG (by omega);obtain⟨th,et,it⟩:=qaR pa ev;obtain⟨so,y,n,rfl,en⟩:=qeO (pcl th (qP et));obtain⟨a,eva,_,ha⟩:=it;rw[eva]at ev;have ed:l.drop i=Th.tri so y n::l.drop (i+1):=by
   rw[qG hl]at et;rw[uS hl,rD et]
  refine iteT ⟨_,rfl,_,rfl,c,_,_,_,rfl,rfl,SqL.of hc,qbL ev,a,_,_,_,rfl,rfl,SqT.of ha,rfl,rfl,_,rfl,?_⟩;rw[show decide (V.str so.s=V.str (Str.ofString "note"))=decide (so=.note)from sot so .note,<-en];cases eb:isNote (.tri so y n)with
  | false =>
    refine iteF ⟨_,rfl,_,rfl,_,rfl,_,rfl,_,_,rfl,rfl,_,rfl,c,_,rfl,SqL.of hc,fin ?_⟩
    rw[ed,uD,eb]
    rfl
  | true =>
    rw[ed,uD,eb,if_pos rfl]at ei
    refine iteT ⟨λσ' H2=>∃i':Nat,i'=i+1/\σ'=[some (.str k.s),some (.ref c),some (.int (i':Nat))]/\H2=H',?_,?_⟩
    · rintro σ' H'' ⟨i',rfl,rfl,rfl⟩
      exact⟨l.length-(i+1),by omega,i+1,rfl,rfl,by omega,rfl,ei⟩
    · exact⟨_,rfl,_,_,rfl,rfl,i+1,rfl,rfl,rfl⟩
theorem scRowL:FnScope ["_law_nodes", "_law_told", "_law_mends", "_law_row_here", "_law_level", "_law_kind", "_law_name", "_law_marks", "_law_stuff", "_law_place_here", "_law_found", "_law_kept_here"] ["_law_nodes", "_law_told", "_law_mends", "_law_row_here"] (qai sRowL):=⟨rfl,rfl,rfl,by ac_rfl,rfl,by ac_rfl,by ac_rfl⟩
theorem ok_row{f:Addr}{fd:FuncData}(F:Fun K "_law_row" "_law_row" sRowL f fd)(T:Bn mg)(F_place:Fx P w K mg base CX0 2 "_law_place" ["_law_nodes", "_law_kind", "_law_level"] spPlaceL)(F_kept:Fx P w K mg base CX0 1 "_law_kept" ["_law_kind", "_law_pieces_here"] spMendPieces):FnOk P w K mg base CX0 3 f fd ["_law_nodes", "_law_told", "_law_mends", "_law_row_here"] spRowL:=by
 refine F.ok scRowL (λvs H Q E h=>?_) (λcdv A outer s H vs Q E hr h=>?_)
 ·obtain⟨p,t,m,i,as,ns,ms,d,rfl,_⟩:=h;rfl
 ·obtain⟨p,t,m,i,as,ns,ms,d,rfl,L,ok,lok,lms,na,td,q⟩:=h;have hr_place:=hr;have hr_kept:Room 1 _:=hr.mono (by decide);have hu:=hr.units;obtain⟨mkA,sfA,ha,nmk,hmk,st0⟩:=na.ex;have pd:=td_ok td;have e8:=td.e;have n60:ns.length<=60:=by rw[<-qbt];exact ok.le
  have ll:=L.len;refine⟨_,(qad (qer (pv 1) (qes (by rfl) (qaL (qas (i:=4) scRowL.nd (by rfl) (by trivial)) (qaL (qas (i:=5) scRowL.nd (by rfl) (by trivial)) (qaL (qas (i:=6) scRowL.nd (by rfl) (by trivial)) (qaL (qas (i:=7) scRowL.nd (by rfl) (by trivial)) (qaL (qas (i:=8) scRowL.nd (by rfl) (by trivial)) pgs_nil)))))))
   (qad (qaH (qah op_eq (qam call_len_seq (by rfl) T.len b_len (qaa (pv 0) pa_nil)) qaf (qao _)) (qad (qaC (qaV qH qJ qK mt_append (pv 2) (qa8 (qaK (qaa (pv 3) (qaa qag pa_nil))) pa_nil)))
   (qae ps_retN)) pss_nil)
   (qad (qaq (i:=9) scRowL.nd (by rfl) (by trivial) (qay (qaa (qcy un_neg qaf) (qaa qaf pa_nil))))
   (qad (qaH (PW.pt (qcb (qah (qfR hu) (pv 0) (qay pa_nil) (qao _)) (qbD (qah op_ne (pv 5) qag (qao _))))) (qad (qaC (qaV qH qJ qK mt_append (pv 0) (qaa (qay (qaa (qcy un_neg qaf) (qaa qag (qaa qag (qaa (qay pa_nil) (qaa (qay pa_nil) (qaa qaf pa_nil))))))) pa_nil)))
   (qae (qaC (qaV qH qJ qK mt_append (pv 2) (qa8 (qaK (qaa (pv 3) (qaa qag pa_nil))) pa_nil))))) (qae (qaH (PW.pt (qcb (qah (qir hu) (pv 0) (qay pa_nil) (qao _)) (qbD (qah op_eq (pv 5) qag (qao _))))) (qad (qaq (i:=5) scRowL.nd (by rfl) (by trivial) qag)
   (qae (qaC (qaV qH qJ qK mt_append (pv 2) (qa8 (qaK (qaa (pv 3) (qaa qag pa_nil))) pa_nil))))) pss_nil)))
   (qad (qaH (qah (qir hu) (pv 0) (qay pa_nil) (qao _)) (qae (qaq (i:=9) scRowL.nd (by rfl) (by trivial) (qaB F_place hr_place (by rfl) qaA (qaa (pv 0) (qaa (pv 5) (qaa (pv 4) pa_nil)))))) pss_nil)
   (qad (qaH (qgX (qhQ (pv 9))) (qad (qaC (qaV qH qJ qK mt_append (pv 2) (qa8 (qaK (qaa (pv 3) (qaa qag pa_nil))) pa_nil)))
   (qae ps_retN)) pss_nil)
   (qad (qaH (qah op_ne (qan ix_list (pv 9) qaf (λ_ _=>rfl)) (pv 4) (qao _)) (qae (qaC (qaV qH qJ qK mt_append (pv 2) (qa8 (qaK (qaa (pv 3) (qaa qag pa_nil))) pa_nil)))) pss_nil)
   (qad (qaH (PW.pt (qcb (qah op_ne (pv 6) qag (qao _)) (qbD (qah op_in_seq (pv 6) (qbr (own:=["_law_node"]) (by rfl) (CompScope.plain (by rfl) (by ac_rfl) (by ac_rfl) (by ac_rfl)) (qa1 (pv 0)) (λcl C s2 H2 fp=>(qas (i:=0) (by show(["_law_node"]:List Str).Nodup;ac_rfl) (by rfl) (by trivial) (by trivial))) (λcl C s2 H2 fp=>qbs) (λcl C s2 H2 fp=>(qan (r:=rIxL K) ix_list (pv 0) qaf (λ_ _=>rfl)))) (by with_unfolding_all rfl))))) (qad (qaq (i:=6) scRowL.nd (by rfl) (by trivial) qag)
   (qae (qaC (qaV qH qJ qK mt_append (pv 2) (qa8 (qaK (qaa (pv 3) (qaa qag pa_nil))) pa_nil))))) pss_nil)
   (qad (qaq (i:=10) scRowL.nd (by rfl) (by trivial) (qbd sl_list (qam (qdV (by rfl) (by rfl)) (by rfl) T.sorted b_sorted (qaa (qcm (qf7 (by rfl)) (by rfl) T.set b_set (qaa (pv 7) pa_nil)) pa_nil)) po_none (qbc qaf)))
   (qad (qaH (qah (qeU hu) (pv 10) (pv 7) (qao _)) (qae (qaC (qaV qH qJ qK mt_append (pv 2) (qa8 (qaK (qaa (pv 3) (qaa qag pa_nil))) pa_nil)))) pss_nil)
   (qad (qaH (qah op_in_seq (pv 5) (qay (qaa qag (qaa qag (qaa qag pa_nil)))) (by with_unfolding_all rfl)) (qad (qaq (i:=11) scRowL.nd (by rfl) (by trivial) (qaB F_kept hr_kept (by rfl) qaA (qaa (pv 5) (qaa (pv 8) pa_nil))))
   (qad (qaH (qah (qeU hu) (pv 11) (pv 8) (qao _)) (qae (qaC (qaV qH qJ qK mt_append (pv 2) (qa8 (qaK (qaa (pv 3) (qaa qag pa_nil))) pa_nil)))) pss_nil)
   (qad (qaH (qah (qfR hu) (pv 11) (qay pa_nil) (qao _)) (qad (qaq (i:=11) scRowL.nd (by rfl) (by trivial) (qay (qa8 (qaK (qaa qag (qaa qag (qaa qaf pa_nil)))) pa_nil)))
   (qae (qaC (qaV qH qJ qK mt_append (pv 2) (qa8 (qaK (qaa (pv 3) (qaa qag pa_nil))) pa_nil))))) pss_nil)
   (qae (qaq (i:=8) scRowL.nd (by rfl) (by trivial) (pv 11)))))) pss_nil)
   (qae (qaC (qaV qH qJ qK mt_append (pv 0) (qaa (qay (qaa (qan ix_list (pv 9) qaf (λ_ _=>rfl)) (qaa (pv 5) (qaa (pv 6) (qaa (pv 10) (qaa (pv 8) (qaa (qan ix_list (pv 9) qaf (λ_ _=>rfl)) pa_nil))))))) pa_nil))))))))))))))),?_⟩
  refine⟨_,rfl,t,_,rfl,SqT.of ha,rfl,_,_,rfl,_,_,rfl,_,_,rfl,_,_,rfl,_,_,rfl,rfl,?_⟩;have rm:∀b:Addr,(b≠p/\b≠m)->b≠m:=λb h=>h.2
  have L0:LS H p m as ns (ms++qa0 i []):=by rw[qcz];exact L
  have told:∀{H':Hp} {as1:List Addr},(∀b∈as1,b∈as\/H b=none)->KeepN (λb=>b≠p/\b≠m) H H'->Ou p m as1 mkA/\H' mkA=some (.lst (d.mks.map V.str))/\StAt (Ou p m as1) H' sfA d.st:=by
   intro H' as1 h1 k1;have sub:∀b,Ou p m as b->(H b).isSome=true->Ou p m as1 b:=λb n e=>⟨n.1,n.2.1,λz=>(h1 b z).elim n.2.2 λy=>by rw[y]at e;cases e⟩
   have k2:KeepN (Ou p m as) H H':=k1.mono λb n=>⟨n.1,n.2.1⟩
   exact⟨sub _ nmk (by rw[hmk];rfl),k2 _ _ nmk hmk,st0.keep k2 sub⟩
  dsimp only[qbu];refine qau (λσ' H'=>H'=H/\ns.length<=59/\σ'=[some (.ref p),some (.ref t),some (.ref m),some (.int i),some (.int d.e),some (.str d.k.s),some (.str d.nm),some (.ref mkA),some (.ref sfA),none,none,none]) (λN0 go=>?_) ?_
  ·refine⟨_,rfl,p,_,rfl,.inl (SqL.of L.hp),rfl,_,rfl,?_⟩;rw[qA,ll]
   by_cases h60:ns.length=60
   ·rw[qC (by rw[h60];rfl:V.int ((ns.length:Nat):Int)=V.int 60)];obtain⟨mv,em,lm⟩:=L0.mv;refine iteT ⟨_,rfl,.inl ⟨rfl,_,SqL.of em⟩,_,rfl,by show 2<=sizeLine;decide,λt0 ht0=>⟨m,_,_,rfl,rfl,qab ht0 _ _ _ em,qaZ (by rw[lm,qD];show _+0<=1000;omega),?_⟩⟩;have rf:rowF (fs ns) d=([],[Bk.T "many"]):=by unfold rowF;rw[if_pos (by rw[qbt];omega)]
    refine q as ns _ ?_ (by rw[rf,qX]) lok (λb hb=>.inl hb) (qcS KeepN.refl ht0 rm);rw[rf];exact L0.add em ht0
   ·rw[qB (λz=>h60 (by have:=V.int.inj z;omega))];exact iteF (go _ _ ⟨rfl,by omega,rfl⟩)
  rintro _ H1 ⟨rfl,n59,rfl⟩;refine⟨_,rfl,by show 2<=sizeLine;decide,λpl hpl=>?_⟩;have L1:=L0.same (qab hpl (.lst [.int (-1),.int 0]));have K1:KeepN (λb=>b≠p/\b≠m) H1 (upd H1 pl (.lst [.int (-1),.int 0])):=qcT KeepN.refl hpl;have hpl1:upd H1 pl (.lst [.int (-1),.int 0]) pl=some (.lst [.int (-1),.int 0]):=qac;have opl:=L0.out hpl;generalize upd H1 pl (.lst [.int (-1),.int 0])=H2 at L1 K1 hpl1;dsimp only[qbu];refine qau (λσ' H'=>∃(as1:List Addr) (ns1:List Ln) (k1:Kd) (W:List Str),σ'=[some (.ref p),some (.ref t),some (.ref m),some (.int i),some (.int d.e),some (.str k1.s),some (.str d.nm),some (.ref mkA),some (.ref sfA),some (.ref pl),none,none]/\RS H1 p m i ms as1 ns1 W pl (-1) 0 H'/\Splt ns ns1 d {d with k:=k1} W/\PartsOk {d with k:=k1}/\NodesOk (fs ns1)/\LvOk ns1/\ns1.length<=59/\W.length<=1/\(∀b∈as1,b∈as\/H1 b=none)) (λN0 go=>?_) ?_
  ·refine⟨_,rfl,by show 0<=sizeLine;decide,λz hz=>⟨p,z,_,rfl,rfl,qab hz _ _ _ L1.hp,qac,_,rfl,?_⟩⟩;have Lz:=L1.same (qab hz (.lst []));have Kz:KeepN (λb=>b≠p/\b≠m) H1 (upd H2 z (.lst [])):=qcT K1 hz;have hplz:=qab hz (.lst []) _ _ hpl1;generalize upd H2 z (.lst [])=H3 at Lz Kz hplz;rw[if_neg qF]
   by_cases hn:ns=[]
   ·subst hn;have has:as=[]:=qO ll;subst has;refine iteT ⟨_,rfl,rfl,_,rfl,?_⟩;rw[show decide (V.str d.k.s=V.str (Str.ofString "body"))=decide (d.k=.body)from kdt d.k .body]
    by_cases hb:d.k=.body
    ·rw[qC hb];refine iteF ⟨_,rfl,by show 0<=sizeLine;decide,λz2 hz2=>⟨p,z2,_,rfl,rfl,qab hz2 _ _ _ Lz.hp,qac,_,rfl,iteF (iteF ?_)⟩⟩;exact go _ _ ⟨[],[],d.k,[],rfl,⟨Lz.same (qab hz2 _),qcT Kz hz2,opl.2.1,qab hz2 _ _ _ hplz⟩,splt_C hb,pd,nodes_nil,lv_nil,by decide,by decide,(λb hb=>nomatch hb)⟩
    ·rw[qB hb];refine iteT ⟨_,rfl,.inl ⟨rfl,_,SqL.of Lz.hp⟩,_,rfl,by show 0<=sizeLine;decide,λma hma=>⟨by show 0<=sizeLine;decide,λsa hsa=>⟨by show 6<=sizeLine;decide,λa haa=>?_⟩⟩⟩;have s4:=qab hma (.lst []);have s5:=s4.trans (qab hsa (.lst []));have L5:=Lz.same s5;have hma5:upd (upd H3 ma (.lst [])) sa (.lst []) ma=some (.lst []):=qab hsa _ _ _ qac;have hsa5:upd (upd H3 ma (.lst [])) sa (.lst []) sa=some (.lst []):=qac;have oma:=Lz.out hma;have osa:=Lz.out (s4.none hsa);have K5:KeepN (λb=>b≠p/\b≠m) H1 (upd (upd H3 ma (.lst [])) sa (.lst [])):=qcT (qcT Kz hma) hsa;have hpl5:=s5 _ _ hplz;generalize upd (upd H3 ma (.lst [])) sa (.lst [])=H5 at L5 hma5 hsa5 K5 hpl5 haa;have L6:=L5.node (x:=(bodyNd,0)) haa oma hma5 ⟨osa,[],hsa5,.nil⟩;refine⟨p,_,_,rfl,rfl,qab haa _ _ _ L5.hp,by decide,?_⟩;have K6:KeepN (λb=>b≠p/\b≠m) H1 (upd (upd H5 a (.lst (six (bodyNd,0) ma sa))) p (.lst ([].map V.ref++[.ref a]))):=qcS K5 haa λb h=>h.1
     have hpl6:upd (upd H5 a (.lst (six (bodyNd,0) ma sa))) p (.lst ([].map V.ref++[.ref a])) pl=some (.lst [.int (-1),.int 0]):=by rw[qal opl.1];exact qab haa _ _ _ hpl5
     have nf:∀b∈[]++[a],b∈([]:List Addr)\/H1 b=none:=λb hb=>by
      have:b=a:=by simpa using hb
      subst this;cases e:H1 b with
      | none=>exact .inr rfl
      | some o =>
        have ob:=L5.out haa
        rw[K5 _ _ ⟨ob.1,ob.2.1⟩ e]at haa
        cases haa
     have R6:RS H1 p m i ms ([]++[a]) ([]++[(bodyNd,0)]) [] pl (-1) 0 (upd (upd H5 a (.lst (six (bodyNd,0) ma sa))) p (.lst ([].map V.ref++[.ref a]))):=⟨L6,K6,opl.2.1,hpl6⟩;obtain⟨mv,em,lm⟩:=L6.mv;refine⟨_,rfl,.inl ⟨rfl,_,SqL.of em⟩,_,rfl,by show 2<=sizeLine;decide,λt0 ht0=>⟨m,_,_,rfl,rfl,qab ht0 _ _ _ em,qaZ (by rw[lm,qD];show _+0<=1000;omega),go _ _ ⟨_,_,d.k,_,rfl,R6.add em ht0,splt_A hb,pd,nodes_body,qh3 bodyNd rfl,by decide,by decide,nf⟩⟩⟩
   ·have hne:fs ns≠[]:=λz=>hn (fs_nil.mp z)
    have hie:(as.map V.ref).isEmpty=false:=by
     cases as with
     | nil=>exact absurd (qO ll.symm) hn
     | cons=>rfl
    rw[hie];refine iteF (iteF ⟨_,rfl,by show 0<=sizeLine;decide,λz2 hz2=>⟨p,z2,_,rfl,rfl,qab hz2 _ _ _ Lz.hp,qac,_,rfl,?_⟩⟩);rw[if_pos rfl,hie];have R4:RS H1 p m i ms as ns [] pl (-1) 0 (upd H3 z2 (.lst [])):=⟨Lz.same (qab hz2 _),qcT Kz hz2,opl.2.1,qab hz2 _ _ _ hplz⟩;generalize upd H3 z2 (.lst [])=H4 at R4;refine iteT ⟨_,rfl,rfl,_,rfl,?_⟩;rw[show decide (V.str d.k.s=V.str (Str.ofString "body"))=decide (d.k=.body)from kdt d.k .body]
    by_cases hb:d.k=.body
    ·rw[qC hb];obtain⟨mv,em,lm⟩:=R4.ls.mv;refine iteT ⟨_,rfl,.inl ⟨rfl,_,SqL.of em⟩,_,rfl,by show 2<=sizeLine;decide,λt0 ht0=>⟨m,_,_,rfl,rfl,qab ht0 _ _ _ em,qaZ (by rw[lm,qD];show _+0<=1000;omega),go _ _ ⟨_,_,.case,_,rfl,R4.add em ht0,splt_B hne n59 hb,qdO pd hb,ok,lok,n59,by decide,λb hb=>.inl hb⟩⟩⟩
    ·rw[qB hb];exact iteF (go _ _ ⟨as,ns,d.k,[],rfl,R4,splt_D hne n59 hb,pd,ok,lok,n59,by decide,λb hb=>.inl hb⟩)
  rintro _ H3 ⟨as1,ns1,k1,W,rfl,R3,sp,pd1,ok1,lok1,n591,lW,nf1⟩;have ll1:=R3.ls.len;refine qau (λσ' H'=>∃v:V,σ'=[some (.ref p),some (.ref t),some (.ref m),some (.int i),some (.int d.e),some (.str k1.s),some (.str d.nm),some (.ref mkA),some (.ref sfA),some v,none,none]/\((v=.non/\qcc (fs ns1) {d with k:=k1}=([],[Bk.T "place"])/\RS H1 p m i ms as1 ns1 W pl (-1) 0 H')\/∃(pl2:Addr) (e:Int) (l:Nat),v=.ref pl2/\Plc ns1 {d with k:=k1} e l/\RS H1 p m i ms as1 ns1 W pl2 e l H')) (λN0 go=>?_) ?_
  ·refine⟨_,rfl,by show 0<=sizeLine;decide,λz hz=>⟨p,z,_,rfl,rfl,qab hz _ _ _ R3.ls.hp,qac,_,rfl,?_⟩⟩;have R4:=R3.same (qab hz (.lst []));generalize upd H3 z (.lst [])=H4 at R4;rw[if_pos rfl]
   by_cases hn:ns1=[]
   ·have has:as1=[]:=qO (by rw[ll1,hn];rfl);rw[has];refine iteF (go _ _ ⟨.ref pl,rfl,.inr ⟨pl,-1,0,rfl,?_,R4⟩⟩);rw[hn];exact plc_first _
   ·have hne:fs ns1≠[]:=λz=>hn (fs_nil.mp z)
    have hie:(as1.map V.ref).isEmpty=false:=by
     cases as1 with
     | nil=>exact absurd (qO ll1.symm) hn
     | cons=>rfl
    rw[hie];refine iteT ⟨_,rfl,_,rfl,_,rfl,p,m,k1,d.e.toNat,as1,ns1,_,by rw[Int.toNat_of_nonneg e8.1];rfl,R4.ls,by omega,lok1,(λc hc=>(ok1.form c hc).2),pd1.k,by omega,λh0 H5 s5=>?_,λh0 l H5 hl s5 el=>?_⟩
    ·exact go _ _ ⟨.non,rfl,.inl ⟨rfl,tail_place hne h0,R4.same s5⟩⟩
    ·exact go _ _ ⟨.ref l,rfl,.inr ⟨l,_,_,rfl,plc_later ok1 lok1 hne n591 pd1 h0,(R4.ls.same s5),(R4.same s5).kp,(R4.ls.out hl).2.1,el⟩⟩
  rintro _ H4 ⟨v,rfl,hv⟩;refine qau (λσ' H'=>∃(pl2:Addr) (e:Int) (l:Nat),σ'=[some (.ref p),some (.ref t),some (.ref m),some (.int i),some (.int d.e),some (.str k1.s),some (.str d.nm),some (.ref mkA),some (.ref sfA),some (.ref pl2),none,none]/\Plc ns1 {d with k:=k1} e l/\RS H1 p m i ms as1 ns1 W pl2 e l H') (λN0 go=>?_) ?_
  ·rcases hv with⟨rfl,tp,R4⟩ | ⟨pl2,e,l,rfl,pc,R4⟩
   ·obtain⟨mv,em,lm⟩:=R4.ls.mv;refine⟨_,rfl,_,rfl,iteT ⟨_,rfl,.inl ⟨rfl,_,SqL.of em⟩,_,rfl,by show 2<=sizeLine;decide,λt0 ht0=>⟨m,_,_,rfl,rfl,qab ht0 _ _ _ em,qaZ (by rw[lm,qD];show _+(qa0 i W).length<=1000;unfold qa0;rw[qA];omega),?_⟩⟩⟩;have R5:=R4.add (y:=Bk.T "place") em ht0;refine q as1 ns1 _ ?_ (by rw[<-sp.nd,tp,qX]) lok1 nf1 R5.kp;rw[<-sp.ws,tp];exact R5.ls
   ·exact⟨_,rfl,_,rfl,iteF (go _ _ ⟨pl2,e,l,rfl,pc,R4⟩)⟩
  rintro _ H5 ⟨pl2,e,l,rfl,pc,R5⟩;refine qau (λσ' H'=>σ'=[some (.ref p),some (.ref t),some (.ref m),some (.int i),some (.int d.e),some (.str k1.s),some (.str d.nm),some (.ref mkA),some (.ref sfA),some (.ref pl2),none,none]/\RS H1 p m i ms as1 ns1 (W++wd ((l:Int)≠d.e) (Bk.T "level")) pl2 e l H') (λN0 go=>?_) ?_
  ·refine⟨_,rfl,pl2,_,_,_,rfl,rfl,SqL.of R5.hp,rfl,_,rfl,rfl,_,rfl,?_⟩
   by_cases hl:(l:Int)=d.e
   ·rw[qC (by rw[hl]:V.int (l:Int)=V.int d.e)];exact iteF (go _ _ ⟨rfl,by rw[qcq (λz=>z hl),qX];exact R5⟩)
   ·rw[qB (λz=>hl (V.int.inj z):¬V.int (l:Int)=V.int d.e)];obtain⟨mv,em,lm⟩:=R5.ls.mv;refine iteT ⟨_,rfl,.inl ⟨rfl,_,SqL.of em⟩,_,rfl,by show 2<=sizeLine;decide,λt0 ht0=>⟨m,_,_,rfl,rfl,qab ht0 _ _ _ em,qaZ (by rw[lm,qD];show _+(qa0 i W).length<=1000;unfold qa0;rw[qA];omega),go _ _ ⟨rfl,by rw[qce hl];exact R5.add em ht0⟩⟩⟩
  rintro _ H6 ⟨rfl,R6⟩;have lW6:(W++wd ((l:Int)≠d.e) (Bk.T "level")).length<=2:=by rw[qD];have:=qdF ((l:Int)≠d.e) (Bk.T "level");omega
  generalize eW6:W++wd ((l:Int)≠d.e) (Bk.T "level")=W6 at R6 lW6;have wl:∀{X:List Str} {n:Nat},X.length<=n->n<=7->(ms++qa0 i X).length<=1000:=λ{X n} h h7=>by rw[qD];unfold qa0;rw[qA];omega
  refine qau (λσ' H'=>σ'=[some (.ref p),some (.ref t),some (.ref m),some (.int i),some (.int d.e),some (.str k1.s),some (.str (qaF (fs ns1) d.nm)),some (.ref mkA),some (.ref sfA),some (.ref pl2),none,none]/\RS H1 p m i ms as1 ns1 (W6++wd (qaF (fs ns1) d.nm≠d.nm) (Bk.T "name")) pl2 e l H') (λN0 go=>?_) ?_
  ·refine⟨_,rfl,rfl,_,rfl,?_⟩;rw[show decide (V.str d.nm=V.str (Str.ofString ""))=decide (d.nm=noName)from nmt d.nm]
   by_cases hn:d.nm=noName
   ·rw[qC hn];have e1:qaF (fs ns1) d.nm=d.nm:=Classical.byContradiction λz=>((qfq _ _).mp z).1 hn
    exact iteF (iteF (go _ _ ⟨by rw[e1],by rw[qcq (λz=>z e1),qX];exact R6⟩))
   rw[qB hn];refine iteT ⟨_,rfl,_,rfl,p,rfl,⟨_,SqL.of R6.ls.hp⟩,qaM (xs:=as1.map V.ref) (λj ys σ' H'=>H'=H6/\ys=(((fs ns1).take j).map Nd.nm).map V.str/\∃z,σ'=[z]) (by rw[qA];exact qaz (by omega)) ⟨rfl,rfl,none,rfl⟩ ?_ ?_ ?_⟩
   ·rintro j ys σ' H' hj ⟨rfl,rfl,_⟩;exact⟨SqL.of R6.ls.hp,by simp;omega⟩
   ·rintro j x ys σ' H' hx ⟨rfl,rfl,z,rfl⟩;obtain⟨a,ea,rfl⟩:=qcH hx;obtain⟨c,ec,mc,sc,hac,_⟩:=qaR R6.ls.ls ea;refine⟨_,rfl,a,_,_,_,rfl,rfl,SqL.of hac,rfl,rfl,?_,_,rfl⟩;rw[rO,qb9 ec,xB,qT,qT];rfl
   rintro ys σ' H' ⟨rfl,rfl,_⟩ D hD;have R7:=R6.same (qab hD (.lst (((fs ns1).map Nd.nm).map V.str)));rw[qA,ll1,<-qbt,rM];refine⟨D,_,rfl,.inl (SqL.of qac),rfl,qex _,_,rfl,?_⟩;rw[if_neg qF,qea];generalize upd H' D (.lst (((fs ns1).map Nd.nm).map V.str))=H7 at R7
   by_cases hm:d.nm∈(fs ns1).map Nd.nm
   ·rw[qC hm];obtain⟨mv,em,lm⟩:=R7.ls.mv;refine iteT ⟨_,rfl,.inl ⟨rfl,_,SqL.of em⟩,_,rfl,by show 2<=sizeLine;decide,λt0 ht0=>⟨m,_,_,rfl,rfl,qab ht0 _ _ _ em,qaZ (by rw[lm];exact wl lW6 (by decide)),go _ _ ⟨by rw[mendN_yes ⟨hn,hm⟩];rfl,by rw[qce ((qfq _ _).mpr ⟨hn,hm⟩)];exact R7.add em ht0⟩⟩⟩
   ·rw[qB hm];have e1:qaF (fs ns1) d.nm=d.nm:=Classical.byContradiction λz=>hm ((qfq _ _).mp z).2
    exact iteF (go _ _ ⟨by rw[e1],by rw[qcq (λz=>z e1),qX];exact R7⟩)
  rintro _ H7 ⟨rfl,R7⟩;have lW7:(W6++wd (qaF (fs ns1) d.nm≠d.nm) (Bk.T "name")).length<=3:=by rw[qD];have:=qdF (qaF (fs ns1) d.nm≠d.nm) (Bk.T "name");omega
  generalize eW7:W6++wd (qaF (fs ns1) d.nm≠d.nm) (Bk.T "name")=W7 at R7 lW7;obtain⟨omk,hmk7,st7⟩:=told nf1 R7.kp;refine⟨_,rfl,mkA,d.mks,rfl,SqL.of hmk7,by unfold scanBound;have:=pd1.mks.2;have h6:d.mks.length<=60:=this;omega,λdd hd=>?_⟩;have s3:=qab hd (setS w dd (once d.mks));have l6:=qhI d.mks;have h60:d.mks.length<=60:=pd1.mks.2;refine⟨dd,once d.mks,rfl,qac,by omega,λD2 ss hD2 pm so=>?_⟩;have s4:=s3.trans (qab hD2 (.lst (ss.map V.str)));have ri:=qhk so (pm.symm.nodup (qfi d.mks));have mo:MarksOf d.mks (ss.take 4):=⟨ss,pm,ri,rfl⟩;have emk:=qcB mo;refine⟨4,rfl,D2,_,rfl,SqL.of qac,λfl hfl=>?_⟩;rw[show cutV (ss.map V.str) none (some 4)=(qav d.mks).map V.str by rw[emk,show(4:Int)=((4:Nat):Int)from rfl,qhH,wM]];have s5:=s4.trans (qab hfl (.lst ((qav d.mks).map V.str)));have ofl:=R7.ls.out (s4.none hfl);have R8:=R7.same s5;have el:upd (upd (upd H7 dd (setS w dd (once d.mks))) D2 (.lst (ss.map V.str))) fl (.lst ((qav d.mks).map V.str)) fl=some (.lst ((qav d.mks).map V.str)):=qac;have mf:=qdK (mks:=d.mks) pd1.mks.1;dsimp only[qbu];refine qau (λσ' H'=>σ'=[some (.ref p),some (.ref t),some (.ref m),some (.int i),some (.int d.e),some (.str k1.s),some (.str (qaF (fs ns1) d.nm)),some (.ref mkA),some (.ref sfA),some (.ref pl2),some (.ref fl),none]/\RS H1 p m i ms as1 ns1 (W7++wd (qav d.mks≠d.mks) (Bk.T "marks")) pl2 e l H'/\H' fl=some (.lst ((qav d.mks).map V.str))) (λN0 go=>?_) ?_
  ·obtain⟨_,hmk8,_⟩:=told nf1 R8.kp;refine⟨_,rfl,_,rfl,_,_,.lst el (qg3 _),.lst hmk8 (qg3 _),qft mf.2.1,qft pd1.mks.1,λee=>⟨_,rfl,?_⟩,λee=>⟨_,rfl,?_⟩⟩
   ·injection ee with ee
    have ee:qav d.mks=d.mks:=qeI (λa b h=>by injection h) ee;exact iteF (go _ _ ⟨rfl,by rw[qcq (λz=>z ee),qX];exact R8,el⟩)
   ·have ne:qav d.mks≠d.mks:=λz=>ee (by rw[z])
    obtain⟨mv,em,lm⟩:=R8.ls.mv;exact iteT ⟨_,rfl,.inl ⟨rfl,_,SqL.of em⟩,_,rfl,by show 2<=sizeLine;decide,λt0 ht0=>⟨m,_,_,rfl,rfl,qab ht0 _ _ _ em,qaZ (by rw[lm];exact wl lW7 (by decide)),go _ _ ⟨rfl,by rw[qce ne];exact R8.add em ht0,R8.out ht0 ofl.2.1 el⟩⟩⟩
  rintro _ H9 ⟨rfl,R9,el9⟩;have lW9:(W7++wd (qav d.mks≠d.mks) (Bk.T "marks")).length<=4:=by rw[qD];have:=qdF (qav d.mks≠d.mks) (Bk.T "marks");omega
  generalize eW9:W7++wd (qav d.mks≠d.mks) (Bk.T "marks")=W9 at R9 lW9;refine qau (λσ' H'=>∃(sx:Addr) (kv:Option V),σ'=[some (.ref p),some (.ref t),some (.ref m),some (.int i),some (.int d.e),some (.str k1.s),some (.str (qaF (fs ns1) d.nm)),some (.ref mkA),some (.ref sx),some (.ref pl2),some (.ref fl),kv]/\RS H1 p m i ms as1 ns1 (W9++wd (ofPieces k1=true/\qaj k1 d.st≠d.st) (Bk.T "pieces")++wd (ofPieces k1=true/\qaj k1 d.st=[]) (Bk.T "bare")) pl2 e l H'/\H' fl=some (.lst ((qav d.mks).map V.str))/\StAt (Ou p m as1) H' sx (qdg k1 d.st)) (λN0 go=>?_) ?_
  ·refine⟨_,rfl,by show 3<=sizeLine;decide,λtl htl=>⟨tl,_,rfl,.inl (SqL.of qac),rfl,rfl,_,rfl,?_⟩⟩;have R10:=R9.same (qab htl (.lst [.str (Str.ofString "text"),.str (Str.ofString "note"),.str (Str.ofString "head")]));have el10:=qab htl (.lst [.str (Str.ofString "text"),.str (Str.ofString "note"),.str (Str.ofString "head")]) _ _ el9;generalize upd H9 tl (.lst [.str (Str.ofString "text"),.str (Str.ofString "note"),.str (Str.ofString "head")])=H10 at R10 el10;rw[if_neg qF,show inV (.str k1.s) [.str (Str.ofString "text"),.str (Str.ofString "note"),.str (Str.ofString "head")]=decide (k1∈[Kd.text,.note,.head])from qbl k1 [Kd.text,.note,.head],show decide (k1∈[Kd.text,.note,.head])=ofPieces k1 by cases k1<;>rfl];obtain⟨_,_,st10⟩:=told nf1 R10.kp;cases eo:ofPieces k1 with
   | false =>
     refine iteF (go _ _ ⟨sfA,none,rfl,?_,el10,by rw[newSt_no eo];exact st10⟩)
     rw[qcq (λz=>by rw[eo]at z;exact absurd z.1 (by decide)),qcq (λz=>by rw[eo]at z;exact absurd z.1 (by decide)),qX,qX]
     exact R10
   | true =>
     have pc:=pd1.pc eo
     refine iteT ⟨_,rfl,_,rfl,k1,sfA,d.st,Ou p m as1,rfl,st10,(λb hb=>R10.ls.out hb),pc.1,pc.2,λs6 H11 hs6 k6 st6=>?_⟩
     have R11:=R10.same k6
     have el11:=k6 _ _ el10
     dsimp only[qbu]
     refine qau (λσ' H'=>σ'=[some (.ref p),some (.ref t),some (.ref m),some (.int i),some (.int d.e),some (.str k1.s),some (.str (qaF (fs ns1) d.nm)),some (.ref mkA),some (.ref sfA),some (.ref pl2),some (.ref fl),some (.ref s6)]/\RS H1 p m i ms as1 ns1 (W9++wd (ofPieces k1=true/\qaj k1 d.st≠d.st) (Bk.T "pieces")) pl2 e l H'/\H' fl=some (.lst ((qav d.mks).map V.str))/\StAt (Ou p m as1) H' s6 (qaj k1 d.st)) (λN2 go2=>?_) ?_
     · obtain⟨n6,vs6,hs6',pa6⟩:=id st6
       obtain⟨_,_,ns',vs',hs',pa'⟩:=told nf1 R11.kp
       refine⟨_,rfl,_,rfl,_,_,.lst hs6' (qfA pa6),.lst hs' (qfA pa'),qgp (qfm pc.1),qgp pc.1,λee=>⟨_,rfl,?_⟩,λee=>⟨_,rfl,?_⟩⟩
       · injection ee with ee
         have ee:qaj k1 d.st=d.st:=qeI thD_inj ee
         exact iteF (go2 _ _ ⟨rfl,by rw[qcq (λz=>z.2 ee),qX];exact R11,el11,st6⟩)
       · have ne:qaj k1 d.st≠d.st:=λz=>ee (by rw[z])
         obtain⟨mv,em,lm⟩:=R11.ls.mv
         refine iteT ⟨_,rfl,.inl ⟨rfl,_,SqL.of em⟩,_,rfl,by show 2<=sizeLine;decide,λt0 ht0=>⟨m,_,_,rfl,rfl,qab ht0 _ _ _ em,qaZ (by rw[lm];exact wl lW9 (by decide)),go2 _ _ ⟨rfl,by rw[qce ⟨eo,ne⟩];exact R11.add em ht0,R11.out ht0 ofl.2.1 el11,st6.keep (λb o n eb=>R11.out ht0 n.2.1 eb) λ_ n _=>n⟩⟩⟩
     rintro _ H12 ⟨rfl,R12,el12,n12,vs12,hs12,pa12⟩
     have lW12:(W9++wd (ofPieces k1=true/\qaj k1 d.st≠d.st) (Bk.T "pieces")).length<=5:=by rw[qD];have:=qdF (ofPieces k1=true/\qaj k1 d.st≠d.st) (Bk.T "pieces");omega
     generalize W9++wd (ofPieces k1=true/\qaj k1 d.st≠d.st) (Bk.T "pieces")=W12 at R12 lW12 go
     have lp:vs12.length=(qaj k1 d.st).length:=pa12.length
     refine qau (λσ' H'=>∃sx:Addr,σ'=[some (.ref p),some (.ref t),some (.ref m),some (.int i),some (.int d.e),some (.str k1.s),some (.str (qaF (fs ns1) d.nm)),some (.ref mkA),some (.ref sfA),some (.ref pl2),some (.ref fl),some (.ref sx)]/\RS H1 p m i ms as1 ns1 (W12++wd (ofPieces k1=true/\qaj k1 d.st=[]) (Bk.T "bare")) pl2 e l H'/\H' fl=some (.lst ((qav d.mks).map V.str))/\StAt (Ou p m as1) H' sx (qdg k1 d.st)) (λN2 go2=>?_) ?_
     · refine⟨_,rfl,by show 0<=sizeLine;decide,λz hz=>⟨s6,z,_,rfl,rfl,qab hz _ _ _ hs12,qac,_,rfl,?_⟩⟩
       have sz:=qab hz (.lst [])
       have R13:=R12.same sz
       have el13:=sz _ _ el12
       have st13:StAt (Ou p m as1) (upd H12 z (.lst [])) s6 (qaj k1 d.st):=StAt.keep ⟨n12,vs12,hs12,pa12⟩ sz.keep λ_ n _=>n
       generalize upd H12 z (.lst [])=H13 at R13 el13 st13
       rw[if_neg qF]
       by_cases he:qaj k1 d.st=[]
       · rw[show vs12.isEmpty=true by rw[he]at lp;rw[qO lp];rfl]
         refine iteT ⟨by show 3<=sizeLine;decide,λta hta=>⟨by show 1<=sizeLine;decide,λsb hsb=>?_⟩⟩
         have sa:=qab hta (.tup [.str (Str.ofString "word"),.str (Str.ofString "?"),.int 0])
         have sb':=sa.trans (qab hsb (.lst [.ref ta]))
         have ota:=R13.ls.out hta
         have osb:=R13.ls.out (sa.none hsb)
         have R14:=R13.same sb'
         have el14:=sb' _ _ el13
         have st14:StAt (Ou p m as1) (upd (upd H13 ta (.tup [.str (Str.ofString "word"),.str (Str.ofString "?"),.int 0])) sb (.lst [.ref ta])) sb bareSt:=⟨osb,_,qac,.cons ⟨ta,rfl,ota,qab hsb _ _ _ qac⟩ .nil⟩
         generalize upd (upd H13 ta (.tup [.str (Str.ofString "word"),.str (Str.ofString "?"),.int 0])) sb (.lst [.ref ta])=H14 at R14 el14 st14
         obtain⟨mv,em,lm⟩:=R14.ls.mv
         refine⟨_,rfl,.inl ⟨rfl,_,SqL.of em⟩,_,rfl,by show 2<=sizeLine;decide,λt0 ht0=>⟨m,_,_,rfl,rfl,qab ht0 _ _ _ em,qaZ (by rw[lm];exact wl lW12 (by decide)),go2 _ _ ⟨sb,rfl,by rw[qce ⟨eo,he⟩];exact R14.add em ht0,R14.out ht0 ofl.2.1 el14,by rw[newSt_bare eo he];exact st14.keep (λb o n eb=>R14.out ht0 n.2.1 eb) λ_ n _=>n⟩⟩⟩
       · rw[show vs12.isEmpty=false by cases vs12 with | nil=>exact absurd (qO lp.symm) he | cons=>rfl]
         exact iteF (go2 _ _ ⟨s6,rfl,by rw[qcq (λz=>he z.2),qX];exact R13,el13,by rw[newSt_kept eo he];exact st13⟩)
     rintro _ H14 ⟨sx,rfl,R14,el14,st14⟩
     exact⟨_,rfl,go _ _ ⟨sx,_,rfl,R14,el14,st14⟩⟩
  rintro _ H15 ⟨sx,kv,rfl,R15,el15,st15⟩;refine⟨_,rfl,.inl ⟨rfl,_,SqL.of R15.ls.hp⟩,_,rfl,pl2,_,_,_,rfl,rfl,SqL.of R15.hp,rfl,_,rfl,_,rfl,_,rfl,_,rfl,_,rfl,pl2,_,_,_,rfl,rfl,SqL.of R15.hp,rfl,by show 6<=sizeLine;decide,λa ha=>⟨p,_,_,rfl,rfl,qab ha _ _ _ R15.ls.hp,qaZ (by rw[qA];omega),?_⟩⟩;have L16:=R15.ls.node (x:=(qbK (fs ns1) e {d with k:=k1},l)) ha ofl el15 st15;have oa:=R15.ls.out ha;refine q (as1++[a]) _ _ ?_ ?_ pc.lv (λb hb=>?_) (qcS R15.kp ha λb n=>n.1)
  ·rw[<-sp.ws,pc.tl];have e16:W++(qaN {d with k:=k1} l++qaQ (fs ns1) {d with k:=k1})=W9++wd (ofPieces k1=true/\qaj k1 d.st≠d.st) (Bk.T "pieces")++wd (ofPieces k1=true/\qaj k1 d.st=[]) (Bk.T "bare"):=by
    rw[<-eW9,<-eW7,<-eW6];unfold qaN qaQ;simp only[List.append_assoc]
   show LS _ p m (as1++[a]) (ns1++[(qbK (fs ns1) e {d with k:=k1},l)]) (ms++qa0 i (W++(qaN {d with k:=k1} l++qaQ (fs ns1) {d with k:=k1})));rw[e16];exact L16
  ·rw[<-sp.nd,pc.tl,qh9];rfl
  ·rcases qY.mp hb with hb | hb
   ·exact nf1 b hb
   ·have:b=a:=by simpa using hb
    subst this;cases e:H1 b with
    | none=>exact .inr rfl
    | some o=>rw[R15.kp _ _ ⟨oa.1,oa.2.1⟩ e]at ha;cases ha
end
end K09
namespace Gen
open PySem L2 Bk
theorem qfs{f:Nat->Nd->Nd}{ns:List Ln}{i:Nat}{x:Ln}(e:ns[i]?=some x):stp f ns (i+1)=(stp f ns i).set i (f i x.1,x.2):=by rw[stp,e]
theorem qhp{f:Nat->Nd->Nd}{ns:List Ln}{i:Nat}{x:Ln}(e:ns[i]?=some x):(stp f ns i)[i]?=some x:=by rw[qcG,if_neg (rW i),e]
theorem qhg{f:Nat->Nd->Nd}{ns:List Ln}{i:Nat}{x:Ln}(e:ns[i]?=some x)(h:f i x.1=x.1):stp f ns (i+1)=stp f ns i:=by
 apply yM;intro j;rw[qcG,qcG]
 by_cases h1:j<i
 ·rw[if_pos h1,if_pos (by omega)]
 ·rw[if_neg h1]
  by_cases h2:j<i+1
  ·have:j=i:=by omega
   subst this;rw[if_pos h2,e];show some (f j x.1,x.2)=some x;rw[h]
  ·rw[if_neg h2]
theorem note_kd{k:Kd}:mayHold k .note=(decide (k=.text) || decide (k=.head)):=by cases k<;>rfl
theorem noted_no{ds:List Nd}{i:Nat}{d:Nd}(h:mayHold d.k .note=false):noted ds i d=d/\qbm ds i d=[]/\qbF ds i d=false:=by
 unfold noted qbm qbF;rw[h];exact⟨rfl,rfl,rfl⟩
theorem noted_yes{ds:List Nd}{i:Nat}{d:Nd}(h:mayHold d.k .note=true):noted ds i d={d with st:=qaG (kids ds i).length d.st}/\qbm ds i d=(kids ds i).drop (qaw (qaG (kids ds i).length d.st)).length:=by
 unfold noted qbm;rw[if_pos h,if_pos h];exact⟨rfl,rfl⟩
theorem noted_el(ds:List Nd)(i:Nat)(d:Nd):(noted ds i d).e=d.e:=(qdf ds i d).1
theorem qdh{ds:List Nd}{i:Nat}{d:Nd}(e:ds[i]?=some d):qbv ds (i+1)=qbv ds i++(if qbF ds i d then[T "notes"]else[]):=by
 unfold qbv;rw[qa3 e]
theorem qeo{ds:List Nd}{i:Nat}{d:Nd}(e:ds[i]?=some d):qbQ ds (i+1)=qbQ ds i++(if qaD ds i d then[T "case"]else[]):=by
 unfold qbQ;rw[qa3 e]
theorem qdG(ds:List Nd)(i:Nat):(qbv ds i).length<=1*i:=qbC (λi d=>by split<;>simp) i
theorem qeZ(ds:List Nd)(i:Nat):(qbQ ds i).length<=1*i:=qbC (λi d=>by split<;>simp) i
theorem qgu{α:Type}(x:α):∀n:Nat,(List.replicate n [x]).flatten=List.replicate n x
 | 0=>rfl
 | n+1=>by rw[rN,List.flatten_cons,qgu x n,rN];rfl
theorem qe0{α β:Type}{F:α->β->Prop}{a:α}{b:β}(h:F a b):∀n:Nat,Paired F (List.replicate n a) (List.replicate n b)
 | 0=>.nil
 | n+1=>by rw[rN,rN];exact .cons h (qe0 h n)
theorem qhS(m:Nat)(l:List Th):∀i,(qbY m l i).1.length<=i/\(qbY m l i).2<=i
 | 0=>by unfold qbY;simp
 | i + 1 => by
   obtain⟨a,b⟩:=qhS m l i
   cases e:l[i]? with
   | none =>
     have:l.take (i+1)=l.take i:=by rw[rO,e];simp
     unfold qbY at *
     rw[this]
     omega
   | some x =>
     rw[qd3 e]
     unfold qgi
     split
     · split
       · refine⟨?_,by show _+1<=_;omega⟩
         show((qbY m l i).1++[qbZ ((qbY m l i).2:Nat)]).length<=_
         rw[qD,xU]
         omega
       · omega
     · refine⟨?_,by show(qbY m l i).2<=_;omega⟩
       show((qbY m l i).1++[x]).length<=_
       rw[qD,xU]
       omega
theorem qiI(ds:List Nd)(i:Nat)(d:Nd):(mkK ds i d).e=d.e:=rfl
theorem wants_is(ds:List Nd)(i:Nat)(d:Nd):qaD ds i d=((decide (d.k∈[Kd.aside,.shelf,.grid]) && decide ((kids ds i).length=0)) || (decide (d.k=.aside) && !decide (qaY ds i d=.text))):=by
 unfold qaD;have e1:decide (kids ds i=[])=decide ((kids ds i).length=0):=by
  rw[r9,rA,rA];exact⟨λh=>by rw[h];rfl,λh=>qO h⟩
 have e2:decide (qaY ds i d≠.text)=!decide (qaY ds i d=.text):=by simp
 rw[e1,e2,Bool.or_comm]
end Gen
namespace K09
open PySem L2 Bk Gen
abbrev sNotesL:Stmt:=top 88
abbrev sBehindL:Stmt:=top 89
abbrev sCasesL:Stmt:=top 90
section
variable{P:Program}{w:World}{K:W.Frag}{mg:Str->Option Value}{base:Heap}
theorem scBehindL:FnScope ["_law_nodes", "_law_k", "_law_j"] ["_law_nodes", "_law_k"] (qai sBehindL):=⟨rfl,rfl,rfl,by ac_rfl,rfl,by ac_rfl,by ac_rfl⟩
theorem ok_behind{f:Addr}{fd:FuncData}(F:Fun K "_law_behind" "_law_behind" sBehindL f fd)(T:Bn mg):FnOk P w K mg base CX0 1 f fd ["_law_nodes", "_law_k"] spBehindL:=by
 refine F.ok scBehindL (λvs H Q E h=>?_) (λcdv A outer s H vs Q E hr h=>?_)
 ·obtain⟨p,m,k,d,as,ns,ms,rfl,_⟩:=h;rfl
 ·obtain⟨p,m,k,d,as,ns,ms,rfl,L,le,ed,q⟩:=h;refine⟨_,(qad (qbT rR (by rfl) (pi_range2 (by rfl) T.range (qaa (qaO op_add (pv 1) qaf) (qaa (qam call_len_seq (by rfl) T.len b_len (qaa (pv 0) pa_nil)) pa_nil))) (qas (i:=2) scBehindL.nd (by rfl) (by trivial))
   (qae (qaH (qah op_eq (qan ix_list (qan ix_list (pv 0) (pv 2) (λ_ _=>rfl)) qaf (λ_ _=>rfl)) (qan ix_list (qan ix_list (pv 0) (pv 1) (λ_ _=>rfl)) qaf (λ_ _=>rfl)) (qao _)) (qae (qap (qan ix_list (qan ix_list (pv 0) (pv 2) (λ_ _=>rfl)) qaf (λ_ _=>rfl)))) pss_nil)))
   (qae (qap qag))),?_⟩
  have ll:=L.len;have hk:k<ns.length:=by rw[<-qbt];exact(qI.mp ed).1
  have ek:ns[k]?=some ns[k]:=qG hk;obtain⟨a,ea,mk,sf,ha,_⟩:=L.get ek;have edk:ns[k].1=d:=by rw[qb9 ek]at ed;exact rD ed
  generalize ns[k]=xk at ek ha edk;refine⟨_,rfl,_,_,rfl,rfl,_,rfl,p,_,rfl,.inl (SqL.of L.hp),_,_,rfl,⟨by omega,by omega,by rw[qA];omega,by rw[qA];omega⟩,qcJ (λi σ' H'=>H'=H/\(∃z,σ'=[some (.ref p),some (.int k),z])/\∀j:Nat,k<j->j<k+1+i->((fs ns)[j]?).map Nd.e≠some d.e) ⟨rfl,⟨none,rfl⟩,λj h1 h2=>by omega⟩ ?_ ?_⟩
  ·rintro i σ' H' hi ⟨rfl,⟨z,rfl⟩,no⟩;have hi:k+1+i<ns.length:=by
    have:i<((((as.map V.ref).length:Nat):Int)-((k:Int)+1)).toNat:=hi;rw[qA]at this;omega
   rw[show(k:Int)+1+(i:Nat)=((k+1+i:Nat):Int) by omega];have ej:ns[k+1+i]?=some ns[k+1+i]:=qG hi;obtain⟨b,eb,mk2,sf2,hb,_⟩:=L.get ej;generalize ns[k+1+i]=xj at ej hb;refine⟨_,rfl,_,rfl,p,_,_,_,rfl,rfl,SqL.of L.hp,qa6 eb,b,_,_,_,rfl,rfl,SqL.of hb,rfl,_,rfl,_,rfl,p,_,_,_,rfl,rfl,SqL.of L.hp,qa6 ea,a,_,_,_,rfl,rfl,SqL.of ha,rfl,rfl,_,rfl,?_⟩
   by_cases he:xj.1.e=xk.1.e
   ·rw[qC (by rw[he]:V.int xj.1.e=V.int xk.1.e)];refine iteT ⟨_,rfl,_,rfl,p,_,_,_,rfl,rfl,SqL.of L.hp,qa6 eb,b,_,_,_,rfl,rfl,SqL.of hb,rfl,?_⟩;rw[next_at (j:=k+1+i) (by omega) (qb9 ej) (by rw[he,edk]) λj h1 h2=>no j h1 h2]at q;exact q
   ·rw[qB (λz=>he (V.int.inj z):¬V.int xj.1.e=V.int xk.1.e)];refine iteF ⟨rfl,⟨_,rfl⟩,λj h1 h2=>?_⟩
    by_cases hj:j=k+1+i
    ·rw[hj,qb9 ej];intro z;exact he (by rw[edk];exact rD z)
    ·exact no j h1 (by omega)
  ·rintro σ' H' ⟨rfl,⟨z,rfl⟩,no⟩;refine(?_:Q (.str (Str.ofString "")) H');rw[next_no (k:=k) λj h1 h2=>no j h1 (by rw[qbt]at h2;rw[qA];omega)]at q;exact q
theorem scCasesL:FnScope ["_law_nodes", "_law_mends", "_law_k", "_law_held", "_law_kind", "_law_empty"] ["_law_nodes", "_law_mends"] (qai sCasesL):=⟨rfl,rfl,rfl,by ac_rfl,rfl,by ac_rfl,by ac_rfl⟩
theorem ok_cases{f:Addr}{fd:FuncData}(F:Fun K "_law_cases" "_law_cases" sCasesL f fd)(T:Bn mg)(F_behind:Fx P w K mg base CX0 1 "_law_behind" ["_law_nodes", "_law_k"] spBehindL):FnOk P w K mg base CX0 2 f fd ["_law_nodes", "_law_mends"] spCasesL:=by
 refine F.ok scCasesL (λvs H Q E h=>?_) (λcdv A outer s H vs Q E hr h=>?_)
 ·obtain⟨p,m,as,ns,ms,rfl,_⟩:=h;rfl
 ·obtain⟨p,m,as,ns,ms,rfl,L,le,lms,q⟩:=h;have hr_behind:=hr;refine⟨_,(qae (qbT rR (by rfl) (qby (by rfl) T.range (qaa (qam call_len_seq (by rfl) T.len b_len (qaa (pv 0) pa_nil)) pa_nil)) (qas (i:=2) scCasesL.nd (by rfl) (by trivial))
   (qad (qaq (i:=3) scCasesL.nd (by rfl) (by trivial) (qam call_len_seq (by rfl) T.len b_len (qaa (qbr (own:=["_law_node"]) (by rfl) (ix:=[2]) (frees:=["_law_k"]) (CompScope.frees (by rfl) (by ac_rfl) (by ac_rfl) (by ac_rfl) (by rfl) (by ac_rfl) (by first | exact qdZ (by rfl) | exact qeG (by rfl) (by rfl))) (qa1 (pv 0)) (λcl C s2 H2 fp=>(qas (i:=0) (by show(["_law_node", "_law_k"]:List Str).Nodup;ac_rfl) (by rfl) (by trivial) (by trivial))) (λcl C s2 H2 fp=>(qbX (qah op_eq (qan (r:=rIxL K) ix_list (pv 0) qaf (λ_ _=>rfl)) (pv 1) (qao _)))) (λcl C s2 H2 fp=>(pv 0))) pa_nil)))
   (qad (qaq (i:=4) scCasesL.nd (by rfl) (by trivial) (qan ix_list (qan ix_list (pv 0) (pv 2) (λ_ _=>rfl)) qaf (λ_ _=>rfl)))
   (qad (qaq (i:=5) scCasesL.nd (by rfl) (by trivial) (qdr (qa2 op_in_seq (pv 4) (qay (qaa qag (qaa qag (qaa qag pa_nil)))) (by with_unfolding_all rfl)) (qdb (qa2 op_eq (pv 3) qaf (qao _)))))
   (qae (qaH (PW.pt (qdi (qbk (pv 5)) (qcg (PW.pt (qcb (qah op_eq (pv 4) qag (qao _)) (qbD (qah op_ne (qaB F_behind hr_behind (by rfl) qaA (qaa (pv 0) (qaa (pv 2) pa_nil))) qag (qao _)))))))) (qad (qer qag (qf3 (qan ix_list (pv 0) (pv 2) (λ_ _=>rfl)) qaf set_list))
   (qae (qaC (qaV qH qJ qK mt_append (pv 1) (qa8 (qaK (qaa (qcy un_neg qaf) (qaa qag pa_nil))) pa_nil))))) pss_nil))))))),?_⟩
  have ll:=L.len;have rm:∀b:Addr,(b≠m/\b∉as)->b≠m:=λb h=>h.1
  refine⟨_,rfl,p,_,rfl,.inl (SqL.of L.hp),_,rfl,by rw[qA];omega,by rw[qA];omega,qcJ (λi σ' H'=>(∃v2 v3 v4 v5:Option V,σ'=[some (.ref p),some (.ref m),v2,v3,v4,v5])/\LS H' p m as (stp (mkK (fs ns)) ns i) (ms++qa0 (-1) (qbQ (fs ns) i))/\KeepN (λb=>b≠m/\b∉as) H H') ⟨⟨none,none,none,none,rfl⟩,by rw[show qbQ (fs ns) 0=[]from rfl,qcz];exact L,KeepN.refl⟩ ?_ ?_⟩
  ·rintro i σ' H1 hi ⟨⟨v2,v3,v4,v5,rfl⟩,L1,K1⟩;have hi:i<ns.length:=by
    have:i<(((as.map V.ref).length:Nat):Int).toNat:=hi;rw[qA]at this;omega
   rw[show(0:Int)+(i:Nat)=((i:Nat):Int) by omega];have ex:ns[i]?=some ns[i]:=qG hi;generalize ns[i]=x at ex;have exs:=qhp (f:=mkK (fs ns)) ex;obtain⟨a,ea,mk,sf,ha,nmk,hmk,hst⟩:=L1.get exs;have lc:(ms++qa0 (-1) (qbQ (fs ns) i)).length<=1000:=by
    rw[qD];unfold qa0;rw[qA];have:=qeZ (fs ns) i;omega
   refine qau (λσ' H'=>∃v4 v5,σ'=[some (.ref p),some (.ref m),some (.int i),some (.int ((kids (fs ns) i).length:Nat)),v4,v5]/\Same H1 H') (λN0 go=>?_) ?_
   ·refine⟨_,rfl,p,rfl,⟨_,SqL.of L1.hp⟩,qaM (xs:=as.map V.ref) (λj ys σ' H'=>H'=H1/\ys.length=(qaX (fs ns) i j).length/\∃z,σ'=[z,some (.int i)]) (by rw[qA];exact qaz (by omega)) ⟨rfl,rfl,none,rfl⟩ ?_ ?_ ?_⟩
    ·rintro j ys σ' H' hj ⟨rfl,ly,_⟩;exact⟨SqL.of L1.hp,by rw[ly];exact qb6 _ _ _⟩
    ·rintro j y ys σ' H' hy ⟨rfl,ly,z,rfl⟩;obtain⟨b,eb,rfl⟩:=qcH hy;obtain⟨c,ec,mc,sc,hb,_⟩:=qaR L1.ls eb;have ej:((fs ns)[j]?).map Nd.e=some c.1.e:=by
      rw[<-qiz (qiI (fs ns)) ns i j,qb9 ec];rfl
     obtain⟨dj,edj,edje⟩:∃dj,(fs ns)[j]?=some dj/\dj.e=c.1.e:=by
      cases e:(fs ns)[j]? with
      | none=>rw[e]at ej;cases ej
      | some dj=>rw[e]at ej;exact⟨dj,rfl,rD ej⟩
     refine⟨_,rfl,b,_,_,_,rfl,rfl,SqL.of hb,rfl,_,rfl,rfl,_,rfl,?_⟩
     by_cases he:c.1.e=(i:Int)
     ·rw[qC (by rw[he]:V.int c.1.e=V.int (i:Nat))];refine iteT ⟨_,rfl,rfl,?_,_,rfl⟩;rw[qcW edj (edje.trans he),qD,qD,ly];rfl
     ·rw[qB (λz=>he (V.int.inj z):¬V.int c.1.e=V.int (i:Nat))];refine iteF ⟨rfl,?_,_,rfl⟩;rw[qdx edj (λz=>he (edje.symm.trans z))];exact ly
    ·rintro ys σ' H' ⟨rfl,ly,_⟩ D hD;refine⟨D,_,rfl,.inl (SqL.of qac),go _ _ ⟨v4,v5,?_,qab hD _⟩⟩;rw[ly,qA,ll,<-qbt];rfl
   rintro _ H2 ⟨v4,v5,rfl,s2⟩;have L2:=L1.same s2;have ha2:=s2 _ _ ha;refine⟨_,rfl,_,rfl,p,_,_,_,rfl,rfl,SqL.of L2.hp,qa6 ea,a,_,_,_,rfl,rfl,SqL.of ha2,rfl,?_⟩;dsimp only[qbu];refine qau (λσ' H'=>σ'=[some (.ref p),some (.ref m),some (.int i),some (.int ((kids (fs ns) i).length:Nat)),some (.str x.1.k.s),some (.bl (decide (x.1.k∈[Kd.aside,.shelf,.grid]) && decide ((kids (fs ns) i).length=0)))]/\Same H1 H') (λN0 go=>?_) ?_
   ·refine⟨_,rfl,by show 3<=sizeLine;decide,λtl htl=>⟨tl,_,rfl,.inl (SqL.of qac),rfl,rfl,?_⟩⟩;have s3:=s2.trans (qab htl (.lst [.str (Str.ofString "aside"),.str (Str.ofString "shelf"),.str (Str.ofString "grid")]));rw[if_neg qF,show inV (.str x.1.k.s) [.str (Str.ofString "aside"),.str (Str.ofString "shelf"),.str (Str.ofString "grid")]=decide (x.1.k∈[Kd.aside,.shelf,.grid])from qbl x.1.k [Kd.aside,.shelf,.grid]]
    by_cases hk:x.1.k∈[Kd.aside,.shelf,.grid]
    ·rw[qC hk];refine⟨_,rfl,iteT ⟨_,rfl,rfl,go _ _ ⟨?_,s3⟩⟩⟩;rw[show decide (V.int ((kids (fs ns) i).length:Nat)=V.int 0)=decide ((kids (fs ns) i).length=0) by
      rw[r9,rA,rA];exact⟨λz=>by have:=V.int.inj z;omega,λz=>by rw[z];rfl⟩]
     rw[qC hk,xG];rfl
    ·rw[qB hk];refine⟨_,rfl,iteF (go _ _ ⟨?_,s3⟩)⟩;rw[qB hk,yC];rfl
   rintro _ H3 ⟨rfl,s3⟩;have L3:=L1.same s3;have ha3:=s3 _ _ ha;have K3:KeepN (λb=>b≠m/\b∉as) H H3:=K1.trans s3.keep;have wi:=wants_is (fs ns) i x.1;have kw:mkK (fs ns) i x.1={x.1 with k:=if qaD (fs ns) i x.1 then .case else x.1.k}:=rfl;have stay:qaD (fs ns) i x.1=false->stp (mkK (fs ns)) ns (i+1)=stp (mkK (fs ns)) ns i/\qbQ (fs ns) (i+1)=qbQ (fs ns) i:=λh=>by
    refine⟨qhg ex (by rw[kw,h];rfl),?_⟩;rw[qeo (qb9 ex),h,if_neg qF,qX]
   refine qe9 (λb H'=>b=qaD (fs ns) i x.1/\H'=H3) (λQ2 go=>?_) ?_
   ·refine⟨_,rfl,_,rfl,?_⟩;cases eb:(decide (x.1.k∈[Kd.aside,.shelf,.grid]) && decide ((kids (fs ns) i).length=0))with
    | true =>
      rw[eb,Bool.true_or]at wi
      exact iteT (go _ _ ⟨wi.symm,rfl⟩)
    | false =>
      rw[eb,uT]at wi
      refine iteF ⟨_,rfl,rfl,_,rfl,?_⟩
      rw[show decide (V.str x.1.k.s=V.str (Str.ofString "aside"))=decide (x.1.k=.aside)from kdt x.1.k .aside]
      by_cases hk:x.1.k=.aside
      · rw[qC hk]
        rw[qC hk,xG]at wi
        refine iteT ⟨_,rfl,_,rfl,p,m,i,x.1,as,_,_,rfl,L3,by rw[qch];exact le,qb9 exs,rfl,_,rfl,go _ _ ⟨?_,rfl⟩⟩
        rw[next_stp (qiI (fs ns)),show decide (V.str (qaY (fs ns) i x.1).s=V.str (Str.ofString "text"))=decide (qaY (fs ns) i x.1=.text)from kdt _ .text,wi]
      · rw[qB hk]
        rw[qB hk,yC]at wi
        exact iteF (go _ _ ⟨wi.symm,rfl⟩)
   rintro b Hx ⟨rfl,eHx⟩;rw[eHx];cases ew:qaD (fs ns) i x.1 with
   | false =>
     obtain⟨e1,e2⟩:=stay ew
     refine iteF ⟨⟨_,_,_,_,rfl⟩,?_,K3⟩
     rw[e1,e2]
     exact L3
   | true =>
     have hm:=qP ea
     have L4:=L3.set (x:=(mkK (fs ns) i x.1,x.2)) ea nmk (s3 _ _ hmk) (hst.keep s3.keep λ_ n _=>n)
     rw[<-qfs ex]at L4
     have e4:(six x mk sf).set 1 (.str (Str.ofString "case"))=six (mkK (fs ns) i x.1,x.2) mk sf:=by
       rw[kw,ew]
       rfl
     refine iteT ⟨_,rfl,_,rfl,p,_,_,_,rfl,rfl,SqL.of L3.hp,qa6 ea,a,six x mk sf,1,1,rfl,rfl,ha3,rfl,?_⟩
     dsimp only
     rw[e4]
     have K4:KeepN (λb=>b≠m/\b∉as) H (upd H3 a (.lst (six (mkK (fs ns) i x.1,x.2) mk sf))):=λb o n e=>by rw[qal (λz:b=a=>n.2 (z ▸ hm))];exact K3 b o n e
     generalize upd H3 a (.lst (six (mkK (fs ns) i x.1,x.2) mk sf))=H4 at L4 K4
     obtain⟨mv,em,lm⟩:=L4.mv
     refine⟨_,rfl,.inl ⟨rfl,_,SqL.of em⟩,_,rfl,by show 2<=sizeLine;decide,λt0 ht0=>⟨m,_,_,rfl,rfl,qab ht0 _ _ _ em,qaZ (by rw[lm];exact lc),⟨_,_,_,_,rfl⟩,?_,qcS K4 ht0 rm⟩⟩
     rw[qeo (qb9 ex),ew,if_pos rfl]
     exact L4.add em ht0
  ·rintro σ' H1 ⟨⟨v2,v3,v4,v5,rfl⟩,L1,K1⟩;refine(?_:Q .non H1);rw[show(((as.map V.ref).length:Nat):Int).toNat=ns.length by rw[qA];omega]at L1;exact q H1 L1 K1
theorem scNotesL:FnScope ["_law_nodes", "_law_mends", "_law_gone", "_law_k", "_law_notes_here", "_law_found", "_law_done", "_law_piece"] ["_law_nodes", "_law_mends"] (qai sNotesL):=⟨rfl,rfl,rfl,by ac_rfl,rfl,by ac_rfl,by ac_rfl⟩
theorem ok_notes{f:Addr}{fd:FuncData}(F:Fun K "_law_notes" "_law_notes" sNotesL f fd)(T:Bn mg):FnOk P w K mg base CX0 1 f fd ["_law_nodes", "_law_mends"] spNotesL:=by
 refine F.ok scNotesL (λvs H Q E h=>?_) (λcdv A outer s H vs Q E hr h=>?_)
 ·obtain⟨p,m,as,ns,ms,rfl,_⟩:=h;rfl
 ·obtain⟨p,m,as,ns,ms,rfl,L,ok,lms,q⟩:=h;refine⟨_,(qad (qaq (i:=2) scNotesL.nd (by rfl) (by trivial) (qay pa_nil))
   (qad (qbT rR (by rfl) (qby (by rfl) T.range (qaa (qam call_len_seq (by rfl) T.len b_len (qaa (pv 0) pa_nil)) pa_nil)) (qas (i:=3) scNotesL.nd (by rfl) (by trivial))
   (qae (qaH (PW.pt (qdi (qah op_eq (qan ix_list (qan ix_list (pv 0) (pv 3) (λ_ _=>rfl)) qaf (λ_ _=>rfl)) qag (qao _)) (qcg (qah op_eq (qan ix_list (qan ix_list (pv 0) (pv 3) (λ_ _=>rfl)) qaf (λ_ _=>rfl)) qag (qao _))))) (qad (qbU (i:=4) (by rfl) scNotesL.nd (by rfl) (by trivial) (own:=["_law_j"]) (ix:=[3,0]) (frees:=["_law_k", "_law_nodes"]) (CompScope.frees (by rfl) (by ac_rfl) (by ac_rfl) (by ac_rfl) (by rfl) (by ac_rfl) (by first | exact qdZ (by rfl) | exact qeG (by rfl) (by rfl))) (qby (by rfl) T.range (qaa (qam call_len_seq (by rfl) T.len b_len (qaa (pv 0) pa_nil)) pa_nil)) (λcl C s2 H2 fp=>(qas (i:=0) (by show(["_law_j", "_law_k", "_law_nodes"]:List Str).Nodup;ac_rfl) (by rfl) (by trivial) (by trivial))) (λcl C s2 H2 fp=>(qbX (qah op_eq (qan (r:=rIxL K) ix_list (qan (r:=rIxL K) ix_list (pv 2) (pv 0) (λ_ _=>rfl)) qaf (λ_ _=>rfl)) (pv 1) (qao _)))) (λcl C s2 H2 fp=>(pv 0)))
   (qad (qaq (i:=5) scNotesL.nd (by rfl) (by trivial) (qay pa_nil))
   (qad (qaq (i:=6) scNotesL.nd (by rfl) (by trivial) qaf)
   (qad (qbT rR (by rfl) (qa1 (qaO op_cat (qan ix_list (qan ix_list (pv 0) (pv 3) (λ_ _=>rfl)) qaf (λ_ _=>rfl)) (qaO op_rep (qay (qa8 (qaK (qaa qag (qaa qaf (qaa qaf pa_nil)))) pa_nil)) (qam call_len_seq (by rfl) T.len b_len (qaa (pv 4) pa_nil))))) (qas (i:=7) scNotesL.nd (by rfl) (by trivial))
   (qae (qaH (qah op_ne (qan ix_tup (pv 7) qaf (λ_ _=>rfl)) qag (qao _)) (qae (qaC (qaV qH qJ qK mt_append (pv 5) (qaa (pv 7) pa_nil)))) (qae (qaH (PW.pt (qcb (qah op_lt (pv 6) (qam call_len_seq (by rfl) T.len b_len (qaa (pv 4) pa_nil)) (qao _)) (qbD (qah op_lt (qam call_len_seq (by rfl) T.len b_len (qaa (pv 5) pa_nil)) qaf (qao _))))) (qad (qaC (qaV qH qJ qK mt_append (pv 5) (qa8 (qaK (qaa qag (qaa (pv 6) (qaa qaf pa_nil)))) pa_nil)))
   (qae (qaq (i:=6) scNotesL.nd (by rfl) (by trivial) (qaO op_add (pv 6) qaf)))) pss_nil)))))
   (qad (qaH (PW.pt (qdi (qah op_ne (qam call_len_seq (by rfl) T.len b_len (qaa (pv 5) pa_nil)) (qam call_len_seq (by rfl) T.len b_len (qaa (qan ix_list (qan ix_list (pv 0) (pv 3) (λ_ _=>rfl)) qaf (λ_ _=>rfl)) pa_nil)) (qao _)) (qcg (qah op_lt (pv 6) (qam call_len_seq (by rfl) T.len b_len (qaa (pv 4) pa_nil)) (qao _))))) (qae (qaC (qaV qH qJ qK mt_append (pv 1) (qa8 (qaK (qaa (qcy un_neg qaf) (qaa qag pa_nil))) pa_nil)))) pss_nil)
   (qad (qer (pv 5) (qf3 (qan ix_list (pv 0) (pv 3) (λ_ _=>rfl)) qaf set_list))
   (qae (qaq (i:=2) scNotesL.nd (by rfl) (by trivial) (qaO op_cat (pv 2) (qbd sl_list (pv 4) (qbc (pv 6)) po_none)))))))))) pss_nil)))
   (qae (qap (pv 2))))),?_⟩
  have ll:=L.len;have le:ns.length<=60:=by rw[<-qbt];exact ok.le
  have rm:∀b:Addr,(b≠m/\b∉as)->b≠m:=λb h=>h.1
  refine⟨by show 0<=sizeLine;decide,λg0 hg0=>?_⟩;have s0:=qab hg0 (.lst []);have L0:=L.same s0;dsimp only[qbu];refine qau (λσ' H'=>∃(g:Addr) (v3 v4 v5 v6 v7:Option V),σ'=[some (.ref p),some (.ref m),some (.ref g),v3,v4,v5,v6,v7]/\LS H' p m as (stp (noted (fs ns)) ns ns.length) (ms++qa0 (-1) (qbv (fs ns) ns.length))/\H g=none/\H' g=some (.lst ((qba (fs ns)).map V.int))/\KeepN (λb=>b≠m/\b∉as) H H') (λN0 go=>?_) ?_
  rotate_left
  ·rintro _ H1 ⟨g,v3,v4,v5,v6,v7,rfl,L1,hg,eg,K1⟩;exact⟨_,rfl,q g H1 L1 hg eg K1⟩
  refine⟨_,rfl,p,_,rfl,.inl (SqL.of L0.hp),_,rfl,by rw[qA];omega,by rw[qA];omega,qcJ (λi σ' H'=>∃(g:Addr) (v3 v4 v5 v6 v7:Option V),σ'=[some (.ref p),some (.ref m),some (.ref g),v3,v4,v5,v6,v7]/\LS H' p m as (stp (noted (fs ns)) ns i) (ms++qa0 (-1) (qbv (fs ns) i))/\H g=none/\H' g=some (.lst ((atTo (fs ns) (λi d=>qbm (fs ns) i d) i).map V.int))/\KeepN (λb=>b≠m/\b∉as) H H') ⟨g0,none,none,none,none,none,rfl,by rw[show qbv (fs ns) 0=[]from rfl,qcz];exact L0,hg0,qac,s0.keep⟩ ?_ ?_⟩
  rotate_left
  ·rintro σ' H1 ⟨g,v3,v4,v5,v6,v7,rfl,L1,hg,eg,K1⟩;rw[show(((as.map V.ref).length:Nat):Int).toNat=ns.length by rw[qA];omega]at L1 eg;refine go _ _ ⟨g,v3,v4,v5,v6,v7,rfl,L1,hg,?_,K1⟩;unfold qba;rw[qbt];exact eg
  rintro i σ' H1 hi ⟨g,v3,v4,v5,v6,v7,rfl,L1,hg,eg,K1⟩;have hi:i<ns.length:=by
   have:i<(((as.map V.ref).length:Nat):Int).toNat:=hi;rw[qA]at this;omega
  rw[show(0:Int)+(i:Nat)=((i:Nat):Int) by omega];have ex:ns[i]?=some ns[i]:=qG hi;generalize ns[i]=x at ex;have exs:=qhp (f:=noted (fs ns)) ex;have exd:=qb9 ex;obtain⟨a,ea,mk,sf,ha,nmk,hmk,hst⟩:=L1.get exs;have lc:(ms++qa0 (-1) (qbv (fs ns) i)).length<=1000:=by
   rw[qD];unfold qa0;rw[qA];have:=qdG (fs ns) i;omega
  obtain⟨frm,kin⟩:=ok.form x.1 (qP exd);refine qe9 (λb H'=>b=mayHold x.1.k .note/\H'=H1) (λQ2 go2=>?_) ?_
  ·refine⟨_,rfl,_,rfl,p,_,_,_,rfl,rfl,SqL.of L1.hp,qa6 ea,a,_,_,_,rfl,rfl,SqL.of ha,rfl,rfl,_,rfl,?_⟩;rw[note_kd]at go2;rw[show decide (V.str x.1.k.s=V.str (Str.ofString "text"))=decide (x.1.k=.text)from kdt x.1.k .text]
   by_cases h1:x.1.k=.text
   ·rw[qC h1];exact iteT (go2 _ _ ⟨by rw[qC h1];rfl,rfl⟩)
   rw[qB h1];refine iteF ⟨_,rfl,_,rfl,p,_,_,_,rfl,rfl,SqL.of L1.hp,qa6 ea,a,_,_,_,rfl,rfl,SqL.of ha,rfl,rfl,_,rfl,go2 _ _ ⟨?_,rfl⟩⟩;rw[qB h1,uT];exact kdt x.1.k .head
  rintro b Hx ⟨rfl,eHx⟩;rw[eHx];cases eh:mayHold x.1.k .note with
  | false =>
    obtain⟨e1,e2,e3⟩:=noted_no (ds:=fs ns) (i:=i) eh
    refine iteF ⟨g,_,_,_,_,_,rfl,?_,hg,?_,K1⟩
    · rw[qhg ex e1,qdh exd,e3,if_neg qF,qX]
      exact L1
    · rw[qa3 exd,e2,qX]
      exact eg
  | true =>
    obtain⟨e1,e2⟩:=noted_yes (ds:=fs ns) (i:=i) eh
    have ho:ofPieces x.1.k=true:=by
      rcases qc6 eh with z | z<;>rw[z]<;>rfl
    obtain⟨pc,l60⟩:=qgg frm ho
    have og:=L.out hg
    refine iteT ?_
    refine qau (λσ' H'=>∃(D:Addr) (v5 v6 v7:Option V),σ'=[some (.ref p),some (.ref m),some (.ref g),some (.int i),some (.ref D),v5,v6,v7]/\Same H1 H'/\H1 D=none/\H' D=some (.lst ((kids (fs ns) i).map V.int))) (λN2 go2=>?_) ?_
    · refine⟨_,rfl,p,_,rfl,.inl (SqL.of L1.hp),_,rfl,by rw[qA];omega,by rw[qA];omega,qb3 (λj ys σ' H'=>H'=H1/\ys=(qaX (fs ns) i j).map V.int/\∃z,σ'=[z,some (.int i),some (.ref p)]) (by rw[qA];exact qaz (by omega)) ⟨rfl,rfl,none,rfl⟩ ?_ ?_ ?_⟩
      · rintro j ys σ' H' hj ⟨rfl,rfl,_⟩
        rw[qA]
        exact qb6 _ _ _
      · rintro j ys σ' H' hj ⟨rfl,rfl,z,rfl⟩
        have hj:j<ns.length:=by
          have:j<(((as.map V.ref).length:Nat):Int).toNat:=hj
          rw[qA]at this
          omega
        rw[show(0:Int)+(j:Nat)=((j:Nat):Int) by omega]
        have ec:(stp (noted (fs ns)) ns i)[j]?=some ((stp (noted (fs ns)) ns i)[j]'(by rw[qch];exact hj)):=qG _
        generalize (stp (noted (fs ns)) ns i)[j]'(by rw[qch];exact hj)=c at ec
        obtain⟨b,eb,mc,sc,hb,_⟩:=L1.get ec
        have ej:((fs ns)[j]?).map Nd.e=some c.1.e:=by
          rw[<-qiz (noted_el (fs ns)) ns i j,qb9 ec]
          rfl
        obtain⟨dj,edj,edje⟩:∃dj,(fs ns)[j]?=some dj/\dj.e=c.1.e:=by
          cases e:(fs ns)[j]? with
          | none=>rw[e]at ej;cases ej
          | some dj=>rw[e]at ej;exact⟨dj,rfl,rD ej⟩
        refine⟨_,rfl,_,rfl,p,_,_,_,rfl,rfl,SqL.of L1.hp,qa6 eb,b,_,_,_,rfl,rfl,SqL.of hb,rfl,_,rfl,rfl,_,rfl,?_⟩
        by_cases he:c.1.e=(i:Int)
        · rw[qC (by rw[he]:V.int c.1.e=V.int (i:Nat))]
          refine iteT ⟨_,rfl,rfl,?_,_,rfl⟩
          rw[qcW edj (edje.trans he),qT]
          rfl
        · rw[qB (λz=>he (V.int.inj z):¬V.int c.1.e=V.int (i:Nat))]
          refine iteF ⟨rfl,?_,_,rfl⟩
          rw[qdx edj (λz=>he (edje.symm.trans z))]
      · rintro ys σ' H' ⟨rfl,rfl,_⟩ D hD
        refine go2 _ _ ⟨D,_,_,_,rfl,qab hD _,hD,?_⟩
        rw[qac,show(((as.map V.ref).length:Nat):Int).toNat=(fs ns).length by rw[qA,qbt];omega]
        rfl
    rintro _ H2 ⟨D,w5,w6,w7,rfl,s2,hD,eD⟩
    have lk:(kids (fs ns) i).length<=60:=qS (qc7 _ _) ok.le
    generalize hkids:kids (fs ns) i=kk at eD lk e1 e2
    refine⟨by show 0<=sizeLine;decide,λfl hfl=>?_⟩
    have s3:=s2.trans (qab hfl (.lst []))
    have efl3:upd H2 fl (.lst []) fl=some (.lst []):=qac
    have eD3:=qab hfl (.lst []) _ _ eD
    have hfl1:H1 fl=none:=s2.none hfl
    have nDfl:D≠fl:=qar eD hfl
    have L3:=L1.same s3
    generalize upd H2 fl (.lst [])=H3 at s3 efl3 eD3 L3
    have ofl:=L1.out hfl1
    have oD:=L1.out hD
    have ha3:=s3 _ _ ha
    have hst3:=hst.keep s3.keep λ_ n _=>n
    obtain⟨nsf,vs,hsf,its⟩:=id hst3
    have lvs:vs.length=x.1.st.length:=its.length
    have eg3:=s3 _ _ eg
    have efk:=fnd_all (m:=kk.length) l60
    generalize hl0:x.1.st++List.replicate kk.length (qbZ 0)=l at efk
    have lpc:∀y∈l,PcOk y:=λy hy=>by
      rw[<-hl0]at hy
      rcases qY.mp hy with hy | hy
      · exact pc y hy
      · rw[yI hy]
        exact⟨by omega,by omega,rfl⟩
    have ll0:l.length<=120:=by rw[<-hl0,qD,xM];omega
    dsimp only[qbu]
    refine qau (λσ' H'=>σ'=[some (.ref p),some (.ref m),some (.ref g),some (.int i),some (.ref D),some (.ref fl),some (.int (0:Nat)),w7]/\H'=H3) (λN3 go3=>go3 _ _ ⟨rfl,rfl⟩) ?_
    rintro _ Hx ⟨rfl,eHx⟩
    rw[eHx]
    refine qau (λσ' H'=>∃(v7:Option V) (fvs:List V),σ'=[some (.ref p),some (.ref m),some (.ref g),some (.int i),some (.ref D),some (.ref fl),some (.int ((qaw (qaG kk.length x.1.st)).length:Nat)),v7]/\H' fl=some (.lst fvs)/\Paired (ItAt (Ou p m as) H') fvs (qaG kk.length x.1.st)/\Same H1 H'/\H' D=some (.lst (kk.map V.int))) (λN3 go3=>?_) ?_
    · refine⟨_,rfl,_,rfl,p,_,_,_,rfl,rfl,SqL.of L3.hp,qa6 ea,a,_,_,_,rfl,rfl,SqL.of ha3,rfl,by show 3<=sizeLine;decide,λtn htn=>⟨by show 1<=sizeLine;decide,λtl htl=>?_⟩⟩
      have k1:=qab htn (.tup [.str (Str.ofString "note"),.int 0,.int 0])
      have k2:=k1.trans (qab htl (.lst [.ref tn]))
      refine⟨_,rfl,D,_,rfl,.inl (SqL.of (k2 _ _ eD3)),tl,((kk.map V.int).length:Nat),[.ref tn],rfl,rfl,qac,by omega,by rw[qA];omega,by rw[qA];show 1*kk.length<=sizeLine;exact qS (show 1*kk.length<=1000 by omega) (by decide),λrp hrp=>?_⟩
      rw[qA,rP,qgu]
      have k3:=k2.trans (qab hrp (.lst (List.replicate kk.length (.ref tn))))
      refine⟨sf,rp,_,_,rfl,rfl,k3 _ _ hsf,qac,qS (show vs.length+(List.replicate kk.length (V.ref tn)).length<=1000 by rw[xM];omega) (by decide),λcl hcl=>?_⟩
      have k4:=k3.trans (qab hcl (.lst (vs++List.replicate kk.length (.ref tn))))
      have ecl:upd (upd (upd (upd H3 tn (.tup [.str (Str.ofString "note"),.int 0,.int 0])) tl (.lst [.ref tn])) rp (.lst (List.replicate kk.length (.ref tn)))) cl (.lst (vs++List.replicate kk.length (.ref tn))) cl=some (.lst (vs++List.replicate kk.length (.ref tn))):=qac
      have etn:upd (upd (upd (upd H3 tn (.tup [.str (Str.ofString "note"),.int 0,.int 0])) tl (.lst [.ref tn])) rp (.lst (List.replicate kk.length (.ref tn)))) cl (.lst (vs++List.replicate kk.length (.ref tn))) tn=some (.tup [.str (Str.ofString "note"),.int 0,.int 0]):=((qab htl (.lst [.ref tn])).trans (qab hrp _)).trans (qab hcl _) _ _ qac
      have ncl:cl≠fl:=λz=>by have:=k3 _ _ efl3;rw[z,this]at hcl;cases hcl
      generalize upd (upd (upd (upd H3 tn (.tup [.str (Str.ofString "note"),.int 0,.int 0])) tl (.lst [.ref tn])) rp (.lst (List.replicate kk.length (.ref tn)))) cl (.lst (vs++List.replicate kk.length (.ref tn)))=H4 at k4 ecl etn
      have otn:=L3.out htn
      have its4:Paired (ItAt (Ou p m as) H4) (vs++List.replicate kk.length (.ref tn)) l:=by
        rw[<-hl0]
        exact qaJ (its.mono λv y q=>q.keep k4.keep λ_ n _=>n) (qe0 ⟨tn,rfl,otn,etn⟩ _)
      have s14:∀{H':Hp},KeepN (λb=>b≠fl) H4 H'->Same H1 H':=λkp b o e=>kp b o (qar e hfl1) (k4 _ _ (s3 _ _ e))
      have efl4:=k4 _ _ efl3
      have eD4:=k4 _ _ eD3
      refine⟨cl,rfl,⟨_,SqL.of ecl⟩,qdy (xs:=vs++List.replicate kk.length (.ref tn)) (λj σ' H'=>∃(v7:Option V) (fvs:List V),σ'=[some (.ref p),some (.ref m),some (.ref g),some (.int i),some (.ref D),some (.ref fl),some (.int ((qbY kk.length l j).2:Nat)),v7]/\H' fl=some (.lst fvs)/\Paired (ItAt (Ou p m as) H') fvs (qbY kk.length l j).1/\KeepN (λb=>b≠fl) H4 H') ⟨w7,[],rfl,efl4,.nil,KeepN.refl⟩ ?_ ?_ ?_⟩
      · rintro j σ' H' hj ⟨v7,fvs,rfl,hf,pf,kp⟩
        exact SqL.of (kp _ _ ncl ecl)
      · rintro j y σ' H' hy ⟨v7,fvs,rfl,hf,pf,kp⟩
        obtain⟨th,et,it⟩:=qaR its4 hy
        have hj:j<l.length:=(qI.mp et).1
        obtain⟨fl1,fl2⟩:=qhS kk.length l j
        have lf:fvs.length=(qbY kk.length l j).1.length:=pf.length
        obtain⟨so,yy,n,rfl,en⟩:=qeO (lpc th (qP et))
        obtain⟨ap,rfl,nap,hap⟩:=it
        have naf:ap≠fl:=λz=>by rw[z,efl4]at hap;cases hap
        have hap':=kp _ _ naf hap
        have eD':=kp _ _ nDfl eD4
        have est:=qd3 (m:=kk.length) et
        unfold qgi at est
        refine⟨_,rfl,ap,_,_,_,rfl,rfl,SqT.of hap',rfl,rfl,_,rfl,?_⟩
        rw[show decide (V.str so.s=V.str (Str.ofString "note"))=decide (so=.note)from sot so .note,<-en]
        have kpf:∀{t:Addr} {H6:Hp},Same H' H6->KeepN (Nw (Ou p m as) fl) H' (upd H6 fl (.lst (fvs++[.ref t]))):=λ{t H6} s6 b o n e=>by rw[qal n.2];exact s6 _ _ e
        have pf':∀{t:Addr} {H6:Hp},Same H' H6->Paired (ItAt (Ou p m as) (upd H6 fl (.lst (fvs++[.ref t])))) fvs (qbY kk.length l j).1:=λ{t H6} s6=>pf.mono λv z q=>by
          cases z with
          | int n=>exact q
          | tri s2 y2 t2 =>
            obtain⟨b,eb,nb,hb⟩:=q
            exact⟨b,eb,nb,by rw[qal (λz=>by rw[z,hf]at hb;cases hb)];exact s6 _ _ hb⟩
        cases ebn:isNote (.tri so yy n)with
        | false =>
          rw[ebn,if_neg qF]at est
          refine iteT ⟨_,rfl,.inl ⟨rfl,_,SqL.of hf⟩,_,rfl,fl,_,_,rfl,rfl,hf,qaZ (by omega),some (.ref ap),fvs++[.ref ap],by rw[est];rfl,qac,?_,λb o nb e=>by rw[qal nb];exact kp _ _ nb e⟩
          rw[est]
          exact qaJ (pf' (Same.refl _)) (.cons ⟨ap,rfl,nap,by rw[qal naf];exact hap'⟩ .nil)
        | true =>
          rw[ebn,if_pos rfl]at est
          refine iteF ⟨_,rfl,_,rfl,D,_,rfl,.inl (SqL.of eD'),_,_,rfl,rfl,_,rfl,?_⟩
          rw[qA]
          by_cases c1:(qbY kk.length l j).2<kk.length
          rotate_left
          · rw[qB (by omega:¬(((qbY kk.length l j).2:Nat):Int)<(kk.length:Nat))]
            rw[if_neg (λz=>c1 z.1)]at est
            exact iteF (iteF ⟨some (.ref ap),fvs,by rw[est];rfl,hf,by rw[est];exact pf,kp⟩)
          rw[qC (by omega:(((qbY kk.length l j).2:Nat):Int)<(kk.length:Nat))]
          refine iteT ⟨_,rfl,fl,_,rfl,.inl (SqL.of hf),_,_,rfl,rfl,_,rfl,?_⟩
          rw[lf]
          by_cases c2:(qbY kk.length l j).1.length<60
          rotate_left
          · rw[qB (by omega:¬(((qbY kk.length l j).1.length:Nat):Int)<60)]
            rw[if_neg (λz=>c2 z.2)]at est
            exact iteF ⟨some (.ref ap),fvs,by rw[est];rfl,hf,by rw[est];exact pf,kp⟩
          rw[qC (by omega:(((qbY kk.length l j).1.length:Nat):Int)<60)]
          rw[if_pos ⟨c1,c2⟩]at est
          refine iteT ⟨_,rfl,.inl ⟨rfl,_,SqL.of hf⟩,_,rfl,by show 3<=sizeLine;decide,λt5 ht5=>?_⟩
          have s5:=qab ht5 (.tup [.str (Str.ofString "note"),.int ((qbY kk.length l j).2:Nat),.int 0])
          have ot5:=(L1.same (s14 kp)).out ht5
          have n5:t5≠fl:=λz=>by rw[z,hf]at ht5;cases ht5
          refine⟨fl,_,_,rfl,rfl,s5 _ _ hf,qaZ (by omega),_,rfl,_,_,rfl,rfl,some (.ref ap),fvs++[.ref t5],by rw[est];rfl,qac,?_,λb o nb e=>by rw[qal nb];exact s5 _ _ (kp _ _ nb e)⟩
          rw[est]
          exact qaJ (pf' s5) (.cons ⟨t5,rfl,ot5,by rw[qal n5,qac];rfl⟩ .nil)
      · rintro σ' H' ⟨v7,fvs,rfl,hf,pf,kp⟩
        have ele:(vs++List.replicate kk.length (V.ref tn)).length=l.length:=its4.length
        rw[ele,efk]at pf
        exact go3 _ _ ⟨v7,fvs,by rw[ele,efk],hf,pf,s14 kp,kp _ _ nDfl eD4⟩
    rintro _ H5 ⟨v7,fvs,rfl,hf5,pf5,s5,eD5⟩
    have L5:=L1.same s5
    have ha5:=s5 _ _ ha
    obtain⟨_,vs5,hsf5,its5⟩:=hst.keep s5.keep λ_ n _=>n
    have lv5:vs5.length=x.1.st.length:=its5.length
    have lf5:fvs.length=(qaG kk.length x.1.st).length:=pf5.length
    have np60:=qfr (m:=kk.length) l60
    have lb:qbF (fs ns) i x.1=decide ((qaw x.1.st).length≠kk.length):=by
      unfold qbF
      rw[eh,hkids,xG]
    have lis:=lacks_is (m:=kk.length) pc l60
    generalize hdn:(qaw (qaG kk.length x.1.st)).length=dn at lis e2
    refine qau (λσ' H'=>σ'=[some (.ref p),some (.ref m),some (.ref g),some (.int i),some (.ref D),some (.ref fl),some (.int (dn:Nat)),v7]/\LS H' p m as (stp (noted (fs ns)) ns i) (ms++qa0 (-1) (qbv (fs ns) (i+1)))/\KeepN (λb=>b≠m) H5 H') (λN3 go3=>?_) ?_
    · refine qe9 (λb H'=>b=qbF (fs ns) i x.1/\H'=H5) (λQ2 go2=>?_) ?_
      · refine⟨_,rfl,fl,_,rfl,.inl (SqL.of hf5),_,rfl,_,rfl,p,_,_,_,rfl,rfl,SqL.of L5.hp,qa6 ea,a,_,_,_,rfl,rfl,SqL.of ha5,rfl,sf,_,rfl,.inl (SqL.of hsf5),rfl,_,rfl,?_⟩
        rw[lb]at go2
        rw[lf5,lv5]
        by_cases c1:(qaG kk.length x.1.st).length=x.1.st.length
        rotate_left
        · rw[qB (λz=>c1 (by have:=V.int.inj z;omega))]
          exact iteT (go2 _ _ ⟨by rw[qC (lis.mp (.inl c1))],rfl⟩)
        rw[qC (by rw[c1])]
        refine iteF ⟨_,rfl,_,rfl,D,_,rfl,.inl (SqL.of eD5),_,_,rfl,rfl,_,rfl,go2 _ _ ⟨?_,rfl⟩⟩
        rw[qA]
        by_cases c2:dn<kk.length
        · rw[qC (by omega:((dn:Nat):Int)<(kk.length:Nat)),qC (lis.mp (.inr c2))]
        · rw[qB (by omega:¬((dn:Nat):Int)<(kk.length:Nat)),qB (λz=>(lis.mpr z).elim (λy=>y c1) c2)]
      rintro b Hx ⟨rfl,eHx⟩
      rw[eHx]
      cases ew:qbF (fs ns) i x.1 with
      | false =>
        refine iteF (go3 _ _ ⟨rfl,?_,KeepN.refl⟩)
        rw[qdh exd,ew,if_neg qF,qX]
        exact L5
      | true =>
        obtain⟨mv,em,lm⟩:=L5.mv
        refine iteT ⟨_,rfl,.inl ⟨rfl,_,SqL.of em⟩,_,rfl,by show 2<=sizeLine;decide,λt0 ht0=>⟨m,_,_,rfl,rfl,qab ht0 _ _ _ em,qaZ (by rw[lm];exact lc),go3 _ _ ⟨rfl,?_,qcS KeepN.refl ht0 λb h=>h⟩⟩⟩
        rw[qdh exd,ew,if_pos rfl]
        exact L5.add em ht0
    rintro _ H6 ⟨rfl,L6,K6⟩
    have hm:=qP ea
    have nam:a≠m:=λz=>L1.ma (z ▸ hm)
    have ha6:=K6 _ _ nam ha5
    have hmk6:=K6 _ _ nmk.2.1 (s5 _ _ hmk)
    have nfa:fl∉as:=ofl.2.2
    have st6:StAt (Ou p m as) H6 fl (qaG kk.length x.1.st):=StAt.keep ⟨ofl,fvs,hf5,pf5⟩ (λb o n e=>K6 b o n.2.1 e) λ_ n _=>n
    have L7:=L6.set (x:=(noted (fs ns) i x.1,x.2)) (s:=fl) ea nmk (by rw[e1];exact hmk6) (by rw[e1];exact st6)
    rw[<-qfs ex]at L7
    have e7:(six x mk sf).set 4 (.ref fl)=six (noted (fs ns) i x.1,x.2) mk fl:=by
      rw[e1]
      rfl
    refine⟨_,rfl,_,rfl,_,rfl,p,_,_,_,rfl,rfl,SqL.of L6.hp,qa6 ea,a,six x mk sf,4,4,rfl,rfl,ha6,rfl,?_⟩
    dsimp only
    rw[e7]
    have nga:g≠a:=λz=>og.2.2 (z ▸ hm)
    have nDa:D≠a:=λz=>oD.2.2 (z ▸ hm)
    have eg7:upd H6 a (.lst (six (noted (fs ns) i x.1,x.2) mk fl)) g=some (.lst ((atTo (fs ns) (λi d=>qbm (fs ns) i d) i).map V.int)):=by rw[qal nga];exact K6 _ _ og.2.1 (s5 _ _ eg)
    have eD7:upd H6 a (.lst (six (noted (fs ns) i x.1,x.2) mk fl)) D=some (.lst (kk.map V.int)):=by rw[qal nDa];exact K6 _ _ oD.2.1 eD5
    have K7:KeepN (λb=>b≠m/\b∉as) H (upd H6 a (.lst (six (noted (fs ns) i x.1,x.2) mk fl))):=λb o n e=>by rw[qal (λz:b=a=>n.2 (z ▸ hm))];exact K6 _ _ n.1 (s5 _ _ (K1 b o n e))
    generalize upd H6 a (.lst (six (noted (fs ns) i x.1,x.2) mk fl))=H7 at L7 eg7 eD7 K7
    refine⟨_,rfl,_,rfl,_,rfl,_,rfl,D,_,rfl,SqL.of eD7,λct hct=>?_⟩
    rw[qc3]
    have s8:=qab hct (.lst ((kk.map V.int).drop dn))
    refine⟨g,ct,_,_,rfl,rfl,s8 _ _ eg7,qac,?_,λg2 hg2=>?_⟩
    · rw[qA,rV,qA]
      have:=qbC (ds:=fs ns) (f:=λi d=>qbm (fs ns) i d) (B:=60) (λi d=>by
        unfold qbm
        split
        · rw[rV];exact qS (Nat.sub_le ..) (qS (qc7 _ _) ok.le)
        · exact rS _) i
      exact qS (show _+(kk.length-dn)<=10000 by omega) (by decide)
    have s9:=s8.trans (qab hg2 (.lst ((atTo (fs ns) (λi d=>qbm (fs ns) i d) i).map V.int++(kk.map V.int).drop dn)))
    refine⟨g2,_,_,_,_,_,rfl,L7.same s9,?_,?_,K7.trans s9.keep⟩
    · have o2:=L7.out (s8.none hg2)
      cases e:H g2 with
      | none=>rfl
      | some o=>have:=s8 _ _ (K7 _ _ ⟨o2.2.1,o2.2.2⟩ e);rw[this]at hg2;cases hg2
    · rw[qac,qa3 exd,e2,qT,vX]
end
end K09
namespace L2
open PySem
theorem pg_tupLK{X:Cx}{es:List Expr}{k:Nat}{t:TGs}{n:Nat}{pos:Pos}(K:W.Frag)(hK:X.K=K)(hc:X.calm=true)(h:PGs X es t)(hn:(assignEach es X.env).length=n:=by rfl)(hst:(assignEach es X.env).findIdx? (·.1)=none:=by rfl):PG X (.Tuple es k pos) (Br.gTupL K n t):=by
 subst hK;exact Br.pg_tupL hc h hn hst
theorem op_notIn_seqK{X:Cx}(K:W.Frag)(hK:X.K=K):OpR X (compareOp .NotIn) (rIn K true):=by
 subst hK;exact op_notIn_seq
section
open PySem.Spec PyProof.Rows
variable{X:Cx}
structure QE(X:Cx)(e:Expr)(t:TE):Prop where
 h:PE X e t
structure QA(X:Cx)(es:List Expr)(t:TA):Prop where
 h:PA X es t
variable{es es':List Expr}{pos pos':Pos}{t:TA}{te:TE}
theorem qh5{i:Int}{j}:QE X (.Constant (.int i) j pos) (tC (.int i)):=⟨qaf⟩
theorem qgU{x:Str}{j}:QE X (.Constant (.str x) j pos) (tC (.str x)):=⟨qag⟩
theorem qh7{x1}(h:QA X es t):QE X (.Tuple es x1 pos) (tTup t):=⟨qaK h.h⟩
theorem qh6(h:QA X es t):QE X (.List es pos) (tLst t):=⟨qay h.h⟩
theorem qa_nil:QA X [] tNil:=⟨pa_nil⟩
theorem qe5{c k}(ha:QE X (.Constant c k pos') te)(hr:QA X es t):QA X (.Constant c k pos'::es) (qfu te t):=⟨qaa ha.h hr.h (by rfl)⟩
theorem qio{x1}(ha:QE X (.Tuple es' x1 pos') te)(hr:QA X es t):QA X (.Tuple es' x1 pos'::es) (qfu te t):=⟨qaa ha.h hr.h (by rfl)⟩
theorem qip(ha:QE X (.List es' pos') te)(hr:QA X es t):QA X (.List es' pos'::es) (qfu te t):=⟨qaa ha.h hr.h (by rfl)⟩
theorem pe_bmQ{T name id:String}{r:V->List V->Hp->VK->Prop}{o:Expr}{x1:Nat}{to:TE}{apos cpos:Pos}(pa:PlainAttrs T)(slot:Slot T name id)(hty:typeOf (.builtin id)=pure (.type "method_descriptor"))(hm:MtR X id r)(ho:PE X o to)(ha:QA X [.Tuple es' x1 pos'] t)(hbase:attributeBase o name X.env (eval o X.env)=eval o X.env:=by rfl)(hline:(apos.endLine == cpos.line)=true:=by rfl):PE X (.Call (.Attribute o name apos) [.Tuple es' x1 pos'] [] cpos) (tBM X.K T r to t):=qaV pa slot hty hm ho ha.h hbase (by rfl) hline (by rfl) (by rfl)
end
end L2
namespace Gen
open PySem L2 Bk
def pick{α:Type}(l:List Nat)(xs:List α):List α:=l.filterMap λi=>xs[i]?
theorem qcN{α:Type}{i:Nat}{l:List Nat}{xs:List α}{x:α}(h:xs[i]?=some x):pick (i::l) xs=x::pick l xs:=by unfold pick;rw[yD,h]
theorem qeC{α β:Type}{F:α->β->Prop}{as:List α}{bs:List β}(p:Paired F as bs):∀l:List Nat,(∀i∈l,i<as.length)->Paired F (pick l as) (pick l bs)
 | [],_=>.nil
 | i :: l, h => by
   have hi:=h i qM
   have ea:as[i]?=some as[i]:=qG hi
   obtain⟨b,eb,q⟩:=qaR p ea
   rw[qcN ea,qcN eb]
   exact .cons q (qeC p l λj hj=>h j (qQ _ hj))
theorem qd5{α:Type}{xs:List α}:∀{l:List Nat},(∀i∈l,i<xs.length)->(pick l xs).length=l.length
 | [],_=>rfl
 | i :: l, h => by
   rw[qcN (qG (h i qM)),rC,rC,qd5 λj hj=>h j (qQ _ hj)]
theorem qgK{α:Type}{xs:List α}:∀{l:List Nat},(∀i∈l,i<xs.length)->∀{j n:Nat},l[j]?=some n->(pick l xs)[j]?=xs[n]?
 | [],_,j,n,e=>by cases e
 | i :: l, h, j, n, e => by
   have hi:=h i qM
   have hx:xs[i]?=some xs[i]:=qG hi
   rw[qcN hx]
   cases j with
   | zero =>
     have:i=n:=by simpa using e
     subst this
     rw[hx]
     rfl
   | succ j =>
     rw[List.getElem?_cons_succ]
     exact qgK (λk hk=>h k (qQ _ hk)) (by simpa using e)
theorem qdt{α:Type}{xs:List α}{l:List Nat}{x:α}(h:x∈pick l xs):x∈xs:=by
 obtain⟨i,_,e⟩:=yX.mp h;exact qP e
theorem qe3{α:Type}{xs:List α}(nd:xs.Nodup):∀{l:List Nat},l.Nodup->(∀i∈l,i<xs.length)->(pick l xs).Nodup
 | [],_,_=>vQ
 | i :: l, nl, h => by
   have hi:=h i qM
   have ea:xs[i]?=some xs[i]:=qG hi
   rw[qcN ea,xI]
   obtain⟨n1,n2⟩:=xI.mp nl
   refine⟨λz=>?_,qe3 nd n2 λj hj=>h j (qQ _ hj)⟩
   obtain⟨j,hj,e⟩:=yX.mp z
   obtain⟨lj,ej⟩:=qI.mp e
   have:j=i:=by
     rcases Nat.lt_trichotomy i j with c | c | c
     · exact absurd ej.symm (List.pairwise_iff_getElem.mp nd i j hi lj c)
     · exact c.symm
     · exact absurd ej (List.pairwise_iff_getElem.mp nd j i lj hi c)
   exact n1 (this ▸ hj)
theorem fs_pick(l:List Nat)(ns:List Ln):fs (pick l ns)=pick l (fs ns):=by
 unfold fs pick;rw[List.map_filterMap]
 congr 1
 funext i;rw[qR]
theorem atTo_map1{α:Type}(f:α->α)(ds:List α):atTo ds (λ_ d=>[f d]) ds.length=ds.map f:=by
 apply yM;intro j
 by_cases h:j<ds.length
 ·rw[qd6 (f:=λ_ d=>f d) (qN _) h,qR]
 ·rw[rY (by rw[qbP (f:=λ_ d=>f d) (qN _)];omega),rY (by rw[qA];omega)]
def reN(sp:List Int)(_:Nat)(d:Nd):Nd:={d with e:=qcj sp d.e}
theorem kept_is(ds:List Nd)(ns:List Ln)(h:fs ns=qcE ds):fs (stp (reN (qba ds)) (pick (qcs (qba ds) ns.length) ns) (pick (qcs (qba ds) ns.length) ns).length)=qat ds:=by
 have hl:ns.length=(qcE ds).length:=by rw[<-h,qbt]
 rw[qgc,show(λi d=>[reN (qba ds) i d])=(λ(_:Nat) d=>[(λd:Nd=>{d with e:=qcj (qba ds) d.e}) d])from rfl,atTo_map1,fs_pick,h];unfold qat;rw[qfE _ _ _ (qN _),<-hl];unfold pick;rw[List.map_filterMap]
theorem qf1{sp:List Int}{n:Nat}(h0:((0:Nat):Int)∉sp)(hn:0<n):(qcs sp n)[0]?=some 0:=qfj (j:=0) h0 hn
theorem qfJ{ds:List Nd}(ok:NodesOk ds):((0:Nat):Int)∉qba ds:=λh=>by
 obtain⟨j,d,e,ed,k⟩:=qc4 ok h;have:j=0:=by omega
 subst this;rcases ok.hung 0 d ed with⟨_,_,z⟩ | ⟨z,_⟩
 ·rw[z]at k;cases k
 ·exact absurd z (by decide)
theorem left_elder{ds:List Nd}(ok:NodesOk ds){j n:Nat}{d:Nd}(hl:(qcs (qba ds) ds.length)[j+1]?=some n)(e:(qcE ds)[n]?=some d):∃k:Nat,d.e=(k:Int)/\(k:Int)∉qba ds/\k<ds.length/\qcj (qba ds) d.e=(qbx (qba ds) k:Nat):=by
 have hm:=qgx (qP hl);have n0:n≠0:=λz=>by
  have h0:=qf1 (qfJ ok) (show 0<ds.length by omega);obtain⟨l1,e1⟩:=qI.mp h0;obtain⟨l2,e2⟩:=qI.mp hl;exact List.pairwise_iff_getElem.mp (qdP _ _) 0 (j+1) l1 l2 (by omega) (by rw[e1,e2,z])
 rcases qfF ok n d e hm.2 with z | ⟨k,ek,lk,nk⟩
 ·rw[qcQ hm.1]at e;cases e2:ds[n]? with
  | none=>rw[e2]at e;cases e
  | some c =>
    rw[e2]at e
    cases e
    rw[(qdf ds n c).1]at z
    rcases ok.hung n c e2 with⟨y,_⟩ | ⟨_,k,c',e3,_⟩
    · exact absurd y n0
    · rw[e3]at z;omega
 ·refine⟨k,ek,nk,by omega,?_⟩;unfold qcj;rw[ek,if_neg (by omega),rP]
theorem qgl(ds:List Nd):qdU ds=if kids (qaP (qat (begun ds))) 0=[]then qaP (qat (begun ds))++[bareText]else qaP (qat (begun ds)):=rfl
theorem kinds_is(ns:List Ln):fs (stp (mkK (fs ns)) ns ns.length)=qaP (fs ns):=qgc _ _
theorem notes_is(ns:List Ln):fs (stp (noted (fs ns)) ns ns.length)=qcE (fs ns):=qgc _ _
theorem words_is(ds:List Nd):qbA ds=wd (ds=[]) (T "body")++qbv (begun ds) (begun ds).length++qbQ (qat (begun ds)) (qat (begun ds)).length++wd (kids (qaP (qat (begun ds))) 0=[]) (T "bare"):=rfl
theorem qfD(i:Int)(a b:List Str):qa0 i (a++b)=qa0 i a++qa0 i b:=qT
theorem LS.pick{H:Hp}{p m q:Addr}{as:List Addr}{ns:List Ln}{ms:List (Int×Str)}(h:LS H p m as ns ms){l:List Nat}(nl:l.Nodup)(hl:∀i∈l,i<as.length)(hq:H q=none):LS (upd H q (.lst ((Gen.pick l as).map V.ref))) q m (Gen.pick l as) (Gen.pick l ns) ms:=by
 have oq:=h.out hq;have s:=qab hq (.lst ((Gen.pick l as).map V.ref));have sub:∀b,Ou p m as b->(H b).isSome=true->Ou q m (Gen.pick l as) b:=λb n e=>⟨(λz=>by rw[z,hq]at e;cases e),n.2.1,λz=>n.2.2 (qdt z)⟩
 obtain⟨vs,em,pr⟩:=h.md;refine⟨qac,qe3 h.nd nl hl,qeC (h.ls.mono λa x y=>?_) l hl,⟨vs,s _ _ em,pr.mono λv z y=>MdAt.keep y s.keep sub⟩,oq.2.1,λz=>oq.2.2 (qdt z),λz=>h.ma (qdt z)⟩;obtain⟨mk,sf,e,nm,e2,st⟩:=y;exact⟨mk,sf,s _ _ e,sub mk nm (by rw[e2];rfl),s _ _ e2,st.keep s.keep sub⟩
end Gen
namespace K09
open PySem L2 Bk Gen
abbrev sDue:Stmt:=top 91
section
variable{P:Program}{w:World}{K:W.Frag}{mg:Str->Option Value}{base:Heap}
theorem bodyL_push{H:Hp}{p m ma sa a:Addr}{ms:List (Int×Str)}(L:LS H p m [] [] ms)(hma:H ma=none)(hsa:upd H ma (.lst []) sa=none)(haa:upd (upd H ma (.lst [])) sa (.lst []) a=none):LS (upd (upd (upd (upd H ma (.lst [])) sa (.lst [])) a (.lst (six (bodyNd,0) ma sa))) p (.lst [.ref a])) p m [a] [(bodyNd,0)] ms/\H a=none:=by
 have s4:=qab hma (.lst []);have s5:=s4.trans (qab hsa (.lst []));have L5:=L.same s5;have hma5:upd (upd H ma (.lst [])) sa (.lst []) ma=some (.lst []):=qab hsa _ _ _ qac;exact⟨L5.node (x:=(bodyNd,0)) haa (L.out hma) hma5 ⟨L.out (s4.none hsa),[],qac,.nil⟩,s5.none haa⟩
theorem scDue:FnScope ["_law_rows", "_law_nodes", "_law_mends", "_law_k", "_law_gone", "_law_left", "_law_kept_here", "_law_node", "_law_book"] ["_law_rows"] (qai sDue):=⟨rfl,rfl,rfl,by ac_rfl,rfl,by ac_rfl,by ac_rfl⟩
theorem ok_due{f:Addr}{fd:FuncData}(F:Fun K "_law_due" "_law_due" sDue f fd)(T:Bn mg)(F_row:Fx P w K mg base CX0 3 "_law_row" ["_law_nodes", "_law_told", "_law_mends", "_law_row_here"] spRowL)(F_notes:Fx P w K mg base CX0 1 "_law_notes" ["_law_nodes", "_law_mends"] spNotesL)(F_cases:Fx P w K mg base CX0 2 "_law_cases" ["_law_nodes", "_law_mends"] spCasesL):FnOk P w K mg base CX0 4 f fd ["_law_rows"] spDue:=by
 refine F.ok scDue (λvs H Q E h=>?_) (λcdv A outer s H vs Q E hr h=>?_)
 ·obtain⟨r,tds,N,rfl,_⟩:=h;rfl
 ·obtain⟨r,tds,N,rfl,⟨rs,hrs,rnd⟩,tdo,l100,q⟩:=h;have hr_row:=hr;have hr_notes:Room 1 _:=hr.mono (by decide);have hr_cases:Room 2 _:=hr.mono (by decide);have hu:=hr.units;have lrs:rs.length=tds.length:=rnd.length;refine⟨_,(qad (qaq (i:=1) scDue.nd (by rfl) (by trivial) (qay pa_nil))
   (qad (qaq (i:=2) scDue.nd (by rfl) (by trivial) (qay pa_nil))
   (qad (qbT rR (by rfl) (qby (by rfl) T.range (qaa (qam call_len_seq (by rfl) T.len b_len (qaa (pv 0) pa_nil)) pa_nil)) (qas (i:=3) scDue.nd (by rfl) (by trivial))
   (qae (qaC (qaB F_row hr_row (by rfl) qaA (qaa (pv 1) (qaa (qan ix_list (pv 0) (pv 3) (λ_ _=>rfl)) (qaa (pv 2) (qaa (pv 3) pa_nil))))))))
   (qad (qaH (qah (qfR hu) (pv 1) (qay pa_nil) (qao _)) (qad (qaC (qaV qH qJ qK mt_append (pv 1) (qaa (qay (qaa (qcy un_neg qaf) (qaa qag (qaa qag (qaa (qay pa_nil) (qaa (qay pa_nil) (qaa qaf pa_nil))))))) pa_nil)))
   (qae (qaC (qaV qH qJ qK mt_append (pv 2) (qa8 (qaK (qaa (qcy un_neg qaf) (qaa qag pa_nil))) pa_nil))))) pss_nil)
   (qad (qaq (i:=4) scDue.nd (by rfl) (by trivial) (qaB F_notes hr_notes (by rfl) qaA (qaa (pv 1) (qaa (pv 2) pa_nil))))
   (qad (qbU (i:=5) (by rfl) scDue.nd (by rfl) (by trivial) (own:=["_law_k"]) (ix:=[4]) (frees:=["_law_gone"]) (CompScope.frees (by rfl) (by ac_rfl) (by ac_rfl) (by ac_rfl) (by rfl) (by ac_rfl) (by first | exact qdZ (by rfl) | exact qeG (by rfl) (by rfl))) (qby (by rfl) T.range (qaa (qam call_len_seq (by rfl) T.len b_len (qaa (pv 1) pa_nil)) pa_nil)) (λcl C s2 H2 fp=>(qas (i:=0) (by show(["_law_k", "_law_gone"]:List Str).Nodup;ac_rfl) (by rfl) (by trivial) (by trivial))) (λcl C s2 H2 fp=>(qbX (qah (op_notIn_seqK K (by rfl)) (pv 0) (pv 1) (by with_unfolding_all rfl)))) (λcl C s2 H2 fp=>(pv 0)))
   (qad (qbU (i:=6) (by rfl) scDue.nd (by rfl) (by trivial) (own:=["_law_k"]) (ix:=[1]) (frees:=["_law_nodes"]) (CompScope.frees (by rfl) (by ac_rfl) (by ac_rfl) (by ac_rfl) (by rfl) (by ac_rfl) (by first | exact qdZ (by rfl) | exact qeG (by rfl) (by rfl))) (qa1 (pv 5)) (λcl C s2 H2 fp=>(qas (i:=0) (by show(["_law_k", "_law_nodes"]:List Str).Nodup;ac_rfl) (by rfl) (by trivial) (by trivial))) (λcl C s2 H2 fp=>qbs) (λcl C s2 H2 fp=>(qan (r:=rIxL K) ix_list (pv 1) (pv 0) (λ_ _=>rfl))))
   (qad (qbT rR (by rfl) (qa1 (qbd sl_list (pv 6) (qbc qaf) po_none)) (qas (i:=7) scDue.nd (by rfl) (by trivial))
   (qae (qer (qaV qH PySem.F.slot_list_index PySem.F.type_list_index mt_indexO (pv 5) (qaa (qan ix_list (pv 7) qaf (λ_ _=>rfl)) pa_nil)) (qf3 (pv 7) qaf set_list))))
   (qad (qaC (qaB F_cases hr_cases (by rfl) qaA (qaa (pv 6) (qaa (pv 2) pa_nil))))
   (qad (qbU (i:=8) (by rfl) scDue.nd (by rfl) (by trivial) (own:=["_law_elder_here", "_law_kind", "_law_name", "_law_marks", "_law_stuff", "_law_level"]) (CompScope.plain (by rfl) (by ac_rfl) (by ac_rfl) (by ac_rfl)) (qa1 (pv 6)) (λcl C s2 H2 fp=>(pg_tupLK K (n:=6) (by rfl) (by rfl) (qaL (qas (i:=0) (by show(["_law_elder_here", "_law_kind", "_law_name", "_law_marks", "_law_stuff", "_law_level"]:List Str).Nodup;ac_rfl) (by rfl) (by trivial) (by trivial)) (qaL (qas (i:=1) (by show(["_law_elder_here", "_law_kind", "_law_name", "_law_marks", "_law_stuff", "_law_level"]:List Str).Nodup;ac_rfl) (by rfl) (by trivial) (by trivial)) (qaL (qas (i:=2) (by show(["_law_elder_here", "_law_kind", "_law_name", "_law_marks", "_law_stuff", "_law_level"]:List Str).Nodup;ac_rfl) (by rfl) (by trivial) (by trivial)) (qaL (qas (i:=3) (by show(["_law_elder_here", "_law_kind", "_law_name", "_law_marks", "_law_stuff", "_law_level"]:List Str).Nodup;ac_rfl) (by rfl) (by trivial) (by trivial)) (qaL (qas (i:=4) (by show(["_law_elder_here", "_law_kind", "_law_name", "_law_marks", "_law_stuff", "_law_level"]:List Str).Nodup;ac_rfl) (by rfl) (by trivial) (by trivial)) (qaL (qas (i:=5) (by show(["_law_elder_here", "_law_kind", "_law_name", "_law_marks", "_law_stuff", "_law_level"]:List Str).Nodup;ac_rfl) (by rfl) (by trivial) (by trivial)) pgs_nil)))))))) (λcl C s2 H2 fp=>qbs) (λcl C s2 H2 fp=>(qaK (qaa (pv 0) (qaa (pv 1) (qaa (pv 2) (qaa (pv 3) (qaa (pv 4) pa_nil))))))))
   (qad (qaH (qah (qfR hu) (qbr (own:=["_law_node"]) (by rfl) (CompScope.plain (by rfl) (by ac_rfl) (by ac_rfl) (by ac_rfl)) (qa1 (pv 8)) (λcl C s2 H2 fp=>(qas (i:=0) (by show(["_law_node"]:List Str).Nodup;ac_rfl) (by rfl) (by trivial) (by trivial))) (λcl C s2 H2 fp=>(qbX (qah op_eq (qan (r:=rIxT K) ix_tup (pv 0) qaf (λ_ _=>rfl)) qaf (qao _)))) (λcl C s2 H2 fp=>(pv 0))) (qay pa_nil) (qao _)) (qad (qaC (pe_bmQ qH qJ qK mt_append (pv 8) (qio (qh7 (qe5 qh5 (qe5 qgU (qe5 qgU (qip (qh6 qa_nil) (qip (qh6 (qio (qh7 (qe5 qgU (qe5 qgU (qe5 qh5 qa_nil)))) qa_nil)) qa_nil)))))) qa_nil)))
   (qae (qaC (qaV qH qJ qK mt_append (pv 2) (qa8 (qaK (qaa (qcy un_neg qaf) (qaa qag pa_nil))) pa_nil))))) pss_nil)
   (qae (qap (qaK (qaa (pv 8) (qaa (pv 2) pa_nil)))))))))))))))),?_⟩
  refine⟨by show 0<=sizeLine;decide,λp hp=>?_⟩;have s1:=qab hp (.lst []);refine⟨by show 0<=sizeLine;decide,λm hm=>?_⟩;have s2:=s1.trans (qab hm (.lst []));have pm:p≠m:=λz=>by rw[<-z,qac]at hm;cases hm
  have hm0:H m=none:=s1.none hm;have L2:LS (upd (upd H p (.lst [])) m (.lst [])) p m [] [] []:=⟨by rw[qal pm,qac];rfl,vQ,.nil,⟨[],qac,.nil⟩,pm,(by simp),(by simp)⟩;generalize upd (upd H p (.lst [])) m (.lst [])=H2 at s2 L2;have rok:∀x∈tds.map wrS,RowOk x:=λx hx=>by
   obtain⟨d,hd,rfl⟩:=rG.mp hx;exact qhi (tdo d hd)
  dsimp only[qbu];refine qau (λσ' H'=>∃(as:List Addr) (ns:List Ln) (v3:Option V),σ'=[some (.ref r),some (.ref p),some (.ref m),v3,none,none,none,none,none]/\LS H' p m as ns (rdTo (tds.map wrS) tds.length).2/\fs ns=(rdTo (tds.map wrS) tds.length).1/\LvOk ns/\(∀b∈as,H b=none)/\Same H H') (λN0 go=>?_) ?_
  ·refine⟨_,rfl,r,_,rfl,.inl (SqL.of (s2 _ _ hrs)),_,rfl,by rw[qA];omega,by rw[qA];omega,qcJ (λi σ' H'=>∃(as:List Addr) (ns:List Ln) (v3:Option V),σ'=[some (.ref r),some (.ref p),some (.ref m),v3,none,none,none,none,none]/\LS H' p m as ns (rdTo (tds.map wrS) i).2/\fs ns=(rdTo (tds.map wrS) i).1/\LvOk ns/\(∀b∈as,H b=none)/\Same H H') ⟨[],[],none,rfl,L2,rfl,lv_nil,(λb hb=>nomatch hb),s2⟩ ?_ ?_⟩
   ·rintro i σ' H3 hi ⟨as,ns,v3,rfl,L3,ef,lok,fr,s3⟩;have hi:i<tds.length:=by
     have:i<(((rs.map V.ref).length:Nat):Int).toNat:=hi;rw[qA]at this;omega
    rw[show(0:Int)+(i:Nat)=((i:Nat):Int) by omega];have ed:tds[i]?=some tds[i]:=qG hi;have td:=tdo tds[i] (yV hi);generalize tds[i]=d at ed td;obtain⟨t,et,nt⟩:=rnd.get ed;have ok:=qg4 rok i;have lm:=qcR (tds.map wrS) i;have nt3:NdAt (Ou p m as) H3 t d:=nt.keep s3.keep λb n e=>⟨(λz=>by rw[z,hp]at e;cases e),(λz=>by rw[z,hm0]at e;cases e),λz=>by rw[fr b z]at e;cases e⟩
    refine⟨_,rfl,_,rfl,_,rfl,r,_,_,_,rfl,rfl,SqL.of (s3 _ _ hrs),qa6 et,_,rfl,_,rfl,p,t,m,i,as,ns,_,d,rfl,L3,by rw[ef];exact ok,lok,by omega,nt3,td,λas' ns' H4 L4 e4 lok4 new4 k4=>?_⟩;have est:=qfv (rows:=tds.map wrS) (i:=i) (x:=wrS d) (by rw[qR,ed];rfl);rw[read_told td,<-ef]at est;refine⟨as',ns',_,rfl,?_,?_,lok4,λb hb=>?_,λb o e=>k4 _ _ ⟨(λz=>by rw[z,hp]at e;cases e),(λz=>by rw[z,hm0]at e;cases e)⟩ (s3 _ _ e)⟩
    ·rw[est];exact L4
    ·rw[est,e4]
    ·rcases new4 b hb with h | h
     ·exact fr b h
     ·exact s3.none h
   ·rintro σ' H3 ⟨as,ns,v3,rfl,L3,ef,lok,fr,s3⟩;rw[show(((rs.map V.ref).length:Nat):Int).toNat=tds.length by rw[qA];omega]at L3 ef;exact go _ _ ⟨as,ns,v3,rfl,L3,ef,lok,fr,s3⟩
  rintro _ H3 ⟨as,ns,v3,rfl,L3,ef,lok,fr,s3⟩;have lm3:=qcR (tds.map wrS) tds.length;have ok3:=qg4 rok tds.length;have rb:qcx (tds.map wrS)=(qdU (rdTo (tds.map wrS) tds.length).1,(rdTo (tds.map wrS) tds.length).2++qa0 (-1) (qbA (rdTo (tds.map wrS) tds.length).1)):=by
   unfold qcx;rw[qA];rfl
  rw[rb]at q;generalize (rdTo (tds.map wrS) tds.length).1=ds at *;generalize (rdTo (tds.map wrS) tds.length).2=ms at *;have ll3:=L3.len;have rm:∀b:Addr,b≠m->b≠m:=λb h=>h
  refine qau (λσ' H'=>∃(as:List Addr) (ns:List Ln),σ'=[some (.ref r),some (.ref p),some (.ref m),v3,none,none,none,none,none]/\LS H' p m as ns (ms++qa0 (-1) (wd (ds=[]) (Bk.T "body")))/\fs ns=begun ds/\(∀b∈as,H b=none)/\Same H H') (λN0 go=>?_) ?_
  ·refine⟨_,rfl,by show 0<=sizeLine;decide,λz hz=>⟨p,z,_,rfl,rfl,qab hz _ _ _ L3.hp,qac,_,rfl,?_⟩⟩;have L4:=L3.same (qab hz (.lst []));have s4:=s3.trans (qab hz (.lst []));generalize upd H3 z (.lst [])=H4 at L4 s4;rw[if_neg qF]
   by_cases hn:ds=[]
   ·have hns:ns=[]:=fs_nil.mp (by rw[ef,hn]);subst hns;have has:as=[]:=qO ll3;subst has;refine iteT ⟨_,rfl,.inl ⟨rfl,_,SqL.of L4.hp⟩,_,rfl,by show 0<=sizeLine;decide,λma hma=>⟨by show 0<=sizeLine;decide,λsa hsa=>⟨by show 6<=sizeLine;decide,λa haa=>?_⟩⟩⟩;obtain⟨L5,ha4⟩:=bodyL_push L4 hma hsa haa;have k4:=(qab hma (.lst [])).trans ((qab hsa (.lst [])).trans (qab haa (.lst (six (bodyNd,0) ma sa))));refine⟨p,_,_,rfl,rfl,k4 _ _ L4.hp,by decide,?_⟩;have s5:Same H (upd (upd (upd (upd H4 ma (.lst [])) sa (.lst [])) a (.lst (six (bodyNd,0) ma sa))) p (.lst [.ref a])):=λb o e=>by
     rw[qal (λz=>by rw[z,hp]at e;cases e)];exact k4 _ _ (s4 _ _ e)
    have L5':LS (upd (upd (upd (upd H4 ma (.lst [])) sa (.lst [])) a (.lst (six (bodyNd,0) ma sa))) p (.lst [.ref a])) p m [a] [(bodyNd,0)] (ms++qa0 (-1) []):=by rw[qcz];exact L5
    obtain⟨mv,em,lm⟩:=L5'.mv;refine⟨_,rfl,.inl ⟨rfl,_,SqL.of em⟩,_,rfl,by show 2<=sizeLine;decide,λt0 ht0=>⟨m,_,_,rfl,rfl,qab ht0 _ _ _ em,qaZ (by rw[lm,qD];show _+0<=1000;omega),go _ _ ⟨[a],[(bodyNd,0)],rfl,?_,?_,λb hb=>?_,?_⟩⟩⟩
    ·rw[qce hn];exact L5'.add em ht0
    ·unfold begun;rw[if_pos hn];rfl
    ·have:b=a:=by simpa using hb
     rw[this];exact s4.none ha4
    ·intro b o e;rw[qal (λz=>by rw[z,hm0]at e;cases e)];exact qab ht0 _ _ _ (s5 _ _ e)
   ·have hie:(as.map V.ref).isEmpty=false:=by
     cases as with
     | nil=>exact absurd (by rw[<-ef,qO ll3.symm];rfl) hn
     | cons=>rfl
    rw[hie];refine iteF (go _ _ ⟨as,ns,rfl,?_,?_,fr,s4⟩)
    ·rw[qcq hn,qcz];exact L4
    ·unfold begun;rw[if_neg hn,ef]
  rintro _ H4 ⟨as4,ns4,rfl,L4,ef4,fr4,s4⟩;obtain⟨okb,neb⟩:=qdk ok3;have lbg:=okb.le;have wdl:=qdF (ds=[]) (Bk.T "body");rw[qgl,words_is]at q;generalize wd (ds=[]) (Bk.T "body")=W0 at *;generalize begun ds=bs at *;subst ef4;have l4:ns4.length<=60:=by rw[<-qbt];exact lbg
  have lms4:(ms++qa0 (-1) W0).length<=701:=by
   rw[qD];unfold qa0;rw[qA];omega
  refine⟨_,rfl,_,rfl,p,m,as4,ns4,_,rfl,L4,okb,by omega,λg H5 L5 hg eg k5=>?_⟩;have s5:Same H H5:=λb o e=>k5 _ _ ⟨(λz=>by rw[z,hm0]at e;cases e),λz=>by rw[fr4 b z]at e;cases e⟩ (s4 _ _ e)
  have ef5:=notes_is ns4;have lst5:=qch (noted (fs ns4)) ns4 ns4.length;generalize stp (noted (fs ns4)) ns4 ns4.length=ns5 at L5 ef5 lst5;have ll5:=L5.len;have hsp:(qba (fs ns4)).length<=100000:=by
   unfold qba;have:=qbC (ds:=fs ns4) (f:=λi d=>qbm (fs ns4) i d) (B:=60) (λi d=>by
    unfold qbm
    split
    ·rw[rV];exact qS (Nat.sub_le ..) (qS (qc7 _ _) lbg)
    ·exact rS _) (fs ns4).length
   omega
  have b0:=qfJ okb;have lel:=λ(j n:Nat) (d:Nd)=>left_elder okb (j:=j) (n:=n) (d:=d)
  have kis:=kept_is (fs ns4) ns5 ef5;rw[qbt,<-lst5]at lel;generalize qba (fs ns4)=sp at *;dsimp only[qbu];refine qau (λσ' H'=>∃lf:Addr,σ'=[some (.ref r),some (.ref p),some (.ref m),v3,some (.ref g),some (.ref lf),none,none,none]/\Same H5 H'/\H5 lf=none/\H' lf=some (.lst (((qcs sp ns5.length).map λ(n:Nat)=>(n:Int)).map V.int))) (λN0 go=>?_) ?_
  ·refine⟨_,rfl,p,_,rfl,.inl (SqL.of L5.hp),_,rfl,by rw[qA];omega,by rw[qA];omega,qb3 (λj ys σ' H'=>H'=H5/\ys=((qcs sp j).map λ(n:Nat)=>(n:Int)).map V.int/\∃z,σ'=[z,some (.ref g)]) (by rw[qA];exact qaz (by omega)) ⟨rfl,rfl,none,rfl⟩ ?_ ?_ ?_⟩
   ·rintro j ys σ' H' hj ⟨rfl,rfl,_⟩;rw[qA,qA,qc0];exact qdv _ _
   ·rintro j ys σ' H' hj ⟨rfl,rfl,z,rfl⟩;rw[show(0:Int)+(j:Nat)=((j:Nat):Int) by omega];refine⟨_,rfl,_,rfl,g,_,rfl,.inl (SqL.of eg),rfl,qfK _,_,rfl,?_⟩;rw[if_pos rfl,qgQ,qdn]
    by_cases hs:(j:Int)∈sp
    ·rw[qC hs,if_pos hs,qX];exact iteF ⟨rfl,rfl,_,rfl⟩
    ·rw[qB hs,if_neg hs,qT,qT];exact iteT ⟨_,rfl,rfl,rfl,_,rfl⟩
   ·rintro ys σ' H' ⟨rfl,rfl,_⟩ D hD;refine go _ _ ⟨D,rfl,qab hD _,hD,?_⟩;rw[qac,show(((as4.map V.ref).length:Nat):Int).toNat=ns5.length by rw[qA];omega]
  rintro _ H6 ⟨lf,rfl,s56,hlf,elf⟩;have L6:=L5.same s56;have s6:=s5.trans s56;have olf:=L5.out hlf;have lm6:=λi (h:i∈qcs sp ns5.length)=>(qgx h).1
  have ll6:∀i∈qcs sp ns5.length,i<as4.length:=λi h=>by rw[ll5];exact lm6 i h
  have ln6:=qdP sp ns5.length;have lle:(qcs sp ns5.length).length<=60:=by rw[qc0];have:=qdv sp ns5.length;omega
  have n1:0<ns5.length:=by
   rw[lst5];cases ns4 with
   | nil=>exact absurd rfl neb
   | cons=>simp
  have lz:=qf1 (n:=ns5.length) b0 n1;have lat:=λ(j:Nat) (h:(j:Int)∉sp) (hn:j<ns5.length)=>qfj h hn
  have lfi:=λ(i j:Nat) (h:(j:Int)∉sp) (hn:j<ns5.length) (hi:i<qbx sp j)=>left_first h hn hi
  generalize qcs sp ns5.length=lt at *;refine qau (λσ' H'=>∃kp:Addr,σ'=[some (.ref r),some (.ref p),some (.ref m),v3,some (.ref g),some (.ref lf),some (.ref kp),none,none]/\LS H' kp m (pick lt as4) (pick lt ns5) (ms++qa0 (-1) W0++qa0 (-1) (qbv (fs ns4) ns4.length))/\Same H6 H'/\lf≠kp) (λN0 go=>?_) ?_
  ·refine⟨_,rfl,lf,rfl,⟨_,SqL.of elf⟩,qaM (xs:=(lt.map λ(n:Nat)=>(n:Int)).map V.int) (λj ys σ' H'=>H'=H6/\ys=(pick (lt.take j) as4).map V.ref/\∃z,σ'=[z,some (.ref p)]) (by rw[qA,qA];exact qaz (by omega)) ⟨rfl,rfl,none,rfl⟩ ?_ ?_ ?_⟩
   ·rintro j ys σ' H' hj ⟨rfl,rfl,_⟩;refine⟨SqL.of elf,?_⟩;rw[qA,qd5 λi hi=>ll6 i (uA hi),rK];exact yQ _ _
   ·rintro j y ys σ' H' hy ⟨rfl,rfl,z,rfl⟩;rw[xE,qR]at hy;cases en:lt[j]? with
    | none=>rw[en]at hy;cases hy
    | some n =>
      rw[en]at hy
      cases hy
      have hn:=ll6 n (qP en)
      have ea:as4[n]?=some as4[n]:=qG hn
      refine⟨_,rfl,_,rfl,p,_,_,_,rfl,rfl,SqL.of L6.hp,qa6 ea,rfl,?_,_,rfl⟩
      rw[rO,en]
      unfold pick
      rw[List.filterMap_append,qT]
      congr 1
      show _=([n].filterMap λi=>as4[i]?).map V.ref
      rw[yD,ea]
      rfl
   ·rintro ys σ' H' ⟨rfl,rfl,_⟩ D hD;rw[qA,qA,rM];exact go _ _ ⟨D,rfl,L6.pick ln6 ll6 hD,qab hD _,qar elf hD⟩
  rintro _ H7 ⟨kp,rfl,L7,s67,nlk⟩;have s7:=s6.trans s67;have elf7:=s67 _ _ elf;have ll7:=L7.len;have lp7:(pick lt ns5).length=lt.length:=qd5 lm6;have la7:(pick lt as4).length=lt.length:=qd5 ll6;have pg7:=λ{j n:Nat} (e:lt[j]?=some n)=>qgK (xs:=ns5) lm6 e
  have fr7:∀b∈pick lt as4,H b=none:=λb hb=>fr4 b (qdt hb)
  have nl7:lf∉pick lt as4:=λz=>olf.2.2 (qdt z)
  generalize hns7:pick lt ns5=ns7 at *;generalize pick lt as4=as7 at *;have h1:1<=lt.length:=by
   have:=(qI.mp lz).1;omega
  have first:stp (reN sp) ns7 1=ns7:=by
   have e0:ns7[0]?=some ns7[0]:=qG (by omega);refine qhg (i:=0) e0 ?_;have e5:=pg7 lz;rw[e0]at e5;have e6:=qb9 e5.symm;rw[ef5,qcQ (by rw[qbt];omega)]at e6;cases ed:(fs ns4)[0]? with
   | none=>rw[ed]at e6;cases e6
   | some c =>
     rw[ed]at e6
     have ec:=rD e6
     rcases okb.hung 0 c ed with⟨_,z,_⟩ | ⟨z,_⟩
     · have e7:ns7[0].1.e=-1:=by rw[<-ec,(qdf _ _ _).1];exact z
       unfold reN qcj
       rw[e7,if_pos rfl,<-e7]
     · exact absurd z (by decide)
  refine qau (λσ' H'=>∃v7:Option V,σ'=[some (.ref r),some (.ref p),some (.ref m),v3,some (.ref g),some (.ref lf),some (.ref kp),v7,none]/\LS H' kp m as7 (stp (reN sp) ns7 ns7.length) (ms++qa0 (-1) W0++qa0 (-1) (qbv (fs ns4) ns4.length))/\Same H H') (λN0 go=>?_) ?_
  ·refine⟨_,rfl,1,rfl,kp,_,rfl,SqL.of L7.hp,λct hct=>?_⟩;rw[show cutV (as7.map V.ref) (some 1) none=(as7.map V.ref).drop 1 from qc3 1];have sct:=qab hct (.lst ((as7.map V.ref).drop 1));have oct:=L7.out hct;refine⟨ct,rfl,⟨_,SqL.of qac⟩,qdy (xs:=(as7.map V.ref).drop 1) (λj σ' H'=>∃v7:Option V,σ'=[some (.ref r),some (.ref p),some (.ref m),v3,some (.ref g),some (.ref lf),some (.ref kp),v7,none]/\LS H' kp m as7 (stp (reN sp) ns7 (j+1)) (ms++qa0 (-1) W0++qa0 (-1) (qbv (fs ns4) ns4.length))/\Same H H'/\H' ct=some (.lst ((as7.map V.ref).drop 1))/\H' lf=some (.lst ((lt.map λ(n:Nat)=>(n:Int)).map V.int))) ⟨none,rfl,by rw[first];exact L7.same sct,s7.trans sct,qac,sct _ _ elf7⟩ ?_ ?_ ?_⟩
   ·rintro j σ' H' hj ⟨v7,rfl,L8,s8,ec8,el8⟩;exact SqL.of ec8
   ·rintro j y σ' H' hy ⟨v7,rfl,L8,s8,ec8,el8⟩;rw[List.getElem?_drop,qR,Nat.add_comm 1 j]at hy;cases ea:as7[j+1]? with
    | none=>rw[ea]at hy;cases hy
    | some a =>
      rw[ea]at hy
      cases hy
      have hj:j+1<lt.length:=by rw[<-la7];exact(qI.mp ea).1
      have en:lt[j+1]?=some lt[j+1]:=qG hj
      generalize lt[j+1]=n at en
      have ex:ns7[j+1]?=some ns7[j+1]:=qG (by omega)
      generalize ns7[j+1]=x at ex
      have ex5:=pg7 en
      rw[ex]at ex5
      have exn:=qb9 ex5.symm
      rw[ef5]at exn
      obtain⟨k,ek,nk,lk,enn⟩:=lel j n x.1 en exn
      obtain⟨a',ea',mk,sf,ha,nmk,hmk,hst⟩:=L8.get (qhp (f:=reN sp) ex)
      rw[ea]at ea'
      cases ea'
      have hm8:=qP ea
      have eov:(lt.map λ(n:Nat)=>(n:Int)).map V.int=(lt.map λ(n:Nat)=>some (n:Int)).map Br.ov:=by rw[xE,xE];rfl
      refine⟨_,rfl,.inl ⟨rfl,_,SqL.of el8⟩,_,rfl,a,_,_,_,rfl,rfl,SqL.of ha,rfl,lf,lt.map λ(n:Nat)=>some (n:Int),(k:Int),qbx sp k,rfl,by rw[<-ek],by rw[<-eov];exact el8,by rw[qA];omega,?_,?_,?_⟩
      · rw[qR,lat k nk lk]
        rfl
      · intro i hi z
        rw[qR]at z
        cases e:lt[i]? with
        | none=>rw[e]at z;cases z
        | some v =>
          rw[e]at z
          have:(v:Int)=(k:Int):=rD (rD z)
          have:v=k:=by omega
          exact lfi i k nk lk hi (by rw[e,this])
      refine⟨_,rfl,a,six x mk sf,0,0,rfl,rfl,ha,rfl,?_⟩
      have L9:=L8.set (x:=(reN sp (j+1) x.1,x.2)) (s:=sf) ea nmk hmk hst
      rw[<-qfs ex]at L9
      have e9:(six x mk sf).set 0 (.int ((qbx sp k:Nat):Int))=six (reN sp (j+1) x.1,x.2) mk sf:=by
        unfold reN
        rw[enn]
        rfl
      dsimp only
      rw[e9]
      refine⟨_,rfl,L9,λb o e=>?_,?_,?_⟩
      · rw[qal (λz:b=a=>by rw[z,fr7 a hm8]at e;cases e)]
        exact s8 _ _ e
      · rw[qal (λz:ct=a=>oct.2.2 (z ▸ hm8))]
        exact ec8
      · rw[qal (λz:lf=a=>nl7 (z ▸ hm8))]
        exact el8
   ·rintro σ' H' ⟨v7,rfl,L8,s8,_⟩;rw[show((as7.map V.ref).drop 1).length+1=ns7.length by rw[rV,qA];omega]at L8;exact go _ _ ⟨v7,rfl,L8,s8⟩
  rintro _ H8 ⟨v7,rfl,L8,s8⟩;have l8:=qch (reN sp) ns7 ns7.length;generalize stp (reN sp) ns7 ns7.length=ns8 at L8 kis l8;rw[<-kis]at q;refine⟨_,rfl,_,rfl,kp,m,as7,ns8,_,rfl,L8,by omega,?_,λH9 L9 k9=>?_⟩
  ·have la:(qa0 (-1) (qbv (fs ns4) ns4.length)).length=(qbv (fs ns4) ns4.length).length:=qA _;rw[qD,la];have:=qdG (fs ns4) ns4.length;omega
  have s9:Same H H9:=λb o e=>k9 _ _ ⟨(λz=>by rw[z,hm0]at e;cases e),λz=>by rw[fr7 b z]at e;cases e⟩ (s8 _ _ e)
  have kn9:=kinds_is ns8;have l9:=qch (mkK (fs ns8)) ns8 ns8.length;rw[<-kn9]at q;generalize stp (mkK (fs ns8)) ns8 ns8.length=ns9 at L9 kn9 l9 q;have ll9:=L9.len;have lW:(ms++qa0 (-1) W0++qa0 (-1) (qbv (fs ns4) ns4.length)++qa0 (-1) (qbQ (fs ns8) ns8.length)).length<=1000:=by
   have la:(qa0 (-1) (qbv (fs ns4) ns4.length)).length=(qbv (fs ns4) ns4.length).length:=qA _;have lb:(qa0 (-1) (qbQ (fs ns8) ns8.length)).length=(qbQ (fs ns8) ns8.length).length:=qA _;rw[qD,qD,la,lb];have:=qdG (fs ns4) ns4.length;have:=qeZ (fs ns8) ns8.length;omega
  have eM:ms++qa0 (-1) W0++qa0 (-1) (qbv (fs ns4) ns4.length)++qa0 (-1) (qbQ (fs ns8) ns8.length)=ms++qa0 (-1) (W0++qbv (fs ns4) ns4.length++qbQ (fs ns8) ns8.length):=by
   rw[qfD,qfD];simp only[List.append_assoc]
  rw[eM]at L9 lW;rw[qbt,qbt]at q;generalize W0++qbv (fs ns4) ns4.length++qbQ (fs ns8) ns8.length=WW at L9 q lW;have n60:ns9.length<=60:=by omega
  dsimp only;refine qau (λσ' H'=>∃(b:Addr) (ts:List Addr),σ'=[some (.ref r),some (.ref p),some (.ref m),v3,some (.ref g),some (.ref lf),some (.ref kp),v7,some (.ref b)]/\H' b=some (.lst (ts.map V.ref))/\Paired (NdAt (λx=>x≠b/\x≠m) H') ts (fs ns9)/\Same H9 H'/\b≠m/\H b=none) (λN0 go=>?_) ?_
  ·refine⟨_,rfl,kp,rfl,⟨_,SqL.of L9.hp⟩,qaM (xs:=as7.map V.ref) (λj ys σ' H'=>∃ts:List Addr,ys=ts.map V.ref/\Paired (NdAt (λx=>x≠m) H') ts ((fs ns9).take j)/\Same H9 H'/\∃z0 z1 z2 z3 z4 z5,σ'=[z0,z1,z2,z3,z4,z5]) (by rw[qA];exact qaz (by omega)) ⟨[],rfl,.nil,Same.refl _,none,none,none,none,none,none,rfl⟩ ?_ ?_ ?_⟩
   ·rintro j ys σ' H' hj ⟨ts,rfl,pr,sj,_⟩;refine⟨SqL.of (sj _ _ L9.hp),?_⟩;rw[qA,pr.length,rK];exact yQ _ _
   ·rintro j y ys σ' H' hy ⟨ts,rfl,pr,sj,z0,z1,z2,z3,z4,z5,rfl⟩;obtain⟨a,ea,rfl⟩:=qcH hy;obtain⟨c,ec,mk,sf,ha,nmk,hmk,hst⟩:=qaR L9.ls ea;refine⟨a,_,rfl,SqL.of (sj _ _ ha),rfl,_,_,rfl,_,_,rfl,_,_,rfl,_,_,rfl,_,_,rfl,_,_,rfl,rfl,_,rfl,_,rfl,_,rfl,_,rfl,_,rfl,by show 5<=sizeLine;decide,λt ht=>?_⟩;have st:=qab ht (.tup [.int c.1.e,.str c.1.k.s,.str c.1.nm,.ref mk,.ref sf]);refine⟨ts++[t],by rw[qT];rfl,?_,sj.trans st,_,_,_,_,_,_,rfl⟩;rw[rO,qb9 ec];exact qaJ (pr.mono λa d h=>h.keep st.keep λ_ n _=>n) (.cons ⟨(L9.out (sj.none ht)).2.1,mk,sf,qac,nmk.2.1,st _ _ (sj _ _ hmk),hst.keep (sj.trans st).keep λ_ n _=>n.2.1⟩ .nil)
   ·rintro ys σ' H' ⟨ts,rfl,pr,sj,_⟩ D hD;rw[qA,ll9,<-qbt,rM]at pr;have st:=qab hD (.lst (ts.map V.ref));have oD:=L9.out (sj.none hD);exact go _ _ ⟨D,ts,rfl,qac,pr.mono λa d h=>h.keep st.keep λx n e=>⟨(λz=>by rw[z,hD]at e;cases e),n⟩,sj.trans st,oD.2.1,s9.none (sj.none hD)⟩
  rintro _ H10 ⟨b,ts,rfl,hb,pr,s10,nbm,hb0⟩;have lts:ts.length=ns9.length:=by rw[pr.length,qbt]
  have L10:=L9.same s10;have s010:=s9.trans s10;refine qau (λσ' H'=>σ'=[some (.ref r),some (.ref p),some (.ref m),v3,some (.ref g),some (.ref lf),some (.ref kp),v7,some (.ref b)]/\BookAt (λ_=>True) H' b (if kids (fs ns9) 0=[]then fs ns9++[bareText]else fs ns9)/\qdS (λ_=>True) H' m (ms++qa0 (-1) (WW++wd (kids (fs ns9) 0=[]) (Bk.T "bare")))/\Same H H') (λN0 go=>?_) ?_
  rotate_left
  ·rintro _ H11 ⟨rfl,B11,M11,s11⟩;refine⟨_,rfl,_,rfl,by show 2<=sizeLine;decide,λt ht=>?_⟩;have st:=qab ht (.tup [.ref b,.ref m]);obtain⟨mv,em,pm'⟩:=M11;exact q t _ (s11.trans st) ⟨b,m,qac,BookAt.same B11 st,mv,st _ _ em,pm'.mono λv z h=>MdAt.keep h st.keep λ_ n _=>n⟩
  refine⟨_,rfl,b,rfl,⟨_,SqL.of hb⟩,qaM (xs:=ts.map V.ref) (λj ys σ' H'=>H'=H10/\ys.length=(qaX (fs ns9) 0 j).length/\∃z,σ'=[z]) (by rw[qA];exact qaz (by omega)) ⟨rfl,rfl,none,rfl⟩ ?_ ?_ ?_⟩
  ·rintro j ys σ' H' hj ⟨rfl,ly,_⟩;exact⟨SqL.of hb,by rw[ly];exact qb6 _ _ _⟩
  ·rintro j y ys σ' H' hy ⟨rfl,ly,z,rfl⟩;obtain⟨a,ea,rfl⟩:=qcH hy;obtain⟨c,ec,na⟩:=qaR pr ea;obtain⟨mk,sf,ha,_⟩:=na.ex;refine⟨_,rfl,a,_,_,_,rfl,rfl,SqT.of ha,rfl,rfl,_,rfl,?_⟩
   by_cases he:c.e=0
   ·rw[qC (by rw[he]:V.int c.e=V.int 0)];refine iteT ⟨_,rfl,rfl,?_,_,rfl⟩;rw[qcW ec he,qD,qD,ly];rfl
   ·rw[qB (λz=>he (V.int.inj z):¬V.int c.e=V.int 0)];refine iteF ⟨rfl,?_,_,rfl⟩;rw[qdx ec he];exact ly
  rintro ys σ' H' ⟨rfl,ly,_⟩ D hD;have lk:ys.length=(kids (fs ns9) 0).length:=by
   rw[ly,qA,lts,<-qbt];rfl
  have sD:=qab hD (.lst ys);refine⟨by show 0<=sizeLine;decide,λz hz=>⟨D,z,_,rfl,rfl,qab hz _ _ _ qac,qac,_,rfl,?_⟩⟩;have sz:=sD.trans (qab hz (.lst []));have L12:=L10.same sz;have s12:=s010.trans sz;have hb12:=sz _ _ hb;have pr12:Paired (NdAt (λx=>x≠b/\x≠m) (upd (upd H' D (.lst ys)) z (.lst []))) ts (fs ns9):=pr.mono λa d h=>h.keep sz.keep λ_ n _=>n
  generalize upd (upd H' D (.lst ys)) z (.lst [])=H12 at L12 s12 hb12 pr12;rw[if_neg qF]
  by_cases hk:kids (fs ns9) 0=[]
  ·rw[show ys.isEmpty=true by rw[hk]at lk;rw[qO lk];rfl];refine iteT ⟨_,rfl,.inl ⟨rfl,_,SqL.of hb12⟩,by show 0<=sizeLine;decide,λe1 he1=>⟨by show 3<=sizeLine;decide,λw1 hw1=>⟨by show 1<=sizeLine;decide,λs1' hs1=>⟨by show 5<=sizeLine;decide,λt5 ht5=>?_⟩⟩⟩⟩;have k1:=qab he1 (.lst []);have k2:=qab hw1 (.tup [.str (Str.ofString "word"),.str (Str.ofString "?"),.int 0]);have k3:=qab hs1 (.lst [.ref w1]);have k4:=qab ht5 (.tup [.int 0,.str (Str.ofString "text"),.str (Str.ofString ""),.ref e1,.ref s1']);have k14:=((k1.trans k2).trans k3).trans k4;refine⟨b,_,_,rfl,rfl,k14 _ _ hb12,qaZ (by rw[qA];omega),?_⟩;have nb:∀x,H12 x=none->x≠b/\x≠m:=λx hx=>⟨(λz=>by rw[z,hb12]at hx;cases hx),λz=>(L12.out hx).2.1 z⟩
   have nd5:NdAt (λx=>x≠b/\x≠m) (upd (upd (upd (upd H12 e1 (.lst [])) w1 (.tup [.str (Str.ofString "word"),.str (Str.ofString "?"),.int 0])) s1' (.lst [.ref w1])) t5 (.tup [.int 0,.str (Str.ofString "text"),.str (Str.ofString ""),.ref e1,.ref s1'])) t5 bareText:=⟨nb _ (((k1.trans k2).trans k3).none ht5),e1,s1',qac,nb _ he1,((k2.trans k3).trans k4) _ _ qac,nb _ ((k1.trans k2).none hs1),_,k4 _ _ qac,.cons ⟨w1,rfl,nb _ (k1.none hw1),(k3.trans k4) _ _ qac⟩ .nil⟩;have L13:=L12.same k14;have hb13:=k14 _ _ hb12;have pr13:Paired (NdAt (λx=>x≠b/\x≠m) (upd (upd (upd (upd H12 e1 (.lst [])) w1 (.tup [.str (Str.ofString "word"),.str (Str.ofString "?"),.int 0])) s1' (.lst [.ref w1])) t5 (.tup [.int 0,.str (Str.ofString "text"),.str (Str.ofString ""),.ref e1,.ref s1']))) ts (fs ns9):=pr12.mono λa d h=>h.keep k14.keep λ_ n _=>n
   have s13:=s12.trans k14;generalize upd (upd (upd (upd H12 e1 (.lst [])) w1 (.tup [.str (Str.ofString "word"),.str (Str.ofString "?"),.int 0])) s1' (.lst [.ref w1])) t5 (.tup [.int 0,.str (Str.ofString "text"),.str (Str.ofString ""),.ref e1,.ref s1'])=H13 at nd5 L13 hb13 pr13 s13;obtain⟨mv,em13,pm13⟩:=L13.md;have lmv:mv.length<=1000:=by rw[pm13.length];exact lW
   have nmb:m≠b:=Ne.symm nbm;have em14:upd H13 b (.lst (ts.map V.ref++[.ref t5])) m=some (.lst mv):=by rw[qal nmb];exact em13
   refine⟨_,rfl,.inl ⟨rfl,_,SqL.of em14⟩,_,rfl,by show 2<=sizeLine;decide,λt0 ht0=>⟨m,_,_,rfl,rfl,qab ht0 _ _ _ em14,qaZ lmv,?_⟩⟩;have kk:∀x o,(x≠b/\x≠m)->H13 x=some o->upd (upd (upd H13 b (.lst (ts.map V.ref++[.ref t5]))) t0 (.tup [.int (-1),.str (Str.ofString "bare")])) m (.lst (mv++[.ref t0])) x=some o:=λx o n e=>by
    have e14:upd H13 b (.lst (ts.map V.ref++[.ref t5])) x=some o:=by rw[qal n.1];exact e
    rw[qal n.2];exact qab ht0 _ _ _ e14
   have t0b:t0≠b:=λz=>by rw[z,qac]at ht0;cases ht0
   have t0m:t0≠m:=λz=>by rw[z,em14]at ht0;cases ht0
   refine go _ _ ⟨rfl,⟨ts++[t5],?_,?_⟩,⟨mv++[.ref t0],qac,?_⟩,λx o e=>kk x o ⟨(λz=>by rw[z,hb0]at e;cases e),λz=>by rw[z,hm0]at e;cases e⟩ (s13 _ _ e)⟩
   ·rw[qal nbm,qal (Ne.symm t0b),qac,qT];rfl
   ·rw[if_pos hk];exact qaJ (pr13.mono λa d h=>h.keep (λx o n e=>kk x o n e) λ_ _ _=>trivial) (.cons (nd5.keep (λx o n e=>kk x o n e) λ_ _ _=>trivial) .nil)
   ·rw[qce hk,qe4];refine qaJ (pm13.mono λv z h=>?_) (.cons ⟨t0,rfl,trivial,by rw[qal t0m,qac]⟩ .nil);obtain⟨a,ev,na,hae⟩:=h;exact⟨a,ev,trivial,kk a _ ⟨(λz=>by rw[z,hb13]at hae;cases hae),na.2.1⟩ hae⟩
  ·rw[show ys.isEmpty=false by cases ys with | nil=>exact absurd (qO lk.symm) hk | cons=>rfl];obtain⟨mv,em,pm'⟩:=L12.md;refine iteF (go _ _ ⟨rfl,⟨ts,hb12,by rw[if_neg hk];exact pr12.mono λa d h=>h.keep KeepN.refl λ_ _ _=>trivial⟩,⟨mv,em,?_⟩,s12⟩);rw[qcq hk,qX];exact pm'.mono λv z h=>MdAt.keep h KeepN.refl λ_ _ _=>trivial
end
end K09
namespace Gen
open PySem L2 Bk
theorem qey{p:Prop}{x y:Str}(h:y∈wd p x):y=x:=by
 unfold wd at h
 split at h
 ·simpa using h
 ·cases h
def otherWords:List Str:=[T "many",T "body",T "level",T "place",T "name",T "marks",T "pieces",T "bare",T "notes",T "case"]
theorem qgD{ds:List Nd}{d:Nd}{y:Str}(h:y∈qaQ ds d):y∈otherWords:=by
 unfold qaQ at h;rcases qY.mp h with h | h
 ·rcases qY.mp h with h | h
  ·rcases qY.mp h with h | h
   ·rw[qey h];ac_rfl
   ·rw[qey h];ac_rfl
  ·rw[qey h];ac_rfl
 ·rw[qey h];ac_rfl
theorem qfB{d:Nd}{lv:Nat}{y:Str}(h:y∈qaN d lv):y∈otherWords:=by rw[qey h];ac_rfl
theorem qeH{ds:List Nd}{d:Nd}{y:Str}(h:y∈(qax ds d).2):y∈otherWords:=by
 unfold qax at h
 split at h
 ·have:y=T "place":=by simpa using h
  rw[this];ac_rfl
 ·rcases qY.mp h with h | h
  ·exact qfB h
  ·exact qgD h
theorem read_mem{ds:List Nd}{x:Str}{d:Nd}(e:qbB x=some d){y:Str}(h:y∈(qbp ds x).2):y∈otherWords:=by
 unfold qbp at h;rw[e]at h;dsimp only at h
 split at h
 ·have:y=T "many":=by simpa using h
  rw[this];ac_rfl
 ·split at h
  ·unfold qbe at h
   split at h
   ·rcases qY.mp h with h | h
    ·exact qfB h
    ·exact qgD h
   ·rcases qV.mp h with h | h
    ·rw[h];ac_rfl
    ·exact qeH h
  ·split at h
   ·rcases qV.mp h with h | h
    ·rw[h];ac_rfl
    ·exact qeH h
   ·exact qeH h
theorem end_mem{ds:List Nd}{y:Str}(h:y∈qbA ds):y∈otherWords:=by
 unfold qbA at h;rcases qY.mp h with h | h
 ·rcases qY.mp h with h | h
  ·rcases qY.mp h with h | h
   ·rw[qey h];ac_rfl
   ·obtain⟨j,d,_,_,h⟩:=qcv h
    split at h
    ·have:y=T "notes":=by simpa using h
     rw[this];ac_rfl
    ·cases h
  ·obtain⟨j,d,_,_,h⟩:=qcv h
   split at h
   ·have:y=T "case":=by simpa using h
    rw[this];ac_rfl
   ·cases h
 ·rw[qey h];ac_rfl
end Gen
namespace Gen
open PySem L2 Bk
open PySem.W (Dat)
theorem kinds_form{ns:List Nd}(h:∀d∈ns,Form d):∀d∈qaP ns,Form d:=λc hc=>by
 obtain⟨i,d,hi,e,m⟩:=qcv hc;have hd:=h d (qP e);have ec:c={d with k:=if qaD ns i d then .case else d.k}:=by simpa using m
 rw[ec];refine⟨hd.nm,hd.mks,?_⟩;show Stuff (if qaD ns i d then .case else d.k) d.st;cases ew:qaD ns i d with
 | false=>exact hd.st
 | true =>
   show d.st=[]
   have st:=hd.st
   have kk:d.k=.aside\/d.k=.shelf\/d.k=.grid:=by
     unfold qaD at ew
     rw[wC,rH,rH,rA,rA]at ew
     rcases ew with z | z
     · exact .inl z.1
     · have:=z.1
       simpa using this
   rcases kk with z | z | z<;>rw[z]at st<;>exact st
theorem bareT_form:Form bareText:=⟨.inl rfl,⟨by decide,(λm hm=>nomatch hm),.nil⟩,(qcA (k:=.text) (by decide)).mp bare_ok⟩
theorem book_form{ds:List Nd}(ok:NodesOk ds):∀d∈qdU ds,Form d:=by
 obtain⟨okb,_⟩:=qdk ok;have hm:∀d∈qaP (qat (begun ds)),Form d:=kinds_form λc hc=>by
  obtain⟨n,d,e,_,rfl⟩:=qgO hc;have f:=noted_form (ds:=begun ds) okb.le (n:=n) (okb.form d (qP e)).1;exact⟨f.nm,f.mks,f.st⟩
 intro d hd;rw[qgl]at hd
 split at hd
 ·rcases qY.mp hd with hd | hd
  ·exact hm d hd
  ·have:d=bareText:=by simpa using hd
   rw[this];exact bareT_form
 ·exact hm d hd
theorem book_len{ds:List Nd}(ok:NodesOk ds):(qdU ds).length<=61:=by
 obtain⟨okb,_⟩:=qdk ok;have h1:=qgk (begun ds);have h2:=okb.le;rw[qgl]
 split
 ·rw[qD,qeD,xU];omega
 ·rw[qeD];omega
theorem readB_len2{rows:List Str}(ok:NodesOk (rdTo rows rows.length).1):(qcx rows).2.length<=7*rows.length+122:=by
 have h1:=qcR rows rows.length;have h2:=qeK ok;have e:(qcx rows).2.length=(rdTo rows rows.length).2.length+(qbA (rdTo rows rows.length).1).length:=by
  unfold qcx;rw[qD,qA]
 omega
theorem qfn{tds:List Nd}(h:∀d∈tds,TdOk d):∀i,∀p∈(rdTo (tds.map wrS) i).2,p.2∈otherWords
 | 0,p,hp=>nomatch hp
 | i + 1, p, hp => by
   cases e:tds[i]? with
   | none =>
     rw[rdTo,qR,e]at hp
     exact qfn h i p hp
   | some d =>
     rw[qfv (x:=wrS d) (by rw[qR,e];rfl)]at hp
     rcases qY.mp hp with hp | hp
     · exact qfn h i p hp
     · obtain⟨y,hy,rfl⟩:=rG.mp hp
       exact read_mem (qfl (h d (qP e))) hy
theorem readB_other{tds:List Nd}(h:∀d∈tds,TdOk d):∀p∈(qcx (tds.map wrS)).2,p.2∈otherWords:=λp hp=>by
 unfold qcx at hp;rcases qY.mp hp with hp | hp
 ·exact qfn h _ p hp
 ·obtain⟨y,hy,rfl⟩:=rG.mp hp;exact end_mem hy
theorem other_low:∀x∈otherWords,Low x:=λx hx=>by
 have:otherWords.all (λx=>x.cps.all (·< 128))=true:=by ac_rfl
 exact yH.mp this x hx
def mdD(p:Int×Str):Dat:=.tuple [.int p.1,.str p.2]
theorem mds_in{N:Addr->Prop}{H:Hp}{vs:List V}{ms:List (Int×Str)}(h:Paired (MdAt N H) vs ms):DAll H vs (ms.map mdD):=by
 induction h with
 | nil=>exact .nil
 | cons q t ih =>
   obtain⟨a,rfl,_,e⟩:=q
   exact .cons (.tup e (.cons (.int _) (.cons (.str _) .nil))) ih
def dueD(r:List Nd×List (Int×Str)):Dat:=.tuple [bkD r.1,.list (r.2.map mdD)]
theorem due_ok{r:List Nd×List (Int×Str)}(h:∀d∈r.1,Form d)(h2:∀p∈r.2,p.2∈otherWords):PySem.W.kqdOk 9 (dueD r)=true:=by
 have h8:=Bd.bk_ok8 h;have m8:PySem.W.kqdOk 8 (.list (r.2.map mdD))=true:=by
  simp only[PySem.W.kqdOk,List.all_eq_true,List.mem_map];rintro x ⟨y,hy,rfl⟩;simp only[mdD,PySem.W.kqdOk,List.all_cons,List.all_nil,Bool.and_true,Bool.true_and];exact qia (other_low _ (h2 y hy))
 unfold dueD;simp only[PySem.W.kqdOk,List.all_cons,List.all_nil,Bool.and_true,Bool.and_eq_true];exact⟨h8,m8⟩
theorem qgH{N:Addr->Prop}{H:Hp}{t:Addr}{r:List Nd×List (Int×Str)}(h:qhV N H t r):DIn H (.ref t) (dueD r):=by
 obtain⟨b,m,e,B,mv,em,pm⟩:=h;exact .tup e (.cons (bk_in B) (.cons (.lst em (mds_in pm)) .nil))
def qhX(R:Addr->Prop)(H H':Hp):Prop:=∀b o,H b=some o->(R b\/∃xs,o=.tup xs)->H' b=some o
def qhU(HD:Hp)(i:Nat)(H:Hp):Prop:=∀b xs,HD b=some (.lst xs)->xs.length<=5000->∃ys,H b=some (.lst ys)/\ys.length<=5000+i
theorem lst_upd{R:Addr->Prop}{HD H:Hp}{i:Nat}{b:Addr}{xs ys:List V}(k:qhX R HD H)(l:qhU HD i H)(e:HD b=some (.lst xs))(nr:¬R b)(hy:ys.length<=5000+(i+1)):qhX R HD (upd H b (.lst ys))/\qhU HD (i+1) (upd H b (.lst ys)):=by
 constructor
 ·intro c o ec r;have ne:c≠b:=by
   rintro rfl;rcases r with r | ⟨zs,rfl⟩
   ·exact nr r
   ·rw[e]at ec;cases ec
  rw[qal ne];exact k c o ec r
 ·intro c zs ec lc
  by_cases h:c=b
  ·subst h;exact⟨ys,qac,hy⟩
  ·obtain⟨ws,h1,h2⟩:=l c zs ec lc;exact⟨ws,by rw[qal h];exact h1,by omega⟩
end Gen
namespace K09
open PySem L2 Bk Gen
open PySem.W (Dat)
abbrev sLaw:Stmt:=top 92
theorem qge{H:Hp}:∀l:List Str,DAll H (l.map V.str) (l.map Dat.str)
 | []=>.nil
 | x::l=>.cons (.str x) (qge l)
theorem qgw{l:List Str}(h:∀x∈l,Low x):PySem.W.kqdOk 9 (.list (l.map Dat.str))=true:=by
 simp only[PySem.W.kqdOk,List.all_eq_true,List.mem_map];rintro x ⟨y,hy,rfl⟩;exact qia (h y hy)
def qhW(K:W.Frag):Sp:=λvs H Q _=>∃(a:Addr) (ns:List Int),vs=[.ref a]/\SqL K H a (ns.map V.int)/\ns.length<=63/\∀H',Q (.bl true) H'
section
variable{P:Program}{w:World}{K:W.Frag}{mg:Str->Option Value}{base:Heap}
theorem scLaw:FnScope ["_law_script", "_law_stream_here", "_law_many", "_law_told", "_law_rows", "_law_handed", "_law_found", "_law_node"] ["_law_script"] (qai sLaw):=⟨rfl,rfl,rfl,by ac_rfl,rfl,by ac_rfl,by ac_rfl⟩
theorem ok_law{f:Addr}{fd:FuncData}(F:Fun K "law" "law" sLaw f fd)(T:Bn mg)(F_stream:Fx P w K mg base CX0 1 "_law_stream" ["_law_script", "_law_k"] (qgF K))(F_take:Fx P w K mg base CX0 1 "_law_take" ["_law_stream_here", "_law_most"] spTake)(F_drawn:Fx P w K mg base CX0 3 "_law_drawn" ["_law_stream_here"] spDrawn)(F_written:Fx P w K mg base CX0 2 "_law_written" ["_law_told"] spWritten)(F_read_book:Fx P w K mg base CX0 9 "read_book" ["rows"] spReadBook)(F_due:Fx P w K mg base CX0 4 "_law_due" ["_law_rows"] spDue):FnOk P w K mg base CX0 10 f fd ["_law_script"] (qhW K):=by
 refine F.ok scLaw (λvs H Q E h=>?_) (λcdv A outer s H vs Q E hr h=>?_)
 ·obtain⟨a,ns,rfl,_⟩:=h;rfl
 ·obtain⟨a,ns,rfl,hS,h63,q⟩:=h;have hr_stream:Room 1 _:=hr.mono (by decide);have hr_take:Room 1 _:=hr.mono (by decide);have hr_drawn:Room 3 _:=hr.mono (by decide);have hr_written:Room 2 _:=hr.mono (by decide);have hr_due:Room 4 _:=hr.mono (by decide);have hr_read_book:=hr;have hu:=hr.units;refine⟨_,(qad (qaq (i:=1) scLaw.nd (by rfl) (by trivial) (qaB F_stream hr_stream (by rfl) qaA (qaa (pv 0) (qaa qaf pa_nil))))
   (qad (qaq (i:=2) scLaw.nd (by rfl) (by trivial) (qaB F_take hr_take (by rfl) qaA (qaa (pv 1) (qaa qaf pa_nil))))
   (qad (qaH (qah op_eq (qaB F_take hr_take (by rfl) qaA (qaa (pv 1) (qaa qaf pa_nil))) qaf (qao _)) (qae (qaq (i:=2) scLaw.nd (by rfl) (by trivial) (qaO op_add qaf (qaB F_take hr_take (by rfl) qaA (qaa (pv 1) (qaa qaf pa_nil)))))) pss_nil)
   (qad (qbU (i:=3) (by rfl) scLaw.nd (by rfl) (by trivial) (own:=["_law_k"]) (ix:=[1]) (frees:=["_law_stream_here"]) (CompScope.frees (by rfl) (by ac_rfl) (by ac_rfl) (by ac_rfl) (by rfl) (by ac_rfl) (by first | exact qdZ (by rfl) | exact qeG (by rfl) (by rfl))) (qby (by rfl) T.range (qaa (pv 2) pa_nil)) (λcl C s2 H2 fp=>(qas (i:=0) (by show(["_law_k", "_law_stream_here"]:List Str).Nodup;ac_rfl) (by rfl) (by trivial) (by trivial))) (λcl C s2 H2 fp=>qbs) (λcl C s2 H2 fp=>(qaB F_drawn hr_drawn (by rfl) qaA (qaa (pv 1) pa_nil))))
   (qad (qbU (i:=4) (by rfl) scLaw.nd (by rfl) (by trivial) (own:=["_law_one"]) (CompScope.plain (by rfl) (by ac_rfl) (by ac_rfl) (by ac_rfl)) (qa1 (pv 3)) (λcl C s2 H2 fp=>(qas (i:=0) (by show(["_law_one"]:List Str).Nodup;ac_rfl) (by rfl) (by trivial) (by trivial))) (λcl C s2 H2 fp=>qbs) (λcl C s2 H2 fp=>(qaB F_written hr_written (by rfl) qaA (qaa (pv 0) pa_nil))))
   (qad (qaq (i:=5) scLaw.nd (by rfl) (by trivial) (qcm call_list_of (by rfl) T.list b_list (qaa (pv 4) pa_nil)))
   (qad (qaq (i:=6) scLaw.nd (by rfl) (by trivial) (qaB F_read_book hr_read_book (by rfl) qaA (qaa (pv 5) pa_nil)))
   (qad (qaH (PW.pt (qdi (qb0 (qbk (qdY T.isinstance (by rfl) T.tuple (by rfl) b_tuple (pv 6)))) (qdi (qah (qeU hu) (pv 6) (qaB F_due hr_due (by rfl) qaA (qaa (pv 3) pa_nil)) (qao _)) (qcg (qah (qeU hu) (pv 5) (pv 4) (qao _)))))) (qae (qap qeN)) pss_nil)
   (qad (qbT rR (by rfl) (qa1 (qan ix_tup (pv 6) qaf (λ_ _=>rfl))) (qas (i:=7) scLaw.nd (by rfl) (by trivial))
   (qad (qaH (qb0 (qbk (qdY T.isinstance (by rfl) T.tuple (by rfl) b_tuple (pv 7)))) (qae (qap qeN)) pss_nil)
   (qae (qaC (qaV qH qJ qK mt_append (qan ix_tup (pv 7) qaf (λ_ _=>rfl)) (qaa qaf pa_nil))))))
   (qad (qaC (qic qH PySem.F.slot_list_clear PySem.F.type_list_clear mt_clear (qan ix_tup (pv 6) qaf (λ_ _=>rfl))))
   (qad (qaC (qic qH PySem.F.slot_list_clear PySem.F.type_list_clear mt_clear (qan ix_tup (pv 6) qaf (λ_ _=>rfl))))
   (qae (qap (qa2 (op_eqP hu) (qaB F_read_book hr_read_book (by rfl) qaA (qaa (pv 4) pa_nil)) (qaB F_due hr_due (by rfl) qaA (qaa (pv 3) pa_nil)) (qao _))))))))))))))),?_⟩
  refine⟨_,rfl,a,ns,0,rfl,hS,by decide,by decide,λst H1 hst S1 s1=>?_⟩;refine⟨_,rfl,st,25,rfl,S1,by decide,by decide,λr H2 r0 r1 S2 K2=>?_⟩;dsimp only[qbu,tNext];refine qau (λσ' H'=>∃n:Int,σ'=[some (.ref a),some (.ref st),some (.int n),none,none,none,none,none]/\0<=n/\n<=66/\StOk H' st) (λN0 go=>?_) ?_
  ·refine⟨_,rfl,st,8,rfl,S2,by decide,by decide,λr2 H3 r20 r21 S3 K3=>⟨rfl,_,rfl,?_⟩⟩
   by_cases h5:r2=5
   ·rw[qC (xN V.int h5)];exact iteT ⟨_,rfl,st,9,rfl,S3,by decide,by decide,λr3 H4 r30 r31 S4 K4=>⟨_,_,rfl,rfl,go _ _ ⟨_,rfl,by omega,by omega,S4⟩⟩⟩
   ·rw[qB (λz=>h5 (V.int.inj z))];exact iteF (go _ _ ⟨_,rfl,r0,by omega,S3⟩)
  rintro _ H3 ⟨n,rfl,n0,n66,S3⟩;clear S1 S2 K2;refine qau (λσ' H'=>∃(L:Addr) (ts:List Addr) (tds:List Nd),σ'=[some (.ref a),some (.ref st),some (.int n),some (.ref L),none,none,none,none]/\H' L=some (.lst (ts.map V.ref))/\Paired (NdAt (λ_=>True) H') ts tds/\tds.length<=66/\(∀d∈tds,TdOk d)) (λN0 go=>?_) ?_
  ·refine⟨_,rfl,_,rfl,by omega,by omega,qb3 (λi ys σ' H'=>∃(ts:List Addr) (tds:List Nd) (z:Option V),σ'=[z,some (.ref st)]/\ys=ts.map V.ref/\Paired (NdAt (λb=>b≠st) H') ts tds/\tds.length=i/\(∀d∈tds,TdOk d)/\StOk H' st) (qaz (by omega)) ⟨[],[],none,rfl,rfl,.nil,rfl,(λd hd=>nomatch hd),S3⟩ ?_ ?_ ?_⟩
   ·rintro i ys σ' H' hi ⟨ts,tds,z,rfl,rfl,pr,l,_⟩;rw[qA,pr.length,l];exact qN _
   ·rintro i ys σ' H4 hi ⟨ts,tds,z,rfl,rfl,pr,l,td,S4⟩;refine⟨_,rfl,st,rfl,S4,λt d H5 tdd na S5 K5=>⟨ts++[t],tds++[d],_,rfl,by rw[qT];rfl,qaJ (pr.mono λa d h=>h.keep K5 λ_ n _=>n) (.cons (na.keep KeepN.refl λb n _=>qbn S4.some n) .nil),by rw[qD,l];rfl,λx hx=>?_,S5⟩⟩;rcases qY.mp hx with hx | hx
    ·exact td x hx
    ·have:x=d:=by simpa using hx
     rw[this];exact tdd
   ·rintro ys σ' H4 ⟨ts,tds,z,rfl,rfl,pr,l,td,S4⟩ D hD;exact go _ _ ⟨D,ts,tds,rfl,qac,pr.mono λa d h=>h.keep (qab hD _).keep λ_ _ _=>trivial,by omega,td⟩
  rintro _ H4 ⟨L,ts,tds,rfl,hL,pr,l66,td⟩;clear S3;have lts:ts.length=tds.length:=pr.length;refine qau (λσ' H'=>∃R:Addr,σ'=[some (.ref a),some (.ref st),some (.int n),some (.ref L),some (.ref R),none,none,none]/\Same H4 H'/\H' R=some (.lst ((tds.map wrS).map V.str))) (λN0 go=>?_) ?_
  ·refine⟨_,rfl,L,rfl,⟨_,SqL.of hL⟩,qaM (xs:=ts.map V.ref) (λi ys σ' H'=>Same H4 H'/\ys=((tds.take i).map wrS).map V.str/\∃z,σ'=[z]) (by rw[qA];exact qaz (by omega)) ⟨Same.refl _,rfl,none,rfl⟩ ?_ ?_ ?_⟩
   ·rintro i ys σ' H' hi ⟨si,rfl,_⟩;refine⟨SqL.of (si _ _ hL),?_⟩;rw[qA,qA,rK];exact yQ _ _
   ·rintro i x ys σ' H' hx ⟨si,rfl,z,rfl⟩;obtain⟨t,et,rfl⟩:=qcH hx;obtain⟨d,ed,na⟩:=qaR pr et;refine⟨_,rfl,t,d,_,rfl,na.keep si.keep (λ_ n _=>n),td d (qP ed),λH5 s5=>⟨si.trans s5,?_,_,rfl⟩⟩;rw[rO,ed,xB,qT,qT];rfl
   ·rintro ys σ' H' ⟨si,rfl,_⟩ D hD;refine go _ _ ⟨D,rfl,si.trans (qab hD _),?_⟩;rw[qac,qA,lts,rM]
  rintro _ H5 ⟨R,rfl,s45,hR⟩;have BL:BookAt (λ_=>True) H5 L tds:=⟨ts,s45 _ _ hL,pr.mono λa d h=>h.keep s45.keep λ_ n _=>n⟩;have rok:∀x∈tds.map wrS,RowOk x:=λx hx=>by
   obtain⟨d,hd,rfl⟩:=rG.mp hx;exact qhi (td d hd)
  have rlen:(tds.map wrS).length<=66:=by rw[qA];exact l66
  have rlow:∀x∈tds.map wrS,Low x:=λx hx=>(rok x hx).low
  have ok:=qg4 rok (tds.map wrS).length;have fm:∀d∈(qcx (tds.map wrS)).1,Form d:=book_form ok;have ow:=readB_other td;have dok:=due_ok fm ow;have lbk:(qcx (tds.map wrS)).1.length<=61:=book_len ok;have lmd:(qcx (tds.map wrS)).2.length<=5000:=qS (readB_len2 ok) (by omega);clear s45 hL pr H4;refine⟨_,rfl,R,_,rfl,.inl (SqL.of hR),λh hh=>?_⟩;have s6:=qab hh (.lst ((tds.map wrS).map V.str));have eh:upd H5 h (.lst ((tds.map wrS).map V.str)) h=some (.lst ((tds.map wrS).map V.str)):=qac;have hR6:=s6 _ _ hR;have B6:=BookAt.same BL s6;generalize upd H5 h (.lst ((tds.map wrS).map V.str))=H6 at eh hR6 B6;clear s6 hR BL hh;refine⟨_,rfl,h,tds.map wrS,rfl,eh,by omega,rok,λt b m H8 s8 ht et hb B8 hm M8 nbm=>?_⟩;have D8:qhV (qbz H6) H8 t (qcx (tds.map wrS)):=⟨b,m,et,B8,M8⟩;dsimp only[qbu];refine qau (λσ' H'=>σ'=[some (.ref a),some (.ref st),some (.int n),some (.ref L),some (.ref R),some (.ref h),some (.ref t),none]/\Same H8 H') (λN0 go=>?_) ?_
  ·refine⟨_,rfl,_,_,_,_,rfl,.tup et,⟨_,λu r=>r,k_tt⟩,_,rfl,iteF ?_⟩;refine⟨_,rfl,_,rfl,L,tds,_,rfl,BookAt.same B6 s8,td,by omega,λt2 H9 s9 D9=>?_⟩;have D8':DIn H9 (.ref t) (dueD (qcx (tds.map wrS))):=qgH (N:=qbz H6) (by
    obtain⟨b,m,e,B,mv,em,pm⟩:=D8;exact⟨b,m,s9 _ _ e,BookAt.same B s9,mv,s9 _ _ em,pm.mono λv p h=>MdAt.keep h s9.keep λ_ n _=>n⟩)
   refine⟨_,_,D8',qgH D9,dok,dok,λ_=>⟨_,rfl,iteF ?_⟩,λz=>absurd rfl z⟩;have s69:=s8.trans s9;exact⟨_,rfl,_,rfl,.list ((tds.map wrS).map Dat.str),.list ((tds.map wrS).map Dat.str),.lst (s69 _ _ eh) (qge _),.lst (s69 _ _ hR6) (qge _),qgw rlow,qgw rlow,λ_=>⟨_,rfl,iteF (go _ _ ⟨rfl,s9⟩)⟩,λz=>absurd rfl z⟩
  rintro _ H9 ⟨rfl,s9⟩;obtain⟨as,hb9,nds⟩:=BookAt.same B8 s9;have et9:=s9 _ _ et;obtain⟨mv,em8,pm8⟩:=M8;have em9:=s9 _ _ em8;have lmv:mv.length<=5000:=by rw[pm8.length];exact lmd
  have la:as.length=(qcx (tds.map wrS)).1.length:=nds.length;have s69:=s8.trans s9;refine qau (λσ' H'=>(∃v7,σ'=[some (.ref a),some (.ref st),some (.int n),some (.ref L),some (.ref R),some (.ref h),some (.ref t),v7])/\qhX (λc=>c=b) H9 H'/\qhU H9 as.length H'/\Same H6 H') (λD' kont=>?_) ?_
  ·refine⟨_,rfl,t,_,_,_,rfl,rfl,SqT.of et9,rfl,b,rfl,⟨_,SqL.of hb9⟩,qdy (xs:=as.map V.ref) (λi σ' H'=>(∃v7,σ'=[some (.ref a),some (.ref st),some (.int n),some (.ref L),some (.ref R),some (.ref h),some (.ref t),v7])/\qhX (λc=>c=b) H9 H'/\qhU H9 i H'/\Same H6 H') ⟨⟨none,rfl⟩,(λc o e _=>e),(λc xs e l=>⟨xs,e,by omega⟩),s69⟩ ?_ ?_ ?_⟩
   ·rintro i σ' H' hi ⟨_,k,_⟩;exact SqL.of (k _ _ hb9 (.inl rfl))
   ·rintro i x σ' H' hx ⟨⟨v7,rfl⟩,k,lo,sa⟩;obtain⟨a',ea,rfl⟩:=qcH hx;obtain⟨d,ed,na,m',sf,ha,nm,hm',nsf,vs,hs,its⟩:=nds.at ea;have l60:=(st_len (fm d (qP ed)).st).1;have lvs:vs.length=d.st.length:=its.length;have ns':¬sf=b:=λz=>by
     rw[z,hb9]at hs;have e:=HO.lst.inj (rD hs);rw[e]at hx;obtain⟨y,_,iy⟩:=qaR its hx;cases y with
     | int n=>cases iy
     | tri so x' t' =>
       obtain⟨a2,e2,_,ha2⟩:=iy
       cases e2
       rw[ha]at ha2
       cases ha2
    have ha':=k _ _ ha (.inr ⟨_,rfl⟩);obtain⟨ss,hs1,ls⟩:=lo sf _ hs (by omega);refine⟨_,rfl,_,_,_,_,rfl,.tup ha',⟨_,λu r=>r,k_tt⟩,_,rfl,iteF ?_⟩;have hi:i<61:=by have:=(qI.mp ed).1;omega
    refine⟨_,rfl,a',_,_,_,rfl,rfl,SqT.of ha',rfl,.inl ⟨rfl,_,SqL.of hs1⟩,sf,_,_,rfl,rfl,hs1,yY (show ss.length<=6000 by omega) (by decide),?_⟩;obtain⟨k2,lo2⟩:=lst_upd (ys:=ss++[V.int 0]) k lo hs ns' (by rw[qD];simp;omega);exact⟨⟨_,rfl⟩,k2,lo2,qaE sa nsf⟩
   ·rintro σ' H' ⟨hσ,k,lo,sa⟩;rw[qA]at lo;exact kont _ _ ⟨hσ,k,lo,sa⟩
  rintro _ HE ⟨⟨v7,rfl⟩,kE,loE,sE⟩;have etE:=kE _ _ et9 (.inr ⟨_,rfl⟩);have hbE:=kE _ _ hb9 (.inl rfl);obtain⟨ys,hmE,ly⟩:=loE m _ em9 lmv;refine⟨_,rfl,t,_,_,_,rfl,rfl,SqT.of etE,rfl,.inl ⟨rfl,_,SqL.of hbE⟩,b,_,rfl,rfl,hbE,?_⟩;have sF:Same H6 (upd HE b (.lst [])):=qaE sE hb;have etF:upd HE b (.lst []) t=some (.tup [.ref b,.ref m]):=by rw[qal (qgb etE hbE (by intro z;cases z))];exact etE
  have hmF:upd HE b (.lst []) m=some (.lst ys):=by rw[qal nbm.symm];exact hmE
  generalize upd HE b (.lst [])=HF at sF etF hmF⊢;refine⟨_,rfl,t,_,_,_,rfl,rfl,SqT.of etF,rfl,.inl ⟨rfl,_,SqL.of hmF⟩,m,_,rfl,rfl,hmF,?_⟩;have sG:Same H6 (upd HF m (.lst [])):=qaE sF hm;generalize upd HF m (.lst [])=HG at sG⊢;refine⟨_,rfl,R,tds.map wrS,rfl,sG _ _ hR6,by omega,rok,λt3 b3 m3 H10 s10 ht3 et3 hb3 B10 hm3 M10 nb3=>?_⟩;have BG:=BookAt.same B6 (sG.trans s10);refine⟨_,rfl,L,tds,_,rfl,BG,td,by omega,λt4 H11 s11 D11=>?_⟩;have D10:qhV (qbz HG) H10 t3 (qcx (tds.map wrS)):=⟨b3,m3,et3,B10,M10⟩;have D10':DIn H11 (.ref t3) (dueD (qcx (tds.map wrS))):=qgH (N:=qbz HG) (by
   obtain⟨b,m,e,B,mv,em,pm⟩:=D10;exact⟨b,m,s11 _ _ e,BookAt.same B s11,mv,s11 _ _ em,pm.mono λv p h=>MdAt.keep h s11.keep λ_ n _=>n⟩)
  exact⟨_,_,D10',qgH D11,dok,dok,λ_=>q _,λz=>absurd rfl z⟩
end
end K09
namespace K09
open PySem L2 Bk Gen
theorem qb7{K:W.Frag}{a:Addr}{od:Option Addr}{its:Array Value}{n:Nat}{sl:Array (Option Value)}{H:Hp}{ks:List Kd}(l:K.lookup a=some ⟨.type "tuple",od,.seq its n,sl⟩)(z:its.size<=sizeLine)(v:Vals (ks.map λk=>V.str k.s) its.toList):SqT K H a (ks.map λk=>V.str k.s) :=
 .inr ⟨_,its,n,l,rfl,rfl,z,v⟩
theorem qcr{k:Key}{v:Value}{r:List (Key×Value)}:valueAt ((k,v)::r) k=some v:=by simp[valueAt]
theorem qb1{k k':Key}{v:Value}{r:List (Key×Value)}(h:k'≠k):valueAt ((k',v)::r) k=valueAt r k:=by simp[valueAt,h]
theorem keys9{P:Program}{w:World}{x1 x2 x3 x4 x5 x6 x7 x8 x9:Str}{t1 t2 t3 t4 t5 t6 t7 t8 t9:Tok}{v1 v2 v3 v4 v5 v6 v7 v8 v9:Value}{e:DictEntry}(h:e∈#[⟨PyData.keyHash w.params x1,.str x1 t1,v1⟩,⟨PyData.keyHash w.params x2,.str x2 t2,v2⟩,⟨PyData.keyHash w.params x3,.str x3 t3,v3⟩,⟨PyData.keyHash w.params x4,.str x4 t4,v4⟩,⟨PyData.keyHash w.params x5,.str x5 t5,v5⟩,⟨PyData.keyHash w.params x6,.str x6 t6,v6⟩,⟨PyData.keyHash w.params x7,.str x7 t7,v7⟩,⟨PyData.keyHash w.params x8,.str x8 t8,v8⟩,⟨PyData.keyHash w.params x9,.str x9 t9,v9⟩]) :
  ∃k,(qbh P w).is k e.key=true/\e.hash=(qbh P w).hash k:=by
 simp only[List.mem_toArray,List.mem_cons,List.not_mem_nil,or_false]at h;rcases h with rfl | rfl | rfl | rfl | rfl | rfl | rfl | rfl | rfl<;>exact⟨.inr _,qaT _ _ _ _,rfl⟩
open PySem.W
structure At(K:Frag)(n:Str)(st:Stmt)(f:Addr)(fd:FuncData):Prop where
 a:nsIn K mainGlobals n=some (some (.ref f))
 d:FunD K n n st f fd
 f:Fun K n n st f fd
theorem at_mk{K:Frag}{n:Str}{st:Stmt}{f:Addr}{oc:Value}{od an:Option Addr}{sl:Array (Option Value)}{kV dc pm cd ct:Value}(a:nsIn K mainGlobals n=some (some (.ref f)))(l:K.lookup f=some ⟨oc,od,.func (fnOf n n (qbE st) (qbq st) (qai st) .none kV dc pm an cd ct),sl⟩)(e:codeIn K cd n=true)(k:keepIn K (.ref f)=true):At K n st f (fnOf n n (qbE st) (qbq st) (qai st) .none kV dc pm an cd ct):=⟨a,fund_mk l e k,fun_mk l e k⟩
def Bo(n:Str)(st:Stmt)(ps:List Str):Prop:=∀(kV doc pm:Value) (an:Option Addr) (cdv ct:Value) (us:List Value),us.length=ps.length->bindArgs (fnOf n n (qbE st) (qbq st) (qai st) .none kV doc pm an cdv ct) ⟨us,[]⟩=pure (ps.zip us)
theorem us_s{n:Nat}{us:List Value}(h:us.length=n+1):∃u r,us=u::r/\r.length=n:=by
 cases us with
 | nil=>cases h
 | cons u r=>exact⟨u,r,rfl,Nat.succ.inj h⟩
theorem bo1{n:Str}{st:Stmt}{p0:Str}(h:∀(kV doc pm:Value) (an:Option Addr) (cdv ct u0:Value),bindArgs (fnOf n n (qbE st) (qbq st) (qai st) .none kV doc pm an cdv ct) ⟨[u0],[]⟩=pure [(p0,u0)]):Bo n st [p0]:=λkV doc pm an cdv ct us hl=>by
 obtain⟨u0,r0,rfl,h0⟩:=us_s hl;obtain rfl:=qO h0;exact h _ _ _ _ _ _ _
theorem bo2{n:Str}{st:Stmt}{p0 p1:Str}(h:∀(kV doc pm:Value) (an:Option Addr) (cdv ct u0 u1:Value),bindArgs (fnOf n n (qbE st) (qbq st) (qai st) .none kV doc pm an cdv ct) ⟨[u0,u1],[]⟩=pure [(p0,u0),(p1,u1)]):Bo n st [p0,p1]:=λkV doc pm an cdv ct us hl=>by
 obtain⟨u0,r0,rfl,h0⟩:=us_s hl;obtain⟨u1,r1,rfl,h1⟩:=us_s h0;obtain rfl:=qO h1;exact h _ _ _ _ _ _ _ _
theorem bo3{n:Str}{st:Stmt}{p0 p1 p2:Str}(h:∀(kV doc pm:Value) (an:Option Addr) (cdv ct u0 u1 u2:Value),bindArgs (fnOf n n (qbE st) (qbq st) (qai st) .none kV doc pm an cdv ct) ⟨[u0,u1,u2],[]⟩=pure [(p0,u0),(p1,u1),(p2,u2)]):Bo n st [p0,p1,p2]:=λkV doc pm an cdv ct us hl=>by
 obtain⟨u0,r0,rfl,h0⟩:=us_s hl;obtain⟨u1,r1,rfl,h1⟩:=us_s h0;obtain⟨u2,r2,rfl,h2⟩:=us_s h1;obtain rfl:=qO h2;exact h _ _ _ _ _ _ _ _ _
theorem bo4{n:Str}{st:Stmt}{p0 p1 p2 p3:Str}(h:∀(kV doc pm:Value) (an:Option Addr) (cdv ct u0 u1 u2 u3:Value),bindArgs (fnOf n n (qbE st) (qbq st) (qai st) .none kV doc pm an cdv ct) ⟨[u0,u1,u2,u3],[]⟩=pure [(p0,u0),(p1,u1),(p2,u2),(p3,u3)]):Bo n st [p0,p1,p2,p3]:=λkV doc pm an cdv ct us hl=>by
 obtain⟨u0,r0,rfl,h0⟩:=us_s hl;obtain⟨u1,r1,rfl,h1⟩:=us_s h0;obtain⟨u2,r2,rfl,h2⟩:=us_s h1;obtain⟨u3,r3,rfl,h3⟩:=us_s h2;obtain rfl:=qO h3;exact h _ _ _ _ _ _ _ _ _ _
theorem bo0{n:Str}{st:Stmt}(h:∀(kV doc pm:Value) (an:Option Addr) (cdv ct:Value),bindArgs (fnOf n n (qbE st) (qbq st) (qai st) .none kV doc pm an cdv ct) ⟨[],[]⟩=pure []):Bo n st []:=λkV doc pm an cdv ct us hl=>by
 obtain rfl:=qO hl;exact h _ _ _ _ _ _
theorem fx_mk{P:Program}{w:World}{K:Frag}{mg:Str->Option Value}{base h:Heap}(X:K.In h)(G:h.Ns mainGlobals mg){n:Str}{st:Stmt}{f:Addr}{fd:FuncData}{CX:CXT}{k:Nat}{ps:List Str}{sp:Sp}(A:At K n st f fd)(o:FnOk P w K mg base CX k f fd ps sp)(b:Bo n st ps:=by first | exact bo0 (by intros;rfl) | exact bo1 (by intros;rfl) | exact bo2 (by intros;rfl) | exact bo3 (by intros;rfl) | exact bo4 (by intros;rfl)):Fx P w K mg base CX k n ps sp:=⟨_,_,o,A.f.binds b,A.f.kp,mg_of X G A.a⟩
theorem all_mk{l:OpenLaw}{w:World}{K:Frag}{h:Heap}{mg:Str->Option Value}{fa f1 f2 f3 f4 f5 f6 f7 f8 f9 f10 f11 f12 f13 f14 f15 f16 f17 f18 f19 f20 f21 f22 f23 f24 f25 f26 f27 f28 f29 f30 f31 f32 f33 f34 f35 f36 f37 f38 f39 f40 f41 f42 f43 f44 f45 f46 f47 f48 f49 f50 f51 f52 f53 f54 f55 f56 f57 f58 CN:Addr}{d1 d2 d3 d4 d5 d6 d7 d8 d9 d10 d11 d12 d13 d14 d15 d16 d17 d18 d19 d20 d21 d22 d23 d24 d25 d26 d27 d28 d29 d30 d31 d32 d33 d34 d35 d36 d37 d38 d39 d40 d41 d42 d43 d44 d45 d46 d47 d48 d49 d50 d51 d52 d53 d54 d55 d56 d57 d58:FuncData}(X:K.In h)(G:h.Ns mainGlobals mg)(hfa:mg "law" = some (.ref fa)){t_ELDER t_KIND t_NAME t_MARKS t_STUFF t_SORT t_THING t_TONE t_MOST_WORD_SIGNS t_MOST_NAME_SIGNS t_MOST_NODES t_MOST_MARKS t_MOST_PIECES t_GREATEST_LEVEL t_GREATEST_TONE t_GREATEST_PICTURE t_LEVEL t_MOST_SIDE_FIGURES t_BEHIND_ALL_ROWS:Tok}{q_KINDS q_KINDS_OF_PIECES q_MAY q_m_body q_m_case q_m_shelf q_m_grid q_m_text q_m_head q_m_picture q_m_aside q_m_note:Addr}{tk_KINDS_0 tk_KINDS_1 tk_KINDS_2 tk_KINDS_3 tk_KINDS_4 tk_KINDS_5 tk_KINDS_6 tk_KINDS_7 tk_KINDS_8 tk_KINDS_OF_PIECES_0 tk_KINDS_OF_PIECES_1 tk_KINDS_OF_PIECES_2 tk_key_body tk_key_case tk_key_shelf tk_key_grid tk_key_text tk_key_head tk_key_picture tk_key_aside tk_key_note tk_m_body_0 tk_m_body_1 tk_m_body_2 tk_m_body_3 tk_m_body_4 tk_m_body_5 tk_m_body_6 tk_m_case_0 tk_m_case_1 tk_m_case_2 tk_m_case_3 tk_m_case_4 tk_m_case_5 tk_m_case_6 tk_m_shelf_0 tk_m_shelf_1 tk_m_shelf_2 tk_m_shelf_3 tk_m_shelf_4 tk_m_grid_0 tk_m_grid_1 tk_m_grid_2 tk_m_grid_3 tk_m_grid_4 tk_m_text_0 tk_m_head_0 tk_m_aside_0 tk_m_aside_1 tk_m_aside_2 tk_m_aside_3 tk_m_aside_4 tk_m_aside_5 tt_SMALL_LETTERS tt_GREAT_LETTERS tt_FIGURES tt_WORD_POINTS:Tok}{n_KINDS_ n_KINDS_OF_PIECES_ n_MAY n_m_body_ n_m_case_ n_m_shelf_ n_m_grid_ n_m_text_ n_m_head_ n_m_picture_ n_m_aside_ n_m_note_:Nat}{od_KINDS od_KINDS_OF_PIECES od_m_body od_m_case od_m_shelf od_m_grid od_m_text od_m_head od_m_picture od_m_aside od_m_note:Option Addr}{sl_KINDS sl_KINDS_OF_PIECES sl_m_body sl_m_case sl_m_shelf sl_m_grid sl_m_text sl_m_head sl_m_picture sl_m_aside sl_m_note:Array (Option Value)}(A1:At K "is_whole" sIsWhole f1 d1)(A2:At K "is_word_sign" sIsWordSign f2 d2)(A3:At K "is_word" sIsWord f3 d3)(A4:At K "is_name" sIsName f4 d4)(A5:At K "is_stuff" sIsStuff f5 d5)(A6:At K "are_pieces" sArePieces f6 d6)(A7:At K "is_piece" sIsPiece f7 d7)(A8:At K "elders_of" sElders f8 d8)(A9:At K "may_hold" sMayHold f9 d9)(A10:At K "note_numbers" sNoteNumbers f10 d10)(A11:At K "holds" sHolds f11 d11)(A12:At K "bare_body" sBareBody f12 d12)(A13:At K "bare_stuff" sBareStuff f13 d13)(A14:At K "mended_level" sMendLevel f14 d14)(A15:At K "open_nodes" sOpen f15 d15)(A16:At K "mended_name" sMendName f16 d16)(A17:At K "mended_marks" sMendMarks f17 d17)(A18:At K "mended_pieces" sMendPieces f18 d18)(A19:At K "notes_at_beginning" sNotesBeg f19 d19)(A20:At K "lacks_notes" sLacks f20 d20)(A21:At K "mended_notes" sMendNotes f21 d21)(A22:At K "numbered_pieces" sNumbered f22 d22)(A23:At K "without_nodes" sWithout f23 d23)(A24:At K "wants_case" sWants f24 d24)(A25:At K "next_kind" sNextKind f25 d25)(A26:At K "mended_kinds" sMendKinds f26 d26)(A27:At K "row_parts" sRowParts f27 d27)(A28:At K "has_stuff" sHasStuff f28 d28)(A29:At K "are_labels" sAreLabels f29 d29)(A30:At K "is_label" sIsLabel f30 d30)(A31:At K "name_label" sNameLabel f31 d31)(A32:At K "mark_labels" sMarkLabels f32 d32)(A33:At K "read_stuff" sReadStuff f33 d33)(A34:At K "read_side" sReadSide f34 d34)(A35:At K "read_piece" sReadPiece f35 d35)(A36:At K "read_book" sReadBook f36 d36)(A37:At K "read_row" sReadRow f37 d37)(A38:At K "first_nodes" sFirst f38 d38)(A39:At K "later_nodes" sLater f39 d39)(A40:At K "level_words" sLevelWords f40 d40)(A41:At K "made_node" sMadeNode f41 d41)(A42:At K "finished_book" sFinished f42 d42)(A43:At K "_law_stream" sStream f43 d43)(A44:At K "_law_take" sTake f44 d44)(A45:At K "_law_pieces" sPiecesD f45 d45)(A46:At K "_law_drawn" sDrawn f46 d46)(A47:At K "_law_sign" sSign f47 d47)(A48:At K "_law_written" sWritten f48 d48)(A49:At K "_law_may" sMayL f49 d49)(A50:At K "_law_elder" sElderL f50 d50)(A51:At K "_law_place" sPlaceL f51 d51)(A52:At K "_law_kept" sKeptL f52 d52)(A53:At K "_law_row" sRowL f53 d53)(A54:At K "_law_notes" sNotesL f54 d54)(A55:At K "_law_behind" sBehindL f55 d55)(A56:At K "_law_cases" sCasesL f56 d56)(A57:At K "_law_due" sDue f57 d57)(A58:At K "law" sLaw f58 d58)(c_CN:nsIn K mainGlobals "NoNode" = some (some (.ref CN)))(xcN:excIn K CN [.type "ValueError",.type "Exception",.type "BaseException",.type "object"] "ValueError.__new__" = true)(x_KINDS:nsIn K mainGlobals "KINDS" = some (some (.ref q_KINDS)))(l_KINDS:K.lookup q_KINDS=some ⟨.type "tuple",od_KINDS,.seq #[.str (Str.ofString "body") tk_KINDS_0,.str (Str.ofString "case") tk_KINDS_1,.str (Str.ofString "shelf") tk_KINDS_2,.str (Str.ofString "grid") tk_KINDS_3,.str (Str.ofString "text") tk_KINDS_4,.str (Str.ofString "head") tk_KINDS_5,.str (Str.ofString "picture") tk_KINDS_6,.str (Str.ofString "aside") tk_KINDS_7,.str (Str.ofString "note") tk_KINDS_8] n_KINDS_,sl_KINDS⟩)(x_KINDS_OF_PIECES:nsIn K mainGlobals "KINDS_OF_PIECES" = some (some (.ref q_KINDS_OF_PIECES)))(l_KINDS_OF_PIECES:K.lookup q_KINDS_OF_PIECES=some ⟨.type "tuple",od_KINDS_OF_PIECES,.seq #[.str (Str.ofString "text") tk_KINDS_OF_PIECES_0,.str (Str.ofString "head") tk_KINDS_OF_PIECES_1,.str (Str.ofString "note") tk_KINDS_OF_PIECES_2] n_KINDS_OF_PIECES_,sl_KINDS_OF_PIECES⟩)(x_MAY:nsIn K mainGlobals "MAY_HOLD" = some (some (.ref q_MAY)))(l_MAY:K.lookup q_MAY=some ⟨.type "dict",none,.dict #[⟨PyData.keyHash w.params (Str.ofString "body"),.str (Str.ofString "body") tk_key_body,.ref q_m_body⟩,⟨PyData.keyHash w.params (Str.ofString "case"),.str (Str.ofString "case") tk_key_case,.ref q_m_case⟩,⟨PyData.keyHash w.params (Str.ofString "shelf"),.str (Str.ofString "shelf") tk_key_shelf,.ref q_m_shelf⟩,⟨PyData.keyHash w.params (Str.ofString "grid"),.str (Str.ofString "grid") tk_key_grid,.ref q_m_grid⟩,⟨PyData.keyHash w.params (Str.ofString "text"),.str (Str.ofString "text") tk_key_text,.ref q_m_text⟩,⟨PyData.keyHash w.params (Str.ofString "head"),.str (Str.ofString "head") tk_key_head,.ref q_m_head⟩,⟨PyData.keyHash w.params (Str.ofString "picture"),.str (Str.ofString "picture") tk_key_picture,.ref q_m_picture⟩,⟨PyData.keyHash w.params (Str.ofString "aside"),.str (Str.ofString "aside") tk_key_aside,.ref q_m_aside⟩,⟨PyData.keyHash w.params (Str.ofString "note"),.str (Str.ofString "note") tk_key_note,.ref q_m_note⟩] n_MAY,#[]⟩)(l_m_body:K.lookup q_m_body=some ⟨.type "tuple",od_m_body,.seq #[.str (Str.ofString "case") tk_m_body_0,.str (Str.ofString "shelf") tk_m_body_1,.str (Str.ofString "grid") tk_m_body_2,.str (Str.ofString "text") tk_m_body_3,.str (Str.ofString "head") tk_m_body_4,.str (Str.ofString "picture") tk_m_body_5,.str (Str.ofString "aside") tk_m_body_6] n_m_body_,sl_m_body⟩)(l_m_case:K.lookup q_m_case=some ⟨.type "tuple",od_m_case,.seq #[.str (Str.ofString "case") tk_m_case_0,.str (Str.ofString "shelf") tk_m_case_1,.str (Str.ofString "grid") tk_m_case_2,.str (Str.ofString "text") tk_m_case_3,.str (Str.ofString "head") tk_m_case_4,.str (Str.ofString "picture") tk_m_case_5,.str (Str.ofString "aside") tk_m_case_6] n_m_case_,sl_m_case⟩)(l_m_shelf:K.lookup q_m_shelf=some ⟨.type "tuple",od_m_shelf,.seq #[.str (Str.ofString "case") tk_m_shelf_0,.str (Str.ofString "shelf") tk_m_shelf_1,.str (Str.ofString "grid") tk_m_shelf_2,.str (Str.ofString "text") tk_m_shelf_3,.str (Str.ofString "picture") tk_m_shelf_4] n_m_shelf_,sl_m_shelf⟩)(l_m_grid:K.lookup q_m_grid=some ⟨.type "tuple",od_m_grid,.seq #[.str (Str.ofString "case") tk_m_grid_0,.str (Str.ofString "shelf") tk_m_grid_1,.str (Str.ofString "grid") tk_m_grid_2,.str (Str.ofString "text") tk_m_grid_3,.str (Str.ofString "picture") tk_m_grid_4] n_m_grid_,sl_m_grid⟩)(l_m_text:K.lookup q_m_text=some ⟨.type "tuple",od_m_text,.seq #[.str (Str.ofString "note") tk_m_text_0] n_m_text_,sl_m_text⟩)(l_m_head:K.lookup q_m_head=some ⟨.type "tuple",od_m_head,.seq #[.str (Str.ofString "note") tk_m_head_0] n_m_head_,sl_m_head⟩)(l_m_picture:K.lookup q_m_picture=some ⟨.type "tuple",od_m_picture,.seq #[] n_m_picture_,sl_m_picture⟩)(l_m_aside:K.lookup q_m_aside=some ⟨.type "tuple",od_m_aside,.seq #[.str (Str.ofString "case") tk_m_aside_0,.str (Str.ofString "shelf") tk_m_aside_1,.str (Str.ofString "grid") tk_m_aside_2,.str (Str.ofString "text") tk_m_aside_3,.str (Str.ofString "head") tk_m_aside_4,.str (Str.ofString "picture") tk_m_aside_5] n_m_aside_,sl_m_aside⟩)(l_m_note:K.lookup q_m_note=some ⟨.type "tuple",od_m_note,.seq #[] n_m_note_,sl_m_note⟩)(g_SMALL_LETTERS:nsIn K mainGlobals "SMALL_LETTERS" = some (some (.str (Str.ofString "abcdefghijklmnopqrstuvwxyz") tt_SMALL_LETTERS)))(g_GREAT_LETTERS:nsIn K mainGlobals "GREAT_LETTERS" = some (some (.str (Str.ofString "ABCDEFGHIJKLMNOPQRSTUVWXYZ") tt_GREAT_LETTERS)))(g_FIGURES:nsIn K mainGlobals "FIGURES" = some (some (.str (Str.ofString "0123456789") tt_FIGURES)))(g_WORD_POINTS:nsIn K mainGlobals "WORD_POINTS" = some (some (.str (Str.ofString ".,-;:'()!?") tt_WORD_POINTS)))(n_isinstance:nsIn K mainGlobals "isinstance" = some none)(n_len:nsIn K mainGlobals "len" = some none)(n_range:nsIn K mainGlobals "range" = some none)(n_sorted:nsIn K mainGlobals "sorted" = some none)(n_int:nsIn K mainGlobals "int" = some none)(n_bool:nsIn K mainGlobals "bool" = some none)(n_list:nsIn K mainGlobals "list" = some none)(n_tuple:nsIn K mainGlobals "tuple" = some none)(n_str:nsIn K mainGlobals "str" = some none)(n_set:nsIn K mainGlobals "set" = some none)(n_enumerate:nsIn K mainGlobals "enumerate" = some none)(n_all:nsIn K mainGlobals "all" = some none)(n_ValueError:nsIn K mainGlobals "ValueError" = some none)(n_min:nsIn K mainGlobals "min" = some none)(n_max:nsIn K mainGlobals "max" = some none)(n_reversed:nsIn K mainGlobals "reversed" = some none)(i_ELDER:nsIn K mainGlobals "ELDER" = some (some (.int 0 t_ELDER)))(i_KIND:nsIn K mainGlobals "KIND" = some (some (.int 1 t_KIND)))(i_NAME:nsIn K mainGlobals "NAME" = some (some (.int 2 t_NAME)))(i_MARKS:nsIn K mainGlobals "MARKS" = some (some (.int 3 t_MARKS)))(i_STUFF:nsIn K mainGlobals "STUFF" = some (some (.int 4 t_STUFF)))(i_SORT:nsIn K mainGlobals "SORT" = some (some (.int 0 t_SORT)))(i_THING:nsIn K mainGlobals "THING" = some (some (.int 1 t_THING)))(i_TONE:nsIn K mainGlobals "TONE" = some (some (.int 2 t_TONE)))(i_MOST_WORD_SIGNS:nsIn K mainGlobals "MOST_WORD_SIGNS" = some (some (.int 20 t_MOST_WORD_SIGNS)))(i_MOST_NAME_SIGNS:nsIn K mainGlobals "MOST_NAME_SIGNS" = some (some (.int 8 t_MOST_NAME_SIGNS)))(i_MOST_NODES:nsIn K mainGlobals "MOST_NODES" = some (some (.int 60 t_MOST_NODES)))(i_MOST_MARKS:nsIn K mainGlobals "MOST_MARKS" = some (some (.int 4 t_MOST_MARKS)))(i_MOST_PIECES:nsIn K mainGlobals "MOST_PIECES" = some (some (.int 60 t_MOST_PIECES)))(i_GREATEST_LEVEL:nsIn K mainGlobals "GREATEST_LEVEL" = some (some (.int 6 t_GREATEST_LEVEL)))(i_GREATEST_TONE:nsIn K mainGlobals "GREATEST_TONE" = some (some (.int 3 t_GREATEST_TONE)))(i_GREATEST_PICTURE:nsIn K mainGlobals "GREATEST_PICTURE" = some (some (.int 2000 t_GREATEST_PICTURE)))(i_LEVEL:nsIn K mainGlobals "LEVEL" = some (some (.int 0 t_LEVEL)))(i_MOST_SIDE_FIGURES:nsIn K mainGlobals "MOST_SIDE_FIGURES" = some (some (.int 4 t_MOST_SIDE_FIGURES)))(i_BEHIND_ALL_ROWS:nsIn K mainGlobals "BEHIND_ALL_ROWS" = some (some (.int (-1) t_BEHIND_ALL_ROWS))): ∃fd:FuncData,(∀(s:Shared) (v:Value),BindsTo s fd ⟨[v],[]⟩ [("_law_script",v)])/\∀base:Heap,K.In base->base.Ns mainGlobals mg->FnOk l.prog w K mg base CX0 10 fa fd ["_law_script"] (qhW K):=by
 have e0:=hfa.symm.trans (mg_of X G A58.a);cases e0;have m_CN:=mg_of X G c_CN;have z_isinstance:=xZ X G n_isinstance;have z_len:=xZ X G n_len;have z_range:=xZ X G n_range;have z_sorted:=xZ X G n_sorted;have z_int:=xZ X G n_int;have z_bool:=xZ X G n_bool;have z_list:=xZ X G n_list;have z_tuple:=xZ X G n_tuple;have z_str:=xZ X G n_str;have z_set:=xZ X G n_set;have z_enumerate:=xZ X G n_enumerate;have z_all:=xZ X G n_all;have z_ValueError:=xZ X G n_ValueError;have z_min:=xZ X G n_min;have z_max:=xZ X G n_max;have z_reversed:=xZ X G n_reversed;have j_ELDER:=mg_of X G i_ELDER;have j_KIND:=mg_of X G i_KIND;have j_NAME:=mg_of X G i_NAME;have j_MARKS:=mg_of X G i_MARKS;have j_STUFF:=mg_of X G i_STUFF;have j_SORT:=mg_of X G i_SORT;have j_THING:=mg_of X G i_THING;have j_TONE:=mg_of X G i_TONE;have j_MOST_WORD_SIGNS:=mg_of X G i_MOST_WORD_SIGNS;have j_MOST_NAME_SIGNS:=mg_of X G i_MOST_NAME_SIGNS;have j_MOST_NODES:=mg_of X G i_MOST_NODES;have j_MOST_MARKS:=mg_of X G i_MOST_MARKS;have j_MOST_PIECES:=mg_of X G i_MOST_PIECES;have j_GREATEST_LEVEL:=mg_of X G i_GREATEST_LEVEL;have j_GREATEST_TONE:=mg_of X G i_GREATEST_TONE;have j_GREATEST_PICTURE:=mg_of X G i_GREATEST_PICTURE;have j_LEVEL:=mg_of X G i_LEVEL;have j_MOST_SIDE_FIGURES:=mg_of X G i_MOST_SIDE_FIGURES;have j_BEHIND_ALL_ROWS:=mg_of X G i_BEHIND_ALL_ROWS;have T:Bn mg:=⟨z_isinstance,z_len,z_range,z_sorted,z_int,z_bool,z_list,z_tuple,z_str,z_set,z_enumerate,z_all,z_ValueError⟩;have U:Nums mg:=⟨⟨_,j_ELDER⟩,⟨_,j_KIND⟩,⟨_,j_NAME⟩,⟨_,j_MARKS⟩,⟨_,j_STUFF⟩,⟨_,j_SORT⟩,⟨_,j_THING⟩,⟨_,j_TONE⟩⟩;have GL:Glob mg:=⟨⟨_,mg_of X G g_SMALL_LETTERS⟩,⟨_,mg_of X G g_GREAT_LETTERS⟩,⟨_,mg_of X G g_FIGURES⟩,⟨_,mg_of X G g_WORD_POINTS⟩,⟨_,j_MOST_WORD_SIGNS⟩,⟨_,j_MOST_NAME_SIGNS⟩,⟨_,j_MOST_NODES⟩,⟨_,j_MOST_MARKS⟩,⟨_,j_MOST_PIECES⟩,⟨_,j_GREATEST_LEVEL⟩,⟨_,j_GREATEST_TONE⟩,⟨_,j_GREATEST_PICTURE⟩⟩;have kt_KINDS:KTup K q_KINDS [.body,.case,.shelf,.grid,.text,.head,.picture,.aside,.note]:=λH=>qb7 (ks:=[.body,.case,.shelf,.grid,.text,.head,.picture,.aside,.note]) l_KINDS (by show 9<=sizeLine;decide) (.cons ⟨_,rfl⟩ ( .cons ⟨_,rfl⟩ ( .cons ⟨_,rfl⟩ ( .cons ⟨_,rfl⟩ ( .cons ⟨_,rfl⟩ ( .cons ⟨_,rfl⟩ ( .cons ⟨_,rfl⟩ ( .cons ⟨_,rfl⟩ ( .cons ⟨_,rfl⟩ (.nil))))))))))
 have mg_KINDS:=mg_of X G x_KINDS;have kt_KINDS_OF_PIECES:KTup K q_KINDS_OF_PIECES [.text,.head,.note]:=λH=>qb7 (ks:=[.text,.head,.note]) l_KINDS_OF_PIECES (by show 3<=sizeLine;decide) (.cons ⟨_,rfl⟩ ( .cons ⟨_,rfl⟩ ( .cons ⟨_,rfl⟩ (.nil))))
 have mg_KINDS_OF_PIECES:=mg_of X G x_KINDS_OF_PIECES;have kt_m_body:KTup K q_m_body [.case,.shelf,.grid,.text,.head,.picture,.aside]:=λH=>qb7 (ks:=[.case,.shelf,.grid,.text,.head,.picture,.aside]) l_m_body (by show 7<=sizeLine;decide) (.cons ⟨_,rfl⟩ ( .cons ⟨_,rfl⟩ ( .cons ⟨_,rfl⟩ ( .cons ⟨_,rfl⟩ ( .cons ⟨_,rfl⟩ ( .cons ⟨_,rfl⟩ ( .cons ⟨_,rfl⟩ (.nil))))))))
 have kt_m_case:KTup K q_m_case [.case,.shelf,.grid,.text,.head,.picture,.aside]:=λH=>qb7 (ks:=[.case,.shelf,.grid,.text,.head,.picture,.aside]) l_m_case (by show 7<=sizeLine;decide) (.cons ⟨_,rfl⟩ ( .cons ⟨_,rfl⟩ ( .cons ⟨_,rfl⟩ ( .cons ⟨_,rfl⟩ ( .cons ⟨_,rfl⟩ ( .cons ⟨_,rfl⟩ ( .cons ⟨_,rfl⟩ (.nil))))))))
 have kt_m_shelf:KTup K q_m_shelf [.case,.shelf,.grid,.text,.picture]:=λH=>qb7 (ks:=[.case,.shelf,.grid,.text,.picture]) l_m_shelf (by show 5<=sizeLine;decide) (.cons ⟨_,rfl⟩ ( .cons ⟨_,rfl⟩ ( .cons ⟨_,rfl⟩ ( .cons ⟨_,rfl⟩ ( .cons ⟨_,rfl⟩ (.nil))))))
 have kt_m_grid:KTup K q_m_grid [.case,.shelf,.grid,.text,.picture]:=λH=>qb7 (ks:=[.case,.shelf,.grid,.text,.picture]) l_m_grid (by show 5<=sizeLine;decide) (.cons ⟨_,rfl⟩ ( .cons ⟨_,rfl⟩ ( .cons ⟨_,rfl⟩ ( .cons ⟨_,rfl⟩ ( .cons ⟨_,rfl⟩ (.nil))))))
 have kt_m_text:KTup K q_m_text [.note]:=λH=>qb7 (ks:=[.note]) l_m_text (by show 1<=sizeLine;decide) (.cons ⟨_,rfl⟩ (.nil))
 have kt_m_head:KTup K q_m_head [.note]:=λH=>qb7 (ks:=[.note]) l_m_head (by show 1<=sizeLine;decide) (.cons ⟨_,rfl⟩ (.nil))
 have kt_m_picture:KTup K q_m_picture []:=λH=>qb7 (ks:=[]) l_m_picture (by show 0<=sizeLine;decide) (.nil)
 have kt_m_aside:KTup K q_m_aside [.case,.shelf,.grid,.text,.head,.picture]:=λH=>qb7 (ks:=[.case,.shelf,.grid,.text,.head,.picture]) l_m_aside (by show 6<=sizeLine;decide) (.cons ⟨_,rfl⟩ ( .cons ⟨_,rfl⟩ ( .cons ⟨_,rfl⟩ ( .cons ⟨_,rfl⟩ ( .cons ⟨_,rfl⟩ ( .cons ⟨_,rfl⟩ (.nil)))))))
 have kt_m_note:KTup K q_m_note []:=λH=>qb7 (ks:=[]) l_m_note (by show 0<=sizeLine;decide) (.nil)
 have mg_MAY:=mg_of X G x_MAY;have MD:MayX l.prog w K q_MAY:=by
  refine⟨[(.inr Kd.body.s,.ref q_m_body),(.inr Kd.case.s,.ref q_m_case),(.inr Kd.shelf.s,.ref q_m_shelf),(.inr Kd.grid.s,.ref q_m_grid),(.inr Kd.text.s,.ref q_m_text),(.inr Kd.head.s,.ref q_m_head),(.inr Kd.picture.s,.ref q_m_picture),(.inr Kd.aside.s,.ref q_m_aside),(.inr Kd.note.s,.ref q_m_note)],⟨_,_,_,l_MAY,⟨rfl,rfl,rfl⟩,rfl,λe he=>keys9 he,(.cons (qaT _ _ _ _) rfl ( .cons (qaT _ _ _ _) rfl ( .cons (qaT _ _ _ _) rfl ( .cons (qaT _ _ _ _) rfl ( .cons (qaT _ _ _ _) rfl ( .cons (qaT _ _ _ _) rfl ( .cons (qaT _ _ _ _) rfl ( .cons (qaT _ _ _ _) rfl ( .cons (qaT _ _ _ _) rfl (.nil)))))))))),(by show([.inr Kd.body.s,.inr Kd.case.s,.inr Kd.shelf.s,.inr Kd.grid.s,.inr Kd.text.s,.inr Kd.head.s,.inr Kd.picture.s,.inr Kd.aside.s,.inr Kd.note.s]:List Key).Nodup;ac_rfl)⟩,λe he=>?_⟩;have he':e=.body\/e=.case\/e=.shelf\/e=.grid\/e=.text\/e=.head\/e=.picture\/e=.aside\/e=.note:=by simpa[kindsAll]using he
  rcases he' with rfl | rfl | rfl | rfl | rfl | rfl | rfl | rfl | rfl
  ·exact⟨q_m_body,_,by(repeat (first | exact qcr | rw[qb1 (by ac_rfl)])),kt_m_body,λk=>by cases k<;>rfl⟩
  ·exact⟨q_m_case,_,by(repeat (first | exact qcr | rw[qb1 (by ac_rfl)])),kt_m_case,λk=>by cases k<;>rfl⟩
  ·exact⟨q_m_shelf,_,by(repeat (first | exact qcr | rw[qb1 (by ac_rfl)])),kt_m_shelf,λk=>by cases k<;>rfl⟩
  ·exact⟨q_m_grid,_,by(repeat (first | exact qcr | rw[qb1 (by ac_rfl)])),kt_m_grid,λk=>by cases k<;>rfl⟩
  ·exact⟨q_m_text,_,by(repeat (first | exact qcr | rw[qb1 (by ac_rfl)])),kt_m_text,λk=>by cases k<;>rfl⟩
  ·exact⟨q_m_head,_,by(repeat (first | exact qcr | rw[qb1 (by ac_rfl)])),kt_m_head,λk=>by cases k<;>rfl⟩
  ·exact⟨q_m_picture,_,by(repeat (first | exact qcr | rw[qb1 (by ac_rfl)])),kt_m_picture,λk=>by cases k<;>rfl⟩
  ·exact⟨q_m_aside,_,by(repeat (first | exact qcr | rw[qb1 (by ac_rfl)])),kt_m_aside,λk=>by cases k<;>rfl⟩
  ·exact⟨q_m_note,_,by(repeat (first | exact qcr | rw[qb1 (by ac_rfl)])),kt_m_note,λk=>by cases k<;>rfl⟩
 have TZ:BnZ mg:=⟨T,z_min,z_max,z_reversed⟩;obtain⟨_,_,_,_,_,_,_,_,_,e,_⟩:=A58.f.ex;refine⟨d58,λs v=>by rw[e];exact .of_eq rfl,λbase KB GB=>?_⟩;have fx:=@fx_mk l.prog w K mg base h X G;have ON:=own_at KB GB c_CN xcN;have x43:=fx A43 (ok_stream A43.f T);have x44:=fx A44 (ok_take A44.f);have x45:=fx A45 (ok_pieces A45.f T x44);have x46:=fx A46 (ok_drawn A46.f T x44 x45);have x47:=fx A47 (ok_sign A47.f);have x48:=fx A48 (ok_written A48.f T x47);have x4:=fx A4 (ok_is_name A4.f T GL);have x30:=fx A30 (ok_is_label A30.f x4);have x29:=fx A29 (ok_are_labels A29.f T x30);have x28:=fx A28 (ok_has_stuff A28.f mg_KINDS_OF_PIECES kt_KINDS_OF_PIECES);have x34:=fx A34 (ok_read_side A34.f T GL ⟨_,j_MOST_SIDE_FIGURES⟩);have x1:=fx A1 (ok_is_whole A1.f T);have x2:=fx A2 (ok_is_word_sign A2.f GL);have x3:=fx A3 (ok_is_word A3.f T GL x2);have x7:=fx A7 (ok_is_piece A7.f T GL U x1 x3 x4);have x6:=fx A6 (ok_are_pieces A6.f T GL U x7);have x5:=fx A5 (ok_is_stuff A5.f T GL mg_KINDS_OF_PIECES kt_KINDS_OF_PIECES x1 x6);have x35:=fx A35 (ok_read_piece A35.f T x7);have x33:=fx A33 (ok_read_stuff A33.f T x34 x5 x35 x28);have x31:=fx A31 (ok_name_label A31.f T x30);have x32:=fx A32 (ok_mark_labels A32.f x30);have x27:=fx A27 (ok_row_parts A27.f T mg_KINDS kt_KINDS x29 x28 x33 x31 x32);have x8:=fx A8 (ok_elders_of A8.f U.elder);have x15:=fx A15 (ok_open_nodes A15.f TZ x8);have x9:=fx A9 (ok_may_hold A9.f mg_MAY MD);have x14:=fx A14 (ok_mended_level A14.f TZ GL U x15 x9);have x16:=fx A16 (ok_mended_name A16.f U);have x17:=fx A17 (ok_mended_marks A17.f T GL);have x19:=fx A19 (ok_notes_at_beginning A19.f T U);have x18:=fx A18 (ok_mended_pieces A18.f GL U x19);have x13:=fx A13 (ok_bare_stuff A13.f);have x41:=fx A41 (ok_made_node A41.f T U mg_KINDS_OF_PIECES kt_KINDS_OF_PIECES x16 x17 x18 x13);have x40:=fx A40 (ok_level_words A40.f ⟨_,j_LEVEL⟩);have x39:=fx A39 (ok_later_nodes A39.f U ⟨_,j_LEVEL⟩ x14 x15 x41 x40);have x12:=fx A12 (ok_bare_body A12.f);have x38:=fx A38 (ok_first_nodes A38.f U x39 x12 x41 x40);have x37:=fx A37 (ok_read_row A37.f T GL U ⟨_,j_LEVEL⟩ x27 x38 x39);have x10:=fx A10 (ok_note_numbers A10.f U);have x11:=fx A11 (ok_holds A11.d T ⟨_,j_ELDER⟩ ON PySem.F.excBase_ValueError);have x20:=fx A20 (ok_lacks_notes A20.f T U x9 x10 x11);have x22:=fx A22 (ok_numbered_pieces A22.f T GL U);have x23:=fx A23 (ok_without_nodes A23.f T U);have x21:=fx A21 (ok_mended_notes A21.f T U x9 x11 x22 x10 x23);have x25:=fx A25 (ok_next_kind A25.f T U x11);have x24:=fx A24 (ok_wants_case A24.f T U x11 x25);have x26:=fx A26 (ok_mended_kinds A26.f T U x24);have x42:=fx A42 (ok_finished_book A42.f T x12 x20 x21 x24 x26 x11 x13);have x36:=fx A36 (ok_read_book A36.f T ⟨_,j_BEHIND_ALL_ROWS⟩ x37 x42);have x50:=fx A50 (ok_elder A50.f T);have x49:=fx A49 (ok_may A49.f);have x51:=fx A51 (ok_place A51.f TZ x50 x49);have x52:=fx A52 (ok_kept A52.f T);have x53:=fx A53 (ok_row A53.f T x51 x52);have x54:=fx A54 (ok_notes A54.f T);have x55:=fx A55 (ok_behind A55.f T);have x56:=fx A56 (ok_cases A56.f T x55);have x57:=fx A57 (ok_due A57.f T x53 x54 x56);exact ok_law A58.f T x43 x44 x46 x48 x36 x57
theorem walk{l:OpenLaw}{q:Program}{loose:List Str}{XP:(Str->Option Value)->Heap->Prop}{YP:World->Heap->Prop}{d:DefRec}{K:Params->Frag}(hn:l.most=some 63)(hdf:d.params.defaults=[])(hY:∀(w:World) (h:Heap),YP w h->(K w.params).In h)(F:∀(w:World) (mg:Str->Option Value) (fa:Addr) (h:Heap),(K w.params).In h->h.Ns mainGlobals mg->mg d.name=some (.ref fa) ->
   ∃fd:FuncData,(∀(s:Shared) (u:Value),BindsTo s fd ⟨[u],[]⟩ [("_law_script",u)])/\∀base:Heap,(K w.params).In base->base.Ns mainGlobals mg->FnOk l.prog w (K w.params) mg base CX0 10 fa fd ["_law_script"] (qhW (K w.params))) :
  WalkO q loose XP YP l.row.toRowW d [] (λf vs=>PySem.call f vs) :=
 L2.walk_of (n:=63) (k:=10) (x := "_law_script") (CX:=λ_=>CX0) (sp:=λw=>qhW (K w.params)) hn (by decide) hdf ⟨rfl,by decide,by decide⟩ hY F (λ_ _ a ns hl _ hS=>⟨a,ns,rfl,hS,hl,λ_=>rfl⟩) λ_ _ _ _ _ z=>z
end K09
namespace PySem.W.Fast
theorem te9950195448241725601:True:=trivial
def tw9950195448241725601:Unit:=()
def tw1432490310220516102:PySem.Program:=PySem.Challenge.pw_leafpress_k09_rows_hung_and_mended
theorem te1432490310220516102:PySem.Challenge.pw_leafpress_k09_rows_hung_and_mended=tw1432490310220516102:=rfl
def tw14622929092778723926:=()
def tw17369082378131856732:=()
def tw14991779662991637368:=()
def tw9032243552905388412:=()
def tw15005518266808246137:=()
def tw7854338628574592372:=()
def tw14002332945505565531:=()
def tw5632830853396053273:=()
def tw4266935745636857846:=()
def tw9070349353019781372:=()
def tw13383240423681872245:=()
def tw1460916499662416017:=()
def tw17486595202184769802:=()
def tw771739566862037511:=()
def tw3113718808616010562:=()
def tw1750035585891337655:=()
def tw5215060256051074706:=()
def tw1325543323982915811:=()
def tw14696491615283503812:=()
def tw11118935275918701315:=()
def tw6064550392525760120:=()
def tw11604818310976398314:=()
def tw16191666041232590051:=()
def tw3545881170407102769:=()
def tw2999731605179049520:=()
def tw4646044189391090775:=()
def tw14638646444506162898:=()
def tw251885868030094960:=()
def tw15062971942998694361:=()
def tw4140045677055795753:=()
def tw4885369064098013136:=()
def tw6868383537702772906:=()
def tw1166765753390550907:=()
def tw4417811225996743487:=()
def tw8753070212949924881:=()
def tw9255592489251678053:=()
def tw6748126814647159334:=()
def tw14602879941147129492:=()
def tw14944607363534311317:=()
def tw8955096812840845635:=()
def tw13298245632684609950:=()
def tw16537009473169947655:=()
def tw3169582477404924024:=()
def tw6869277730977566460:=()
def tw889582438786559390:=()
def tw13034645530754613247:=()
def tw10417916963400041440:=()
def tw3389795036856530450:=()
def tw5758988277230738487:=()
def tw9346430845137481170:=()
def tw4396678472808399698:=()
def tw9283868568762391132:=()
def tw2283788894600041713:=()
def tw2974339764378664462:=()
def tw11357247315409272748:=()
def tw10863674011717170293:=()
def tw8976408785901488607:=()
def tw16818496115085634195:=()
def tw17564267225764513269:=()
def tw3364400399968836213:=()
def tw11502959979749649412:=()
def tw14354846477529163511:=()
def tw2741095648242981751:=()
def tw10115523513023623393:=()
def tw15469477560855493299:=()
def tw11672344479357349431:=()
def tw6273101494922544999:=()
def tw3644288133575986764:=()
def tw7828799966160375461:=()
def tw7249805425341408499:=()
def tw14769024530185673519:=()
def tw3623111923013713183:=()
def tw10204127228978220261:=()
def tw4828469442292735916:=()
def tw2721877947776985063:=()
def tw3247760100301717162:=()
def tw2220013106785945377:=()
def tw85983497686642948:=()
def tw5898986391533384436:=()
def tw8586698566260069900:=()
def tw1358319376633191951:=()
def tw15037882678996178017:=()
def tw1209403350705342673:=()
def tw1305810805139394487:=()
def tw5858064013025112532:=()
def tw11840169746071662148:=()
def tw6024514808237521234:=()
def tw14702859666223224261:=()
def tw18244654450001686796:=()
def tw15127475187370320153:=()
def tw5054242491139802510:=()
def tw14867761717245304050:=()
def tw13697585125880093330:=()
def tw15434543940424427028:=()
def tw940010123602452078:=()
def tw15416545486194577560:=()
def tw11601878830028117502:=()
def tw6586637462949892573:=()
def tw5118433882671943421:=()
def tw10432989693675357697:=()
def tw9300643209122168288:=()
def tw14235204807576350622:=()
def tw6279915285929316712:=()
def tw2845713188727581761:=()
def tw17068429646292081042:=()
def tw9203598378788928436:=()
def tw14919912858569831315:=()
def tw13971233791091539970:=()
def tw15864200868149583925:=()
def tw3583431789778863406:=()
def tw12283813705806529100:=()
def tw6039098884319089913:=()
def tw13468451306432880539:=()
def tw95169683207011709:=()
def tw16365253886407586097:=()
def tw12553084064283291991:=()
def tw10405234936227202999:=()
def tw2692740297277267683:=()
def tw9335062555796714166:=()
def tw13308644236977276935:=()
def tw16055068744021967992:=()
def tw7380483767901491009:=()
def tw9162026071203834100:=()
def tw10535070426186413147:=()
def tw18162086573757642317:=()
def tw16062614008172259237:=()
def tw4604382034454414629:=()
def tw4976045331676800276:=()
def tw11276347348426930415:=()
def tw1329142664537989614:=()
def tw11833442354382266997:=()
def tw14441789239930880348:=()
def tw10962984544672062070:=()
def tw16443095925262523534:=()
def tw6834821881262949977:=()
def tw6811629955132740882:=()
def tw2206308661131970685:=()
def tw3513710815020640638:=()
def tw1440663618726371236:=()
def tw13843740965448779241:=()
def tw1948028104023942349:=()
def tw17135543981140740415:=()
def tw7148849139286263410:=()
def tw16671599876679851712:=()
def tw9707412379138482155:=()
def tw2100557371366640996:=()
def tw2425377242415519020:=()
def tw5783154522887998546:=()
def tw14415949403571614014:=()
def tw1593791376349162940:=()
def tw1363088472338820002:=()
def tw2326893024319376492:=()
def tw11303008390383621224:=()
def tw17364060958213698700:=()
def tw13883465501944281969:=()
def tw11854423735055358777:=()
def tw2799395749075741324:=()
def tw2396858508561792952:=()
def tw3358435135874625385:=()
def tw17368027826171171499:=()
end PySem.W.Fast
open PySem PySem.W PyProof.Rows
local macro_rules | `(tactic| trivial)=>`(tactic| (refine' K09.at_mk ?a ?l ?e ?k;(case a=>k_is);(case l=>k_is);(case e=>k_is);(case k=>k_is)))
set_option maxRecDepth 100000 in
set_option maxHeartbeats 0 in
theorem PySem.Challenge.cw_leafpress_k09_rows_hung_and_mended_holds : PySem.Challenge.rw_leafpress_k09_rows_hung_and_mended.Holds := by
 w_on;o_law;k_head;(case hw=>w_witness2)
 k_fill
 refine K09.walk (l:=PySem.Challenge.rw_leafpress_k09_rows_hung_and_mended) rfl rfl (λw h Y=>PySem.W.kIn_of Y) ?F
 case F =>
  intro w mg fa h KX G hmg;refine' K09.all_mk KX G hmg ?A1 ?A2 ?A3 ?A4 ?A5 ?A6 ?A7 ?A8 ?A9 ?A10 ?A11 ?A12 ?A13 ?A14 ?A15 ?A16 ?A17 ?A18 ?A19 ?A20 ?A21 ?A22 ?A23 ?A24 ?A25 ?A26 ?A27 ?A28 ?A29 ?A30 ?A31 ?A32 ?A33 ?A34 ?A35 ?A36 ?A37 ?A38 ?A39 ?A40 ?A41 ?A42 ?A43 ?A44 ?A45 ?A46 ?A47 ?A48 ?A49 ?A50 ?A51 ?A52 ?A53 ?A54 ?A55 ?A56 ?A57 ?A58 ?c_CN ?xcN ?x_KINDS ?l_KINDS ?x_KINDS_OF_PIECES ?l_KINDS_OF_PIECES ?x_MAY ?l_MAY ?l_m_body ?l_m_case ?l_m_shelf ?l_m_grid ?l_m_text ?l_m_head ?l_m_picture ?l_m_aside ?l_m_note ?g_SMALL_LETTERS ?g_GREAT_LETTERS ?g_FIGURES ?g_WORD_POINTS ?n_isinstance ?n_len ?n_range ?n_sorted ?n_int ?n_bool ?n_list ?n_tuple ?n_str ?n_set ?n_enumerate ?n_all ?n_ValueError ?n_min ?n_max ?n_reversed ?i_ELDER ?i_KIND ?i_NAME ?i_MARKS ?i_STUFF ?i_SORT ?i_THING ?i_TONE ?i_MOST_WORD_SIGNS ?i_MOST_NAME_SIGNS ?i_MOST_NODES ?i_MOST_MARKS ?i_MOST_PIECES ?i_GREATEST_LEVEL ?i_GREATEST_TONE ?i_GREATEST_PICTURE ?i_LEVEL ?i_MOST_SIDE_FIGURES ?i_BEHIND_ALL_ROWS
  (case A1=>trivial)
  (case A2=>trivial)
  (case A3=>trivial)
  (case A4=>trivial)
  (case A5=>trivial)
  (case A6=>trivial)
  (case A7=>trivial)
  (case A8=>trivial)
  (case A9=>trivial)
  (case A10=>trivial)
  (case A11=>trivial)
  (case A12=>trivial)
  (case A13=>trivial)
  (case A14=>trivial)
  (case A15=>trivial)
  (case A16=>trivial)
  (case A17=>trivial)
  (case A18=>trivial)
  (case A19=>trivial)
  (case A20=>trivial)
  (case A21=>trivial)
  (case A22=>trivial)
  (case A23=>trivial)
  (case A24=>trivial)
  (case A25=>trivial)
  (case A26=>trivial)
  (case A27=>trivial)
  (case A28=>trivial)
  (case A29=>trivial)
  (case A30=>trivial)
  (case A31=>trivial)
  (case A32=>trivial)
  (case A33=>trivial)
  (case A34=>trivial)
  (case A35=>trivial)
  (case A36=>trivial)
  (case A37=>trivial)
  (case A38=>trivial)
  (case A39=>trivial)
  (case A40=>trivial)
  (case A41=>trivial)
  (case A42=>trivial)
  (case A43=>trivial)
  (case A44=>trivial)
  (case A45=>trivial)
  (case A46=>trivial)
  (case A47=>trivial)
  (case A48=>trivial)
  (case A49=>trivial)
  (case A50=>trivial)
  (case A51=>trivial)
  (case A52=>trivial)
  (case A53=>trivial)
  (case A54=>trivial)
  (case A55=>trivial)
  (case A56=>trivial)
  (case A57=>trivial)
  (case A58=>trivial)
  (case c_CN=>k_is)
  (case xcN=>k_exc)
  (case x_KINDS=>k_is)
  (case l_KINDS=>k_is)
  (case x_KINDS_OF_PIECES=>k_is)
  (case l_KINDS_OF_PIECES=>k_is)
  (case x_MAY=>k_is)
  (case l_MAY=>k_is)
  (case l_m_body=>k_is)
  (case l_m_case=>k_is)
  (case l_m_shelf=>k_is)
  (case l_m_grid=>k_is)
  (case l_m_text=>k_is)
  (case l_m_head=>k_is)
  (case l_m_picture=>k_is)
  (case l_m_aside=>k_is)
  (case l_m_note=>k_is)
  (case g_SMALL_LETTERS=>k_is)
  (case g_GREAT_LETTERS=>k_is)
  (case g_FIGURES=>k_is)
  (case g_WORD_POINTS=>k_is)
  (case n_isinstance=>k_is)
  (case n_len=>k_is)
  (case n_range=>k_is)
  (case n_sorted=>k_is)
  (case n_int=>k_is)
  (case n_bool=>k_is)
  (case n_list=>k_is)
  (case n_tuple=>k_is)
  (case n_str=>k_is)
  (case n_set=>k_is)
  (case n_enumerate=>k_is)
  (case n_all=>k_is)
  (case n_ValueError=>k_is)
  (case n_min=>k_is)
  (case n_max=>k_is)
  (case n_reversed=>k_is)
  (case i_ELDER=>k_is)
  (case i_KIND=>k_is)
  (case i_NAME=>k_is)
  (case i_MARKS=>k_is)
  (case i_STUFF=>k_is)
  (case i_SORT=>k_is)
  (case i_THING=>k_is)
  (case i_TONE=>k_is)
  (case i_MOST_WORD_SIGNS=>k_is)
  (case i_MOST_NAME_SIGNS=>k_is)
  (case i_MOST_NODES=>k_is)
  (case i_MOST_MARKS=>k_is)
  (case i_MOST_PIECES=>k_is)
  (case i_GREATEST_LEVEL=>k_is)
  (case i_GREATEST_TONE=>k_is)
  (case i_GREATEST_PICTURE=>k_is)
  (case i_LEVEL=>k_is)
  (case i_MOST_SIDE_FIGURES=>k_is)
  (case i_BEHIND_ALL_ROWS=>k_is)
