import PyProof.Rows.All
import Wide.All
import OpenK.AllK
import Wide.FinOn
import Lean
import PyProof.EqAt
import PyProof.EqKinds
import PyProof.TupleCall
import KE.KEqDat
import PyProof.CompMap
import PyProof.WalksEnum
import PyProof.EnumMake
import PyProof.Draws
import PyProof.Rows.SetFrom
import PyProof.SetKind
import PyProof.WalksS
import PyProof.CollectWalk
import PyProof.FactsAll.set_1
import PyProof.DictIter
import PyProof.TupleIter
import PyProof.FactsAll.set_2
import PyProof.Rows.SortStr
import PyProof.StrBlockH
import PyProof.Rows.StrClose
import PyProof.FitsInt
import PyProof.Rows.FStr
import PyProof.StrOps2
import PyProof.StrCalls2
import PyProof.Rows.StrJoin2
import PyProof.StrLaws
import PyProof.StrLoop
import PyProof.StrWalks
import PyProof.StrLawsIn
import PyProof.ListRange
import PyProof.ZipIter
import PyProof.SeqI3
import PyProof.WalkInts
import PyProof.Rows.CallKwBuiltin
import KE.KMinKey
import KE.KLam
import KE.KNestM
import PyProof.FactsAll.tuple_2
import PyProof.FactsAll.tuple_3
import PyProof.TupleKey
import PyProof.FactsAll.tuple_0
import PyProof.Rows.Range3
import PyProof.SumAny
import PyProof.DictRoads
import PyProof.DictList
import KE.KDictOf
import PyProof.AttrMissHeap
import PyProof.MeetsDict
import PyProof.FactsAll.dict_3
import KE.KUnpack
import KE.KRevIter
import PySem.Challenge.RW_leafpress_k14_whole_winners_hold
local macro_rules | `(tactic| omega) => `(tactic| lia)
local macro_rules | `(tactic| trivial) => `(tactic| first | exact Or.inl (by rfl) | exact Or.inr (by rfl))
noncomputable section
set_option Elab.async false
set_option linter.all false
set_option maxRecDepth 100000
namespace L2
open PySem PySem.Spec PyProof.Rows
abbrev Key := Sum Int Str
def keyIs : Key → Value → Bool
  | .inl k, v => Value.isInt k v
  | .inr x, v => Value.isStrOf x v
def keyH (w : World) : Key → Int
  | .inl k => hashInt k
  | .inr x => hashStr w x
theorem keyIs_shape : ∀ {k : Key} {v : Value}, keyIs k v = true → (∃ i t, k = Sum.inl i ∧ v = Value.int i t) ∨ (∃ x t, k = Sum.inr x ∧ v = Value.str x t)
  | .inl i, v, h => by
    obtain ⟨t, e⟩ := Value.isInt_shape (k := i) (v := v) h
    exact .inl ⟨i, t, rfl, e⟩
  | .inr x, v, h => by
    obtain ⟨t, e⟩ := Value.isStrOf_shape (x := x) (v := v) h
    exact .inr ⟨x, t, rfl, e⟩
theorem keyIs_int (i : Int) (t : Tok) : keyIs (.inl i) (.int i t) = true := by simp [keyIs, Value.isInt]
theorem keyIs_str (x : Str) (t : Tok) : keyIs (.inr x) (.str x t) = true := by simp [keyIs, Value.isStrOf]
theorem key_ll (a b : Int) : decide ((Sum.inl a : Key) = Sum.inl b) = (a == b) := by
  by_cases e : a = b
  · subst e; simp
  · have h : ¬ (Sum.inl a : Key) = Sum.inl b := fun q => e (Sum.inl.inj q)
    rw [decide_eq_false h]
    exact (beq_eq_false_iff_ne.mpr e).symm
theorem key_rr (a b : Str) : decide ((Sum.inr a : Key) = Sum.inr b) = decide (a = b) := by
  by_cases e : a = b
  · subst e; simp
  · have h : ¬ (Sum.inr a : Key) = Sum.inr b := fun q => e (Sum.inr.inj q)
    rw [decide_eq_false h, decide_eq_false e]
theorem key_lr (a : Int) (b : Str) : decide ((Sum.inl a : Key) = Sum.inr b) = false := decide_eq_false (fun q => nomatch q)
theorem key_rl (a : Str) (b : Int) : decide ((Sum.inr a : Key) = Sum.inl b) = false := decide_eq_false (fun q => nomatch q)
def qaT (prog : Program) (w : World) : PySem.KeyKind prog w Key where
  is := keyIs
  hash := keyH w
  inj := fun v a b ha hb => by
    rcases keyIs_shape ha with ⟨i, t, rfl, rfl⟩ | ⟨x, t, rfl, rfl⟩
    · rcases keyIs_shape hb with ⟨j, u, rfl, e⟩ | ⟨y, u, rfl, e⟩
      · injection e with e1 _; rw [e1]
      · exact nomatch e
    · rcases keyIs_shape hb with ⟨j, u, rfl, e⟩ | ⟨y, u, rfl, e⟩
      · exact nomatch e
      · injection e with e1 _; rw [e1]
  byValue := fun k v h => by
    rcases keyIs_shape h with ⟨i, t, rfl, rfl⟩ | ⟨x, t, rfl, rfl⟩ <;> rfl
  pyHash := fun hv h => by
    rcases keyIs_shape hv with ⟨i, t, rfl, rfl⟩ | ⟨x, t, rfl, rfl⟩
    · exact wpAny_pyHash_int h
    · exact wpAny_pyHash_str h
  eqBool := fun hu hv h => by
    rcases keyIs_shape hu with ⟨i, t, rfl, rfl⟩ | ⟨x, t, rfl, rfl⟩
    · rcases keyIs_shape hv with ⟨j, u, rfl, rfl⟩ | ⟨y, u, rfl, rfl⟩
      · rw [key_ll] at h; exact wpAny_eqBool_int h
      · rw [key_lr] at h; exact SeqAt.EqAt.int_str i t y u _ _ _ _ h
    · rcases keyIs_shape hv with ⟨j, u, rfl, rfl⟩ | ⟨y, u, rfl, rfl⟩
      · rw [key_rl] at h; exact SeqAt.EqAt.str_int x t j u _ _ _ _ h
      · rw [key_rr] at h; exact wpAny_eqBool_str h
  «strs» := fun k x t v h => by
    rcases keyIs_shape h with ⟨i, u, rfl, e⟩ | ⟨y, u, rfl, e⟩
    · exact nomatch e
    · injection e with e1 _
      subst e1
      cases v <;> rfl
theorem mixKind_int (prog : Program) (w : World) (i : Int) (t : Tok) : (qaT prog w).is (.inl i) (.int i t) = true := keyIs_int i t
theorem qbf (prog : Program) (w : World) (x : Str) (t : Tok) : (qaT prog w).is (.inr x) (.str x t) = true := keyIs_str x t
end L2
namespace L2
open PySem PySem.Spec PyProof.Rows
inductive V where
  | non | bl (b : Bool) | int (i : Int) | str (x : Str) | byt (b : Array UInt8) | flt (b : UInt64) | ref (a : Addr) | ty (n : String)
  deriving DecidableEq
def RelV : V → Value → Prop
  | .non, u => u = Value.none
  | .bl b, u => u = Value.bool b
  | .int i, u => ∃ t, u = Value.int i t
  | .str x, u => ∃ t, u = Value.str x t
  | .byt b, u => ∃ t, u = Value.bytes b t
  | .flt b, u => ∃ t, u = Value.float b t
  | .ref a, u => u = Value.ref a
  | .ty n, u => u = Value.type n
abbrev Vals : List V → List Value → Prop := Paired RelV
theorem Vals.length {xs : List V} {us : List Value} (r : Vals xs us) : xs.length = us.length := Paired.length r
theorem Vals.get : ∀ {xs : List V} {us : List Value} {i : Nat} {x : V}, Vals xs us → xs[i]? = some x → ∃ u, us[i]? = some u ∧ RelV x u
  | _, _, _, _, .nil, e => by simp at e
  | _, _, 0, _, .cons r _, e => by simp at e; subst e; exact ⟨_, rfl, r⟩
  | _, _, i + 1, x, .cons _ t, e => by
    obtain ⟨u, h1, h2⟩ := Vals.get (i := i) (x := x) t (by simpa using e)
    exact ⟨u, by simpa using h1, h2⟩
theorem Vals.set {x : V} {u : Value} (r : RelV x u) : ∀ {xs : List V} {us : List Value} (i : Nat), Vals xs us → Vals (xs.set i x) (us.set i u)
  | _, _, _, .nil => .nil
  | _, _, 0, .cons _ t => .cons r t
  | _, _, i + 1, .cons q t => .cons q (Vals.set r i t)
theorem Vals.append : ∀ {xs ys : List V} {us ws : List Value}, Vals xs us → Vals ys ws → Vals (xs ++ ys) (us ++ ws)
  | _, _, _, _, .nil, s => s
  | _, _, _, _, .cons r t, s => .cons r (Vals.append t s)
theorem Vals.take : ∀ {xs : List V} {us : List Value} (n : Nat), Vals xs us → Vals (xs.take n) (us.take n)
  | _, _, 0, _ => .nil
  | _, _, _ + 1, .nil => .nil
  | _, _, n + 1, .cons r t => .cons r (Vals.take n t)
theorem Vals.drop : ∀ {xs : List V} {us : List Value} (n : Nat), Vals xs us → Vals (xs.drop n) (us.drop n)
  | _, _, 0, r => r
  | _, _, _ + 1, .nil => .nil
  | _, _, n + 1, .cons _ t => Vals.drop n t
def RelO : Option V → Option Value → Prop
  | some v, some u => RelV v u
  | none, none => True
  | _, _ => False
def KV {κ : Type} : List (κ × V) → List (κ × Value) → Prop := Paired fun (p : κ × V) (q : κ × Value) => p.1 = q.1 ∧ RelV p.2 q.2
def kV : Key → V
  | .inl i => .int i
  | .inr x => .str x
inductive HO where
  | lst (xs : List V)
  | tup (xs : List V)
  | dK (kvs : List (Key × V)) | dT (kvs : List (List Key × V))
  | set (S : Int → Bool) (n : Nat)
  | ins (C dx : Addr) (fs : List (Str × V))
  | own (x : Addr)
  | xd (fs : List (Str × V))
  | met (f x : Addr)
  | rng (lo hi : Int)
  | frz (o : Obj) (u : HO)
  | tbl (ps : Array Value)
  | ext (φ : Heap → Prop)
abbrev Hp := Addr → Option HO
def upd (H : Hp) (a : Addr) (o : HO) : Hp := fun b => if b = a then some o else H b
theorem qab {H : Hp} {a : Addr} {o : HO} : upd H a o a = some o := by unfold upd; rw [if_pos rfl]
theorem qai {H : Hp} {a b : Addr} {o : HO} (h : b ≠ a) : upd H a o b = H b := by unfold upd; rw [if_neg h]
theorem ne_of {H : Hp} {a b : Addr} {o u : HO} (h : H a = some o) (h' : H b = some u) (d : o ≠ u) : a ≠ b := by
  intro e; subst e; rw [h] at h'; exact d (Option.some.inj h')
theorem qao {H : Hp} {a b : Addr} {o : HO} (h : H a = some o) (h' : H b = none) : a ≠ b := by
  intro e; subst e; rw [h] at h'; cases h'
section
variable (P : Program) (w : World)
def ObjOk (H : Hp) (h : Heap) (a : Addr) : HO → Prop
  | .lst xs => xs.length ≤ sizeLine ∧ ∃ (its : List Value) (n : Nat), Vals xs its ∧ h.get? a = some { cls := .type "list", data := .seq its.toArray n }
  | .tup xs => xs.length ≤ sizeLine ∧ ∃ its : List Value, Vals xs its ∧ IsTup h a its.toArray
  | .dK kvs => kvs.length ≤ sizeLine ∧ (a == sysModules) = false ∧ ∃ vs, KV kvs vs ∧ h.DictOf (qaT P w) a vs
  | .dT kvs => kvs.length ≤ sizeLine ∧ (a == sysModules) = false ∧ ∃ xs : List (List Key × Addr × Value),
      Paired (fun (p : List Key × V) (q : List Key × Addr × Value) => p.1 = q.1 ∧ H q.2.1 = some (.tup (p.1.map kV)) ∧ RelV p.2 q.2.2) kvs xs ∧
      ∃ o es ep, h.get? a = some o ∧ o.ExactDict ∧ o.data = .dict es ep ∧ es.toList = xs.map (entryOfKey (tupleKind (qaT P w))) ∧ (xs.map (·.1)).Nodup
  | .set S n => h.SetOf (intKind P w) a S n
  | .ins C dx fs => H dx = some (.own a) ∧ fs.length ≤ 1000 ∧ dx ≠ a ∧ h.get? a = some (PySem.W.instObj C dx) ∧
      ∃ mA, h.Ns1 dx mA ∧ (∀ f, RelO (fs.lookup f) (mA f)) ∧ PySem.Within mA (fs.map (·.1))
  | .own _ => ∃ o, h.get? a = some o
  | .xd fs => ∃ mA, h.Ns1 a mA ∧ ∀ f, RelO (fs.lookup f) (mA f)
  | .rng lo hi => ∃ t u v, h.get? a = some { cls := .type "range", data := .fields #[.int lo t, .int hi u, .int 1 v] }
  | .frz o u => h.get? a = some o ∧ ObjOk H h a u
  | .tbl ps => h.get? a = some { cls := .none, data := .fields ps }
  | .met f x => h.get? a = some (PySem.W.methodObj (.ref f) (.ref x))
  | .ext φ => φ h ∧ (∃ o, h.get? a = some o) ∧ ∀ h1 h2 : Heap, φ h1 → (∀ o, h1.get? a = some o → h2.get? a = some o) → φ h2
def HOk (H : Hp) (h : Heap) : Prop := ∀ a o, H a = some o → ObjOk P w H h a o
end
section
variable {P : Program} {w : World} {H H' : Hp} {h h' : Heap} {a : Addr} {o : HO}
theorem ObjOk.lt (x : ObjOk P w H h a o) : a < h.objs.size := by
  cases o with
  | lst xs => obtain ⟨_, _, _, _, e⟩ := x; exact Heap.lt_size e
  | tup xs => obtain ⟨_, _, _, p⟩ := x; exact p.lt
  | dK kvs => obtain ⟨_, _, _, _, o, _, _, e, _⟩ := x; exact Heap.lt_size e
  | dT kvs => obtain ⟨_, _, _, _, o, _, _, e, _⟩ := x; exact Heap.lt_size e
  | set S n => obtain ⟨o, _, _, _, e, _⟩ := x; exact Heap.lt_size e
  | ins C dx fs => obtain ⟨_, _, _, e, _⟩ := x; exact Heap.lt_size e
  | own y => obtain ⟨_, e⟩ := x; exact Heap.lt_size e
  | xd fs => obtain ⟨_, ⟨_, _, _, e, _⟩, _⟩ := x; exact Heap.lt_size e
  | rng lo hi => obtain ⟨_, _, _, e⟩ := x; exact Heap.lt_size e
  | frz ob u => obtain ⟨e, _⟩ := x; exact Heap.lt_size e
  | tbl ps => exact Heap.lt_size (show h.get? a = some _ from x)
  | met f y => exact Heap.lt_size (show h.get? a = some _ from x)
  | ext φ => obtain ⟨_, ⟨_, e⟩, _⟩ := x; exact Heap.lt_size e
theorem Paired.mapP {α β : Type} {F G : α → β → Prop} {l₁ : List α} {l₂ : List β} (p : Paired F l₁ l₂) (f : ∀ a b, F a b → G a b) : Paired G l₁ l₂ := by
  induction p with
  | nil => exact .nil
  | cons r t ih => exact .cons (f _ _ r) ih
theorem ObjOk.stay (x : ObjOk P w H h a o) (k : ∀ b u, (b = a ∨ H b = some (.own a)) → h.get? b = some u → h'.get? b = some u)
    (ho : ∀ b, H b = some (.own a) → H' b = some (.own a)) (ht : ∀ b xs, H b = some (.tup xs) → H' b = some (.tup xs)) : ObjOk P w H' h' a o := by
  induction o with
  | lst xs => obtain ⟨z, its, n, r, e⟩ := x; exact ⟨z, its, n, r, k _ _ (.inl rfl) e⟩
  | tup xs => obtain ⟨z, its, r, ob, e, c⟩ := x; exact ⟨z, its, r, ob, k _ _ (.inl rfl) e, c⟩
  | dK kvs => obtain ⟨z, y, vs, r, ob, es, ep, e, c⟩ := x; exact ⟨z, y, vs, r, ob, es, ep, k _ _ (.inl rfl) e, c⟩
  | dT kvs =>
    obtain ⟨z, y, xs, r, ob, es, ep, e, c⟩ := x
    exact ⟨z, y, xs, Paired.mapP r fun p q z => ⟨z.1, ht _ _ z.2.1, z.2.2⟩, ob, es, ep, k _ _ (.inl rfl) e, c⟩
  | set S n => obtain ⟨ob, es, ep, t, e, c⟩ := x; exact ⟨ob, es, ep, t, k _ _ (.inl rfl) e, c⟩
  | ins C dx fs =>
    obtain ⟨d, z, ne, e, mA, ⟨od, es, ep, e2, c⟩, r⟩ := x
    exact ⟨ho _ d, z, ne, k _ _ (.inl rfl) e, mA, ⟨od, es, ep, k _ _ (.inr d) e2, c⟩, r⟩
  | own y => obtain ⟨ob, e⟩ := x; exact ⟨ob, k _ _ (.inl rfl) e⟩
  | xd fs => obtain ⟨mA, ⟨od, es, ep, e, c⟩, r⟩ := x; exact ⟨mA, ⟨od, es, ep, k _ _ (.inl rfl) e, c⟩, r⟩
  | rng lo hi => obtain ⟨t, u, v, e⟩ := x; exact ⟨t, u, v, k _ _ (.inl rfl) e⟩
  | frz ob u ih => obtain ⟨e, q⟩ := x; exact ⟨k _ _ (.inl rfl) e, ih q⟩
  | tbl ps =>
    have e : h.get? a = some { cls := .none, data := .fields ps } := x
    show h'.get? a = some { cls := .none, data := .fields ps }
    exact k a _ (.inl rfl) e
  | met f y =>
    have e : h.get? a = some (PySem.W.methodObj (.ref f) (.ref y)) := x
    show h'.get? a = some (PySem.W.methodObj (.ref f) (.ref y))
    exact k a _ (.inl rfl) e
  | ext φ => obtain ⟨p, ⟨o, e⟩, st⟩ := x; exact ⟨st _ _ p fun o q => k _ _ (.inl rfl) q, ⟨o, k _ _ (.inl rfl) e⟩, st⟩
theorem HOk.lt (x : HOk P w H h) (e : H a = some o) : a < h.objs.size := (x a o e).lt
theorem HOk.fresh (x : HOk P w H h) (e : h.objs.size ≤ a) : H a = none := by
  cases q : H a with
  | none => rfl
  | some u => exact absurd (Nat.lt_of_lt_of_le (x.lt q) e) (Nat.lt_irrefl _)
theorem HOk.kept (x : HOk P w H h) (k : ∀ b u, h.get? b = some u → h'.get? b = some u) : HOk P w H h' := fun a o e =>
  (x a o e).stay (fun b u _ q => k b u q) (fun _ q => q) fun _ _ q => q
theorem HOk.laid (x : HOk P w H h) (k : ∀ b u, h.get? b = some u → h'.get? b = some u) (hp : h.objs.size ≤ a) (new : ObjOk P w (upd H a o) h' a o) : HOk P w (upd H a o) h' := fun b u e => by
  have hn := x.fresh hp
  by_cases hb : b = a
  · subst hb; rw [qab] at e; cases e; exact new
  · rw [qai hb] at e
    exact (x b u e).stay (fun c v _ q => k c v q) (fun c q => by rw [qai (qao q hn)]; exact q) fun c xs q => by rw [qai (qao q hn)]; exact q
end
def Rd (H : Hp) (a : Addr) (u : HO) : Prop := H a = some u ∨ ∃ o, H a = some (.frz o u)
theorem Rd.of {H : Hp} {a : Addr} {u : HO} (h : H a = some u) : Rd H a u := .inl h
theorem Rd.ok {P : Program} {w : World} {H : Hp} {h : Heap} {a : Addr} {u : HO} (r : Rd H a u) (x : HOk P w H h) : ObjOk P w H h a u := by
  rcases r with r | ⟨o, r⟩
  · exact x a u r
  · obtain ⟨_, q⟩ := x a _ r
    exact q
def Mut : Option HO → Prop
  | some (.lst _) => True
  | some (.dK _) => True
  | some (.dT _) => True
  | some (.set _ _) => True
  | some (.ins _ _ _) => True
  | some (.ext _) => True
  | _ => False
section
variable {P : Program} {w : World} {H : Hp} {h h' : Heap} {x e : Addr} {o' : HO}
theorem HOk.write (ok : HOk P w H h) (mu : Mut (H x)) (he : e = x ∨ H e = some (.own x)) (k : ∀ b u, b ≠ e → h.get? b = some u → h'.get? b = some u) (heo : ∃ u, h'.get? e = some u)
    (new : ObjOk P w (upd H x o') h' x o') : HOk P w (upd H x o') h' := fun b u q => by
  have nown : ∀ c y, H c = some (.own y) → c ≠ x := fun c y r z => by subst z; rw [r] at mu; exact mu
  have ntup : ∀ c xs, H c = some (.tup xs) → c ≠ x := fun c xs r z => by subst z; rw [r] at mu; exact mu
  by_cases hb : b = x
  · subst hb; rw [qab] at q; cases q; exact new
  · rw [qai hb] at q
    by_cases hbe : b = e
    · have q' : H b = some (.own x) := by
        rcases he with z | z
        · exact absurd (hbe.trans z) hb
        · rw [hbe]; exact z
      rw [q] at q'; cases q'
      obtain ⟨v, hv⟩ := heo
      exact ⟨v, by rw [hbe]; exact hv⟩
    · refine (ok b u q).stay (fun c v hc r => k c v ?_ r) (fun c r => by rw [qai (nown c b r)]; exact r) fun c xs r => by rw [qai (ntup c xs r)]; exact r
      rcases hc with rfl | hc
      · exact hbe
      · rintro rfl
        rcases he with z | z
        · exact nown c b hc z
        · rw [hc] at z; cases z; exact hb rfl
end
structure Un (fs ex : List Addr) (H H' : Hp) (h h' : Heap) : Prop where
  keep : ∀ b o, h.get? b = some o → H b = none → b ∉ fs → b ∉ ex → h'.get? b = some o
  slot : ∀ b o, h.get? b = some o → H b = none → b ∈ fs → b ∉ ex → ∃ sl, h'.get? b = some { o with slots := sl }
  free : ∀ b o, h.get? b = some o → H b = none → b ∉ ex → H' b = none
  there : ∀ b o, h.get? b = some o → b ∉ ex → ∃ o', h'.get? b = some o'
  tups : ∀ b xs, H b = some (.tup xs) → H' b = some (.tup xs)
  frzs : ∀ b o u, H b = some (.frz o u) → H' b = some (.frz o u)
  tbls : ∀ b ps, H b = some (.tbl ps) → ∃ more, H' b = some (.tbl (ps ++ more))
section
variable {fs fs' ex ex' : List Addr} {H H1 H2 : Hp} {h h1 h2 h' : Heap} {a x e : Addr} {o : HO}
theorem Un.any (u : Un fs ex H H1 h h1) {b : Addr} {ob : Obj} (q : h.get? b = some ob) (n : H b = none) (hx : b ∉ ex) : ∃ sl, h1.get? b = some { ob with slots := sl } := by
  by_cases hb : b ∈ fs
  · exact u.slot b ob q n hb hx
  · exact ⟨ob.slots, u.keep b ob q n hb hx⟩
theorem Un.trans (a : Un fs ex H H1 h h1) (b : Un fs ex H1 H2 h1 h2) : Un fs ex H H2 h h2 where
  keep := fun c ob q n hc hx => b.keep c ob (a.keep c ob q n hc hx) (a.free c ob q n hx) hc hx
  slot := fun c ob q n hc hx => by
    obtain ⟨sl, e1⟩ := a.slot c ob q n hc hx
    obtain ⟨sl', e2⟩ := b.slot c _ e1 (a.free c ob q n hx) hc hx
    exact ⟨sl', e2⟩
  free := fun c ob q n hx => by
    obtain ⟨o', e1⟩ := a.there c ob q hx
    exact b.free c o' e1 (a.free c ob q n hx) hx
  there := fun c ob q hx => by
    obtain ⟨o', e1⟩ := a.there c ob q hx
    exact b.there c o' e1 hx
  tups := fun c xs q => b.tups c xs (a.tups c xs q)
  frzs := fun c ob xs q => b.frzs c ob xs (a.frzs c ob xs q)
  tbls := fun c ps q => by
    obtain ⟨m1, e1⟩ := a.tbls c ps q
    obtain ⟨m2, e2⟩ := b.tbls c _ e1
    exact ⟨m1 ++ m2, by rw [e2, Array.append_assoc]⟩
theorem Un.kept (k : ∀ b u, h.get? b = some u → h'.get? b = some u) : Un fs ex H H h h' :=
  ⟨fun b ob q _ _ _ => k b ob q, fun b ob q _ _ _ => ⟨ob.slots, k b ob q⟩, fun _ _ _ n _ => n, fun b ob q _ => ⟨ob, k b ob q⟩, fun _ _ q => q, fun _ _ _ q => q, fun _ ps q => ⟨#[], by rw [q]; simp⟩⟩
theorem Un.refl : Un fs ex H H h h := Un.kept fun _ _ q => q
theorem Un.laid (k : ∀ b u, h.get? b = some u → h'.get? b = some u) (hp : h.objs.size ≤ a) (hn : H a = none) : Un fs ex H (upd H a o) h h' where
  keep := fun b u q _ _ _ => k b u q
  slot := fun b u q _ _ _ => ⟨u.slots, k b u q⟩
  free := fun b u q n _ => by rw [qai (Nat.ne_of_lt (Nat.lt_of_lt_of_le (Heap.lt_size q) hp))]; exact n
  there := fun b u q _ => ⟨u, k b u q⟩
  tups := fun b xs q => by rw [qai (qao q hn)]; exact q
  frzs := fun b u xs q => by rw [qai (qao q hn)]; exact q
  tbls := fun b ps q => ⟨#[], by rw [qai (qao q hn), q]; simp⟩
theorem Un.write (mu : Mut (H x)) (he : e = x ∨ H e = some (.own x)) (k : ∀ b u, b ≠ e → h.get? b = some u → h'.get? b = some u) (heo : ∃ u, h'.get? e = some u) : Un fs ex H (upd H x o) h h' := by
  have hx : ∀ b, H b = none → b ≠ x := fun b n z => by subst z; rw [n] at mu; exact mu
  have hb : ∀ b, H b = none → b ≠ e := fun b n z => by
    subst z
    rcases he with r | r
    · exact hx b n r
    · rw [n] at r; cases r
  have hm : ∀ b u, H b = some u → ¬ Mut (some u) → b ≠ x := fun b u q nm z => by subst z; rw [q] at mu; exact nm mu
  refine ⟨fun b u q n _ _ => k b u (hb b n) q, fun b u q n _ _ => ⟨u.slots, k b u (hb b n) q⟩, fun b u q n _ => by rw [qai (hx b n)]; exact n, fun b u q _ => ?_,
    fun b xs q => by rw [qai (hm b _ q fun z => z)]; exact q, fun b u xs q => by rw [qai (hm b _ q fun z => z)]; exact q, fun b ps q => ⟨#[], by rw [qai (hm b _ q fun z => z), q]; simp⟩⟩
  by_cases hbe : b = e
  · subst hbe; exact heo
  · exact ⟨u, k b u hbe q⟩
end
def trk (h : Heap) (H : Hp) : List Addr := (List.range h.objs.size).filter fun a => (H a).isSome
def hidT (h : Heap) (H : Hp) : Heap := PySem.W.hideAll h (trk h H)
theorem hidT_size (h : Heap) (H : Hp) : (hidT h H).objs.size = h.objs.size := PySem.W.hideAll_size _ _
theorem hidT_get {h : Heap} {H : Hp} {b : Addr} {o : Obj} (e : h.get? b = some o) (n : H b = none) : (hidT h H).get? b = some o :=
  PySem.W.hideAll_get _ e fun hm => by
    have q : (H b).isSome = true := (List.mem_filter.mp hm).2
    rw [n] at q; simp at q
theorem of_hidT {h : Heap} {H : Hp} {b : Addr} {o : Obj} (e : (hidT h H).get? b = some o) : h.get? b = some o ∧ H b = none := by
  have e' : h.get? b = some o := PySem.W.of_hideAll (trk h H) e
  refine ⟨e', ?_⟩
  cases q : H b with
  | none => rfl
  | some x =>
    have hm : b ∈ trk h H := List.mem_filter.mpr ⟨List.mem_range.mpr (Heap.lt_size e'), by simp [q]⟩
    have z : (hidT h H).get? b = none := PySem.W.hideAll_none (trk h H) hm
    rw [z] at e; cases e
end L2
namespace L2
open PySem PySem.Spec PyProof.Rows
structure Mod (K : PySem.W.Frag) (mg : Str → Option Value) (base : Heap) : Prop where
  kin : K.In base
  glob : base.Ns mainGlobals mg
  blt : ∃ mb, base.Ns builtinsNs mb ∧ ∀ x : Str, x ≠ "__name__" → mb x = bootBuiltins x
  nolimit : base.NoLimit
structure Cx where
  prog : Program
  w : World
  K : PySem.W.Frag
  mg : Str → Option Value
  base : Heap
  A : Around
  N : List Str
  s₀ : Shared
  H₀ : Hp
  env : Env
  outer : List Env
  stack : List Env
  ex : List Addr
  fn : Str → Bool
  calm : Bool
  pn : List (Addr × Obj)
  xe : Value → Shared → Prop
def frs (l : List Env) : List Addr := l.filterMap (·.frame)
abbrev Cx.fs (X : Cx) : List Addr := frs X.outer
def Vis (sc : Scope) (x : Str) : Prop := sc.names.lookup x = some .local ∨ sc.names.lookup x = some .cell ∨ sc.names.lookup x = some .free
def Loc (sc : Scope) (x : Str) : Prop := sc.names.lookup x = some .local ∨ sc.names.lookup x = some .cell
def Look (env : Env) (h : Heap) (m : Str → Option Value) (x : Str) (u : Value) : Prop :=
  (env.kindOf x = some .local ∧ m x = some u) ∨ ((env.kindOf x = some .cell ∨ env.kindOf x = some .free) ∧ ∃ c, env.cells.lookup x = some c ∧ h.IsCell c (some u))
structure Cx.Ok (X : Cx) : Prop where
  mod : Mod X.K X.mg X.base
  kind : X.env.scope.kind = .function
  glob : X.env.globals = mainGlobals
  blt : X.env.builtins = builtinsNs
  above : X.s₀.heap.objs.size ≤ X.env.locals
  inj : ∀ x y c, X.env.cells.lookup x = some c → X.env.cells.lookup y = some c → x = y
  has : ∀ x, (X.env.kindOf x = some .cell ∨ X.env.kindOf x = some .free) → ∃ c, X.env.cells.lookup x = some c
  cab : ∀ x c, X.fn x = true → X.env.cells.lookup x = some c → X.s₀.heap.objs.size ≤ c
  hd : X.calm = true → X.A.handled = none
  frames : X.A.frames = some X.stack
  stk : X.stack = X.outer ∨ (X.stack = X.env :: X.outer ∧ X.env.frame = some X.env.locals)
  exf : ∀ b ∈ X.ex, b ≠ X.env.locals ∧ ∀ x c, X.env.cells.lookup x = some c → c ≠ b
  bs : ∀ b o, X.base.get? b = some o → X.s₀.heap.get? b = some o ∧ X.H₀ b = none
  bsz : X.base.objs.size ≤ X.s₀.heap.objs.size
  noex : ∀ b o, X.base.get? b = some o → b ∉ X.ex
  exfs : ∀ b ∈ X.ex, b ∉ X.fs
  funs : X.s₀.heap.FunFrames X.base X.outer
  frf : ∀ b ∈ X.fs, X.H₀ b = none
structure Inv (X : Cx) (pins : List (Addr × Obj)) (σ : List (Option V)) (H : Hp) (s : Shared) : Prop where
  ok : X.Ok
  os : s.os = X.s₀.os
  bare : AllBare s.gens
  base : Un X.fs X.ex X.H₀ H X.s₀.heap s.heap
  loc : ∃ m, s.heap.Ns X.env.locals m ∧ ∀ (i : Nat) (x : Str) (v : V), X.N[i]? = some x → σ[i]? = some (some v) → Vis X.env.scope x → ∃ u, RelV v u ∧ Look X.env s.heap m x u
  cell : ∀ x c, X.env.cells.lookup x = some c → ∃ v, s.heap.IsCell c v
  free : H X.env.locals = none
  freeC : ∀ x c, X.env.cells.lookup x = some c → H c = none
  pin : ∀ p ∈ X.pn ++ pins, s.heap.get? p.1 = some p.2 ∧ H p.1 = none ∧ p.1 ≠ X.env.locals ∧ p.1 ∉ X.fs ∧ ∀ v, p.2.data ≠ .cell v
  hok : HOk X.prog X.w H s.heap
  len : σ.length = X.N.length
section
variable {X : Cx} {pins : List (Addr × Obj)} {σ : List (Option V)} {H H' : Hp} {s : Shared} {h' : Heap}
theorem Cx.Ok.nofr (ok : X.Ok) {b : Addr} {o : Obj} (e : X.base.get? b = some o) : b ∉ X.fs := fun hb => by
  have := (ok.funs.mem hb).1
  rw [e] at this; cases this
theorem Inv.bs (I : Inv X pins σ H s) : ∀ b o, X.base.get? b = some o → s.heap.get? b = some o ∧ H b = none := fun b o e =>
  ⟨I.base.keep b o (I.ok.bs b o e).1 (I.ok.bs b o e).2 (I.ok.nofr e) (I.ok.noex b o e), I.base.free b o (I.ok.bs b o e).1 (I.ok.bs b o e).2 (I.ok.noex b o e)⟩
theorem Inv.bk (I : Inv X pins σ H s) : ∀ b o, X.base.get? b = some o → s.heap.get? b = some o := fun b o e => (I.bs b o e).1
theorem Inv.mod (I : Inv X pins σ H s) : Mod X.K X.mg X.base := I.ok.mod
theorem Inv.kIn (I : Inv X pins σ H s) : X.K.In s.heap := I.ok.mod.kin.keeps I.bk
theorem Inv.lt (I : Inv X pins σ H s) : X.env.locals < s.heap.objs.size := let ⟨_, hn, _⟩ := I.loc; hn.lt
theorem Inv.sz (I : Inv X pins σ H s) : X.s₀.heap.objs.size ≤ s.heap.objs.size := Nat.le_trans I.ok.above (Nat.le_of_lt I.lt)
theorem Inv.nofs (I : Inv X pins σ H s) {a : Addr} (h : s.heap.objs.size ≤ a) : a ∉ X.fs := fun hb => by
  obtain ⟨_, o, ho, _⟩ := I.ok.funs.mem hb
  exact absurd (Nat.lt_of_lt_of_le (Heap.lt_size ho) (Nat.le_trans I.sz h)) (Nat.lt_irrefl _)
theorem Inv.cne (I : Inv X pins σ H s) : ∀ x c, X.env.cells.lookup x = some c → c ≠ X.env.locals := fun x c e z => by
  obtain ⟨v, o, ho, hd⟩ := I.cell x c e
  obtain ⟨m, ⟨o', es, ep, ho', hd', _⟩, _⟩ := I.loc
  rw [z, ho'] at ho; cases ho; rw [hd'] at hd; cases hd
theorem Inv.funs (I : Inv X pins σ H s) : s.heap.FunFrames X.base X.outer := by
  have all : ∀ (l : List Env), (∀ b ∈ frs l, b ∈ X.fs) → X.s₀.heap.FunFrames X.base l → s.heap.FunFrames X.base l := by
    intro l
    induction l with
    | nil => intro _ _; trivial
    | cons env r ih =>
      intro hs hl
      obtain ⟨hk, ⟨L, o, hf, hn, ho, hd⟩, hr⟩ := hl
      have hL : L ∈ X.fs := hs L (by unfold frs; rw [List.filterMap_cons, hf]; exact List.mem_cons_self)
      obtain ⟨sl, e⟩ := I.base.slot L o ho (I.ok.frf L hL) hL fun z => I.ok.exfs L z hL
      exact ⟨hk, ⟨L, _, hf, hn, e, hd⟩, ih (fun b hb => hs b (by unfold frs; rw [List.filterMap_cons, hf]; exact List.mem_cons_of_mem _ hb)) hr⟩
  exact all X.outer (fun _ hb => hb) I.ok.funs
theorem Inv.stack (I : Inv X pins σ H s) : s.heap.FunFrames X.base X.stack := by
  rcases I.ok.stk with e | ⟨e, hf⟩
  · rw [e]; exact I.funs
  · rw [e]
    obtain ⟨m, hn, _⟩ := I.loc
    refine .cons (by rw [I.ok.kind]; decide) hf hn ?_ I.funs
    exact Heap.get?_none_of_le (Nat.le_trans I.ok.bsz I.ok.above)
theorem Inv.stkSub (I : Inv X pins σ H s) : ∀ b ∈ frs X.stack, b ∈ X.env.locals :: X.fs := fun b hb => by
  rcases I.ok.stk with e | ⟨e, hf⟩
  · rw [e] at hb; exact List.mem_cons_of_mem _ hb
  · rw [e] at hb
    unfold frs at hb
    rw [List.filterMap_cons, hf] at hb
    exact hb
theorem Inv.stkFree (I : Inv X pins σ H s) : ∀ b ∈ frs X.stack, H b = none := fun b hb => by
  rcases List.mem_cons.mp (I.stkSub b hb) with e | hb
  · rw [e]; exact I.free
  · obtain ⟨_, o, ho, _⟩ := I.ok.funs.mem hb
    exact I.base.free b o ho (I.ok.frf b hb) fun z => I.ok.exfs b z hb
theorem Inv.step {g' : Array GenState} {t' : Nat} {d' : Drawn} {ch : List Addr} (I : Inv X pins σ H s)
    (hch : ∀ b ∈ ch, (b ∈ X.ex ∨ X.s₀.heap.objs.size ≤ b) ∧ b ≠ X.env.locals ∧ (∀ x c, X.env.cells.lookup x = some c → c ≠ b) ∧ ∀ p ∈ X.pn ++ pins, p.1 ≠ b)
    (keep : ∀ b o, b ≠ X.env.locals → b ∉ X.fs → b ∉ ch → s.heap.get? b = some o → H b = none → h'.get? b = some o)
    (slot : ∀ b o, b ≠ X.env.locals → b ∈ X.fs → b ∉ ch → s.heap.get? b = some o → H b = none → ∃ sl, h'.get? b = some { o with slots := sl }) (free : ∀ b o, b ∉ ch → s.heap.get? b = some o → H b = none → H' b = none)
    (there : ∀ b o, b ∉ ch → s.heap.get? b = some o → ∃ o', h'.get? b = some o')
    (tups : ∀ b xs, H b = some (.tup xs) → H' b = some (.tup xs)) (frzs : ∀ b o u, H b = some (.frz o u) → H' b = some (.frz o u)) (tbls : ∀ b ps, H b = some (.tbl ps) → ∃ more, H' b = some (.tbl (ps ++ more)))
    (ns : ∀ m, s.heap.Ns X.env.locals m → h'.Ns X.env.locals m) (hok : HOk X.prog X.w H' h') (hg : AllBare g') :
    Inv X pins σ H' { s with heap := h', gens := g', drawn := d', toks := t' } := by
  have neL : ∀ b o, X.s₀.heap.get? b = some o → b ≠ X.env.locals := fun b o e => Nat.ne_of_lt (Nat.lt_of_lt_of_le (Heap.lt_size e) I.ok.above)
  have neC : ∀ b o, X.s₀.heap.get? b = some o → b ∉ X.ex → b ∉ ch := fun b o e hx hb => by
    rcases (hch b hb).1 with z | z
    · exact hx z
    · exact absurd (Nat.lt_of_lt_of_le (Heap.lt_size e) z) (Nat.lt_irrefl _)
  have cellK : ∀ x c, X.env.cells.lookup x = some c → ∀ v, s.heap.IsCell c v → h'.IsCell c v := fun x c e v ⟨o, ho, hd⟩ => by
    have nch : c ∉ ch := fun z => (hch c z).2.2.1 x c e rfl
    by_cases hc : c ∈ X.fs
    · obtain ⟨sl, q⟩ := slot c o (I.cne x c e) hc nch ho (I.freeC x c e)
      exact ⟨_, q, hd⟩
    · exact ⟨o, keep c o (I.cne x c e) hc nch ho (I.freeC x c e), hd⟩
  refine ⟨I.ok, I.os, hg, ⟨fun b o e n hb hx => ?_, fun b o e n hb hx => ?_, fun b o e n hx => ?_, fun b o e hx => ?_, fun b xs e => tups b xs (I.base.tups b xs e), fun b o xs e => frzs b o xs (I.base.frzs b o xs e), fun b ps e => ?_⟩, ?_, fun x c e => ?_, ?_, fun x c e => ?_, fun p hp => ?_, hok, I.len⟩
  · exact keep b o (neL b o e) hb (neC b o e hx) (I.base.keep b o e n hb hx) (I.base.free b o e n hx)
  · obtain ⟨sl, e1⟩ := I.base.slot b o e n hb hx
    obtain ⟨sl', e2⟩ := slot b _ (neL b o e) hb (neC b o e hx) e1 (I.base.free b o e n hx)
    exact ⟨sl', e2⟩
  · obtain ⟨o', e1⟩ := I.base.there b o e hx
    exact free b o' (neC b o e hx) e1 (I.base.free b o e n hx)
  · obtain ⟨o', e1⟩ := I.base.there b o e hx
    exact there b o' (neC b o e hx) e1
  · obtain ⟨m1, e1⟩ := I.base.tbls b ps e
    obtain ⟨m2, e2⟩ := tbls b _ e1
    exact ⟨m1 ++ m2, by rw [e2, Array.append_assoc]⟩
  · obtain ⟨m, hn, hl⟩ := I.loc
    refine ⟨m, ns m hn, fun i x v e1 e2 e3 => ?_⟩
    obtain ⟨u, r, l⟩ := hl i x v e1 e2 e3
    refine ⟨u, r, ?_⟩
    rcases l with l | ⟨k, c, e, z⟩
    · exact .inl l
    · exact .inr ⟨k, c, e, cellK x c e _ z⟩
  · obtain ⟨v, z⟩ := I.cell x c e
    exact ⟨v, cellK x c e v z⟩
  · obtain ⟨m, ⟨o, _, _, ho, _⟩, _⟩ := I.loc
    exact free _ o (fun z => (hch _ z).2.1 rfl) ho I.free
  · obtain ⟨v, o, ho, hd⟩ := I.cell x c e
    exact free c o (fun z => (hch c z).2.2.1 x c e rfl) ho (I.freeC x c e)
  · obtain ⟨e, n, ne, nf, d⟩ := I.pin p hp
    have nch : p.1 ∉ ch := fun z => (hch p.1 z).2.2.2 p hp rfl
    exact ⟨keep p.1 p.2 ne nf nch e n, free p.1 p.2 nch e n, ne, nf, d⟩
theorem Inv.un {t' : Nat} (I : Inv X pins σ H s) (u : Un X.fs [] H H' s.heap h') (hok : HOk X.prog X.w H' h') : Inv X pins σ H' { s with heap := h', toks := t' } := by
  obtain ⟨m, ⟨o, es, ep, ho, r⟩, _⟩ := id I.loc
  obtain ⟨sl, hL⟩ := u.any ho I.free (by simp)
  exact I.step (g' := s.gens) (d' := s.drawn) (ch := []) (fun _ z => nomatch z) (fun b o _ hb _ e n => u.keep b o e n hb (by simp)) (fun b o _ hb _ e n => u.slot b o e n hb (by simp)) (fun b o _ e n => u.free b o e n (by simp)) (fun b o _ e => u.there b o e (by simp)) u.tups u.frzs u.tbls (fun m' hm => by
    obtain ⟨o', es', ep', ho', r'⟩ := hm
    rw [ho] at ho'; cases ho'
    exact ⟨_, es', ep', hL, r'⟩) hok I.bare
theorem Inv.call {g' : Array GenState} {t' : Nat} {d' : Drawn} {ch : List Addr} (I : Inv X pins σ H s) (u : Un (frs X.stack) ch H H' s.heap h') (hok : HOk X.prog X.w H' h') (hg : AllBare g')
    (hch : ∀ b ∈ ch, (b ∈ X.ex ∨ X.s₀.heap.objs.size ≤ b) ∧ b ≠ X.env.locals ∧ (∀ x c, X.env.cells.lookup x = some c → c ≠ b) ∧ ∀ p ∈ X.pn ++ pins, p.1 ≠ b) :
    Inv X pins σ H' { s with heap := h', gens := g', drawn := d', toks := t' } := by
  obtain ⟨m, ⟨o, es, ep, ho, r⟩, _⟩ := id I.loc
  obtain ⟨sl, hL⟩ := u.any ho I.free fun z => (hch _ z).2.1 rfl
  exact I.step (ch := ch) hch (fun b o hL hb hc e n => u.keep b o e n (fun z => (List.mem_cons.mp (I.stkSub b z)).elim hL hb) hc) (fun b o _ _ hc e n => u.any e n hc) (fun b o hc e n => u.free b o e n hc) (fun b o hc e => u.there b o e hc) u.tups u.frzs u.tbls (fun m' hm => by
    obtain ⟨o', es', ep', ho', r'⟩ := hm
    rw [ho] at ho'; cases ho'
    exact ⟨_, es', ep', hL, r'⟩) hok hg
theorem Inv.turned {t' : Nat} {it : Addr} (I : Inv X pins σ H s) (k : ∀ b o, b ≠ it → s.heap.get? b = some o → h'.get? b = some o) (hn : H it = none) (hL : it ≠ X.env.locals)
    (h1 : it ∈ X.ex ∨ X.s₀.heap.objs.size ≤ it) (h2 : ∀ x c, X.env.cells.lookup x = some c → c ≠ it) (h3 : ∀ p ∈ X.pn ++ pins, p.1 ≠ it) : Inv X pins σ H { s with heap := h', toks := t' } := by
  have nit : ∀ b u, H b = some u → b ≠ it := fun b u e z => by rw [z, hn] at e; cases e
  refine I.step (g' := s.gens) (d' := s.drawn) (ch := [it]) (fun b hb => ?_) (fun b o _ _ hc e _ => k b o (fun z => hc (by simp [z])) e) (fun b o _ _ hc e _ => ⟨o.slots, k b o (fun z => hc (by simp [z])) e⟩) (fun _ _ _ _ n => n)
    (fun b o hc e => ⟨o, k b o (fun z => hc (by simp [z])) e⟩) (fun _ _ e => e) (fun _ _ _ e => e) (fun b ps e => ⟨#[], by rw [e]; simp⟩) (fun m hm => ?_) (fun b u e => ?_) I.bare
  · have e : b = it := by simpa using hb
    subst e
    exact ⟨h1, hL, h2, h3⟩
  · obtain ⟨o, es, ep, ho, r⟩ := hm
    exact ⟨o, es, ep, k _ o (Ne.symm hL) ho, r⟩
  · refine (I.hok b u e).stay (fun c v hc q => k c v ?_ q) (fun _ q => q) fun _ _ q => q
    rcases hc with z | z
    · rw [z]; exact nit b u e
    · exact nit c _ z
theorem Inv.tok (I : Inv X pins σ H s) (t : Nat) : Inv X pins σ H { s with toks := t } := I.un (h' := s.heap) (t' := t) Un.refl I.hok
theorem Inv.kept {t' : Nat} (I : Inv X pins σ H s) (k : ∀ b u, s.heap.get? b = some u → h'.get? b = some u) : Inv X pins σ H { s with heap := h', toks := t' } := I.un (Un.kept k) (I.hok.kept k)
theorem Inv.laid {a : Addr} {o : HO} {t' : Nat} (I : Inv X pins σ H s) (k : ∀ b u, s.heap.get? b = some u → h'.get? b = some u) (hp : s.heap.objs.size ≤ a) (new : ObjOk X.prog X.w (upd H a o) h' a o) :
    Inv X pins σ (upd H a o) { s with heap := h', toks := t' } := I.un (Un.laid k hp (I.hok.fresh hp)) (I.hok.laid k hp new)
theorem Inv.write {x e : Addr} {o : HO} {t' : Nat} (I : Inv X pins σ H s) (mu : Mut (H x)) (he : e = x ∨ H e = some (.own x)) (k : ∀ b u, b ≠ e → s.heap.get? b = some u → h'.get? b = some u) (heo : ∃ u, h'.get? e = some u)
    (new : ObjOk X.prog X.w (upd H x o) h' x o) : Inv X pins σ (upd H x o) { s with heap := h', toks := t' } := I.un (Un.write mu he k heo) (I.hok.write mu he k heo new)
theorem Inv.pins_of {pins' : List (Addr × Obj)} (I : Inv X pins σ H s) (h : ∀ p ∈ pins', s.heap.get? p.1 = some p.2 ∧ H p.1 = none ∧ p.1 ≠ X.env.locals ∧ p.1 ∉ X.fs ∧ ∀ v, p.2.data ≠ .cell v) : Inv X pins' σ H s :=
  ⟨I.ok, I.os, I.bare, I.base, I.loc, I.cell, I.free, I.freeC, fun p hp => (List.mem_append.mp hp).elim (fun z => I.pin p (List.mem_append_left _ z)) (h p), I.hok, I.len⟩
theorem qdB {N : List Str} (hN : N.Nodup) {i j : Nat} {x : Str} (a : N[i]? = some x) (b : N[j]? = some x) : i = j := by
  obtain ⟨h1, e1⟩ := List.getElem?_eq_some_iff.mp a
  obtain ⟨h2, e2⟩ := List.getElem?_eq_some_iff.mp b
  exact (List.getElem_inj hN).mp (e1.trans e2.symm)
theorem qde {M : Model} {A : Around} {E : Value → Shared → Prop} {i : Nat} {x : Str} {v : V} {u : Value} {Q : Unit → Shared → Prop} (I : Inv X pins σ H s) (hN : X.N.Nodup) (hi : X.N[i]? = some x) (hx : Loc X.env.scope x) (r : RelV v u)
    (h : ∀ s', Inv X pins (σ.set i (some v)) H s' → (∃ a, Heap.SameBut a s.heap s'.heap ∧ (a = X.env.locals ∨ X.env.cells.lookup x = some a)) → Q () s') (hf : X.fn x = true ∨ X.env.scope.names.lookup x = some .local := by first | exact .inl rfl | exact .inr rfl | assumption) : wpAny M A (storeName X.env x u) Q E s := by
  obtain ⟨m, hn, hl⟩ := id I.loc
  have hcls : (X.env.scope.kind == .class || (X.env.scope.kind == .module && X.env.locals != X.env.globals)) = false := by rw [I.ok.kind]; rfl
  have hiσ : i < σ.length := by rw [I.len]; exact (List.getElem?_eq_some_iff.mp hi).1
  have cne := I.cne
  have tracked : ∀ {a : Addr} {h' : Heap}, (∃ o, s.heap.get? a = some o ∧ H a = none) → Heap.SameBut a s.heap h' → HOk X.prog X.w H h' := fun {a h'} ha hs b ob e => by
    obtain ⟨_, _, hfree⟩ := ha
    refine (I.hok b ob e).stay (fun c w' hc q => (hs.2 c ?_).trans q) (fun _ q => q) fun _ _ q => q
    rintro rfl
    rcases hc with rfl | hc
    · rw [hfree] at e; cases e
    · rw [hfree] at hc; cases hc
  rcases hx with hk | hk
  · refine wpAny_storeName_local hk hn (fun h' hn' hs => ?_) hcls
    obtain ⟨oL, _, _, hoL, _⟩ := id hn
    refine h _ ⟨I.ok, I.os, I.bare, ⟨fun b o e n hb hx => ?_, fun b o e n hb hx => ?_, I.base.free, fun b o e hx => ?_, I.base.tups, I.base.frzs, I.base.tbls⟩, ⟨_, hn', fun j y v' e1 e2 e3 => ?_⟩, fun y c e => ?_, I.free, I.freeC, fun p hp => ?_, tracked ⟨oL, hoL, I.free⟩ hs, by simpa using I.len⟩ ⟨_, hs, .inl rfl⟩
    · exact (hs.2 b (Nat.ne_of_lt (Nat.lt_of_lt_of_le (Heap.lt_size e) I.ok.above))).trans (I.base.keep b o e n hb hx)
    · obtain ⟨sl, e1⟩ := I.base.slot b o e n hb hx
      exact ⟨sl, (hs.2 b (Nat.ne_of_lt (Nat.lt_of_lt_of_le (Heap.lt_size e) I.ok.above))).trans e1⟩
    · obtain ⟨o', e1⟩ := I.base.there b o e hx
      exact ⟨o', (hs.2 b (Nat.ne_of_lt (Nat.lt_of_lt_of_le (Heap.lt_size e) I.ok.above))).trans e1⟩
    · by_cases hj : j = i
      · subst hj
        rw [hi] at e1; cases e1
        rw [List.getElem?_set_self hiσ] at e2
        cases e2
        exact ⟨u, r, .inl ⟨hk, by simp⟩⟩
      · rw [List.getElem?_set_ne (Ne.symm hj)] at e2
        obtain ⟨u', r', q⟩ := hl j y v' e1 e2 e3
        refine ⟨u', r', ?_⟩
        rcases q with ⟨k, e⟩ | ⟨k, c, e, z⟩
        · refine .inl ⟨k, ?_⟩
          have : y ≠ x := fun e => hj (qdB hN e1 (e ▸ hi))
          simp [this, e]
        · exact .inr ⟨k, c, e, z.sameBut hs (cne y c e)⟩
    · obtain ⟨w', z⟩ := I.cell y c e
      exact ⟨w', z.sameBut hs (cne y c e)⟩
    · obtain ⟨e, n, ne, nf, d⟩ := I.pin p hp
      exact ⟨(hs.2 p.1 ne).trans e, n, ne, nf, d⟩
  · have hfn : X.fn x = true := by
      rcases hf with z | z
      · exact z
      · rw [z] at hk; cases hk
    obtain ⟨c, hc⟩ := I.ok.has x (.inl hk)
    obtain ⟨w', z⟩ := I.cell x c hc
    refine wpAny_storeName_cell I.ok.kind hk hc z (fun h' hc' hs => ?_)
    obtain ⟨oc, hoc, hocd⟩ := id z
    refine h { s with heap := h' } ⟨I.ok, I.os, I.bare, ⟨fun b o e n hb hx => ?_, fun b o e n hb hx => ?_, I.base.free, fun b o e hx => ?_, I.base.tups, I.base.frzs, I.base.tbls⟩, ⟨m, hn.sameBut hs (Ne.symm (cne x c hc)), fun j y v' e1 e2 e3 => ?_⟩, fun y c' e => ?_, I.free, I.freeC, fun p hp => ?_, tracked ⟨oc, hoc, I.freeC x c hc⟩ hs, by simpa using I.len⟩ ⟨c, hs, .inr hc⟩
    · exact (hs.2 b (Nat.ne_of_lt (Nat.lt_of_lt_of_le (Heap.lt_size e) (I.ok.cab x c hfn hc)))).trans (I.base.keep b o e n hb hx)
    · obtain ⟨sl, e1⟩ := I.base.slot b o e n hb hx
      exact ⟨sl, (hs.2 b (Nat.ne_of_lt (Nat.lt_of_lt_of_le (Heap.lt_size e) (I.ok.cab x c hfn hc)))).trans e1⟩
    · obtain ⟨o', e1⟩ := I.base.there b o e hx
      exact ⟨o', (hs.2 b (Nat.ne_of_lt (Nat.lt_of_lt_of_le (Heap.lt_size e) (I.ok.cab x c hfn hc)))).trans e1⟩
    · by_cases hj : j = i
      · subst hj
        rw [hi] at e1; cases e1
        rw [List.getElem?_set_self hiσ] at e2
        cases e2
        exact ⟨u, r, .inr ⟨.inl hk, c, hc, hc'⟩⟩
      · rw [List.getElem?_set_ne (Ne.symm hj)] at e2
        obtain ⟨u', r', q⟩ := hl j y v' e1 e2 e3
        refine ⟨u', r', ?_⟩
        rcases q with q | ⟨k, c', e, z'⟩
        · exact .inl q
        · refine .inr ⟨k, c', e, z'.sameBut hs ?_⟩
          rintro rfl
          exact hj (qdB hN e1 (I.ok.inj _ _ _ e hc ▸ hi))
    · by_cases hcc : c' = c
      · subst hcc; exact ⟨_, hc'⟩
      · obtain ⟨w2, z2⟩ := I.cell y c' e
        exact ⟨w2, z2.sameBut hs hcc⟩
    · obtain ⟨e, n, ne, nf, d⟩ := I.pin p hp
      refine ⟨(hs.2 p.1 ?_).trans e, n, ne, nf, d⟩
      intro q
      rw [q, hoc] at e
      have q' : oc = p.2 := Option.some.inj e
      exact d w' (by rw [← q']; exact hocd)
theorem qdI {M : Model} {A : Around} {E : Value → Shared → Prop} {i : Nat} {x : Str} {v : V} {u : Value} {Q : Unit → Shared → Prop} (I : Inv X pins σ H s) (hN : X.N.Nodup) (hi : X.N[i]? = some x) (hx : Loc X.env.scope x) (r : RelV v u)
    (h : ∀ s', Inv X pins (σ.set i (some v)) H s' → Q () s') (hf : X.fn x = true ∨ X.env.scope.names.lookup x = some .local := by first | exact .inl rfl | exact .inr rfl | assumption) : wpAny M A (storeName X.env x u) Q E s :=
  qde I hN hi hx r (fun s' I' _ => h s' I') hf
theorem Inv.call' {s' : Shared} {ch : List Addr} (I : Inv X pins σ H s) (ho : s'.os = s.os) (u : Un (frs X.stack) ch H H' s.heap s'.heap) (hok : HOk X.prog X.w H' s'.heap) (hg : AllBare s'.gens)
    (hch : ∀ b ∈ ch, (b ∈ X.ex ∨ X.s₀.heap.objs.size ≤ b) ∧ b ≠ X.env.locals ∧ (∀ x c, X.env.cells.lookup x = some c → c ≠ b) ∧ ∀ p ∈ X.pn ++ pins, p.1 ≠ b) : Inv X pins σ H' s' := by
  obtain ⟨h', g', d', t', o'⟩ := s'
  have e : o' = s.os := ho
  subst e
  exact I.call (g' := g') (t' := t') (d' := d') u hok hg hch
end
abbrev XK := Value → Option Addr → Hp → Prop
abbrev St := List (Option V)
abbrev VK := V → Hp → Prop
abbrev TE := St → Hp → VK → Prop
abbrev TT := St → Hp → (Bool → Hp → Prop) → Prop
abbrev TA := St → Hp → (List V → Hp → Prop) → Prop
structure Ends where
  nx : St → Hp → Prop
  rt : VK
  bk : St → Hp → Prop := fun _ _ => False
  ct : St → Hp → Prop := fun _ _ => False
abbrev TS := Ends → St → Hp → Prop
def EP (X : Cx) (pins : List (Addr × Obj)) (σ : St) (Q : VK) (u : Value) (s' : Shared) : Prop := ∃ v H', Inv X pins σ H' s' ∧ RelV v u ∧ Q v H'
def TP (X : Cx) (pins : List (Addr × Obj)) (σ : St) (Q : Bool → Hp → Prop) (b : Bool) (s' : Shared) : Prop := ∃ H', Inv X pins σ H' s' ∧ Q b H'
def AP (X : Cx) (pins : List (Addr × Obj)) (σ : St) (Q : List V → Hp → Prop) (us : List Value) (s' : Shared) : Prop := ∃ vs H', Inv X pins σ H' s' ∧ Vals vs us ∧ Q vs H'
def SP (X : Cx) (pins : List (Addr × Obj)) (D : Ends) (f : Flow) (s' : Shared) : Prop :=
  match f with
  | .next => ∃ σ' H', Inv X pins σ' H' s' ∧ D.nx σ' H'
  | .brk => ∃ σ' H', Inv X pins σ' H' s' ∧ D.bk σ' H'
  | .cont => ∃ σ' H', Inv X pins σ' H' s' ∧ D.ct σ' H'
  | .ret u => ∃ v σ' H', Inv X pins σ' H' s' ∧ RelV v u ∧ D.rt v H'
def PE (X : Cx) (e : Expr) (t : TE) : Prop :=
  ∀ (pins : List (Addr × Obj)) (s : Shared) (σ : St) (H : Hp) (Q : VK), Inv X pins σ H s → t σ H Q → wpAny (model X.prog X.w) X.A (eval e X.env) (EP X pins σ Q) X.xe s
def PT (X : Cx) (e : Expr) (t : TT) : Prop :=
  ∀ (pins : List (Addr × Obj)) (s : Shared) (σ : St) (H : Hp) (Q : Bool → Hp → Prop), Inv X pins σ H s → t σ H Q → wpAny (model X.prog X.w) X.A (isTrue e X.env (eval e X.env)) (TP X pins σ Q) X.xe s
def PW (X : Cx) (e : Expr) (t : TT) : Prop :=
  ∀ (whole : Sem Value) (pins : List (Addr × Obj)) (s : Shared) (σ : St) (H : Hp) (Q : Bool → Hp → Prop), Inv X pins σ H s → t σ H Q → wpAny (model X.prog X.w) X.A (isTrue e X.env whole) (TP X pins σ Q) X.xe s
theorem PW.pt {X : Cx} {e : Expr} {t : TT} (h : PW X e t) : PT X e t := h _
def PA (X : Cx) (es : List Expr) (t : TA) : Prop :=
  ∀ (pos : Pos) (pins : List (Addr × Obj)) (s : Shared) (σ : St) (H : Hp) (Q : List V → Hp → Prop), Inv X pins σ H s → t σ H Q → wpAny (model X.prog X.w) X.A (spliced (backTo pos (starEach es X.env))) (AP X pins σ Q) X.xe s
def PS (X : Cx) (st : Stmt) (t : TS) : Prop :=
  ∀ (pins : List (Addr × Obj)) (s : Shared) (σ : St) (H : Hp) (D : Ends), Inv X pins σ H s → t D σ H → wpAny (model X.prog X.w) X.A (exec st X.env) (SP X pins D) X.xe s
def PSs (X : Cx) (st : List Stmt) (t : TS) : Prop :=
  ∀ (pins : List (Addr × Obj)) (s : Shared) (σ : St) (H : Hp) (D : Ends), Inv X pins σ H s → t D σ H → wpAny (model X.prog X.w) X.A (execs st X.env) (SP X pins D) X.xe s
theorem thn {α : Type} {t : Sem α} {Q Q' : α → Shared → Prop} {M : Model} {A : Around} {E : Value → Shared → Prop} {s : Shared} (h : wpAny M A t Q E s) (hQ : ∀ a s, Q a s → Q' a s) : wpAny M A t Q' E s := wpAny_mono h hQ fun _ _ x => x
end L2
namespace L2
open PySem PySem.Spec PyProof.Rows
section
variable {X : Cx}
def tVar (i : Nat) : TE := fun σ H Q => ∃ v, σ[i]? = some (some v) ∧ Q v H
def tC (v : V) : TE := fun _ H Q => Q v H
theorem pe_var {i : Nat} {x : Str} {pos : Pos} (hN : X.N[i]? = some x) (hv : Vis X.env.scope x) (hd : (x == ("__debug__" : Str)) = false := by decide) (hcd : (x == ("__classdict__" : Str)) = false := by decide) : PE X (.Name x pos) (tVar i) := by
  intro pins s σ H Q I h
  obtain ⟨v, e, h⟩ := h
  obtain ⟨m, hn, hl⟩ := I.loc
  obtain ⟨u, r, l⟩ := hl i x v hN e hv
  have fin : EP X pins σ Q u s := ⟨v, H, I, r, h⟩
  rcases l with ⟨hk, hm⟩ | ⟨hk, c, hc, hcell⟩
  · exact wpAny_Name (wpAny_loadName_local I.ok.kind hk hn hm fin) hd
  · rcases hk with hk | hk
    · exact wpAny_Name (wpAny_loadName_cell I.ok.kind hk hc hcell fin) hd
    · exact wpAny_Name (wpAny_loadName_free I.ok.kind hk hc hcell fin hcd) hd
theorem qae {i j pos} : PE X (.Constant (.int i) j pos) (tC (.int i)) := fun _ _ _ H _ I h => wpAny_Constant_int ⟨.int i, H, I.tok _, ⟨_, rfl⟩, h⟩
theorem qbT {b j pos} : PE X (.Constant (.bool b) j pos) (tC (.bl b)) := fun _ _ _ H _ I h => Constant_bool ⟨.bl b, H, I, rfl, h⟩
theorem qeE {j pos} : PE X (.Constant .none j pos) (tC .non) := fun _ _ _ H _ I h => Constant_none ⟨.non, H, I, rfl, h⟩
theorem qam {x j pos} : PE X (.Constant (.str x) j pos) (tC (.str x)) := fun _ _ _ H _ I h => Calls.Constant_str ⟨.str x, H, I.tok _, ⟨_, rfl⟩, h⟩
def Gl (X : Cx) (x : Str) : Prop := X.env.kindOf x = some .globalImplicit
theorem qdv {E : Value → Shared → Prop} {pins : List (Addr × Obj)} {s : Shared} {σ : St} {H : Hp} {x : Str} {u : Value} {pos : Pos} {Q : Value → Shared → Prop} (I : Inv X pins σ H s) (hg : Gl X x) (hm : X.mg x = some u) (h : Q u s)
    (hd : (x == ("__debug__" : Str)) = false := by decide) : wpAny (model X.prog X.w) X.A (eval (.Name x pos) X.env) Q E s :=
  Calls.Name_function_global I.ok.kind hg (Calls.loadGlobal_global (by rw [I.ok.glob]; exact I.mod.glob.keeps I.bk) hm h) hd
theorem qck {E : Value → Shared → Prop} {pins : List (Addr × Obj)} {s : Shared} {σ : St} {H : Hp} {x : Str} {u : Value} {pos : Pos} {Q : Value → Shared → Prop} (I : Inv X pins σ H s) (hg : Gl X x) (hm : X.mg x = none) (hv : bootBuiltins x = some u) (h : Q u s)
    (hn : x ≠ "__name__" := by decide) (hd : (x == ("__debug__" : Str)) = false := by decide) : wpAny (model X.prog X.w) X.A (eval (.Name x pos) X.env) Q E s := by
  obtain ⟨mb, h1, h2⟩ := I.mod.blt
  exact Calls.Name_function_global I.ok.kind hg (Calls.loadGlobal_builtin (by rw [I.ok.glob]; exact I.mod.glob.keeps I.bk) hm (by rw [I.ok.blt]; exact h1.keeps I.bk) ((h2 x hn).trans hv) h) hd
theorem qax {x : Str} {v : V} {u : Value} {pos : Pos} (hg : Gl X x) (hm : X.mg x = some u) (r : RelV v u) (hd : (x == ("__debug__" : Str)) = false := by decide) : PE X (.Name x pos) (tC v) :=
  fun _ _ _ H _ I h => qdv I hg hm ⟨v, H, I, r, h⟩ hd
theorem pe_bltn {x : Str} {v : V} {u : Value} {pos : Pos} (hg : Gl X x) (hm : X.mg x = none) (hv : bootBuiltins x = some u) (r : RelV v u) (hn : x ≠ "__name__" := by decide) (hd : (x == ("__debug__" : Str)) = false := by decide) : PE X (.Name x pos) (tC v) :=
  fun _ _ _ H _ I h => qck I hg hm hv ⟨v, H, I, r, h⟩ hn hd
variable {a b : Expr} {ta tb : TE} {pos : Pos}
def PC (X : Cx) (op : CmpOp) (a b : Expr) (t : TE) : Prop :=
  ∀ (pins : List (Addr × Obj)) (s : Shared) (σ : St) (H : Hp) (Q : VK), Inv X pins σ H s → t σ H Q →
    wpAny (model X.prog X.w) X.A (eval a X.env) (fun v s₁ => wpAny (model X.prog X.w) X.A (eval b X.env) (fun u s₂ => wpAny (model X.prog X.w) X.A (compareOp op v u) (EP X pins σ Q) X.xe s₂) X.xe s₁) X.xe s
theorem nobehind (b : Expr) {op : CmpOp} (h : op ≠ .In) (h2 : op ≠ .NotIn) : behindInMarks op b = false := by
  have e1 : (op == CmpOp.In) = false := by cases op <;> first | rfl | exact absurd rfl h
  have e2 : (op == CmpOp.NotIn) = false := by cases op <;> first | rfl | exact absurd rfl h2
  cases b <;> simp [behindInMarks, e1, e2]
def tIsN (ta : TE) : TE := fun σ H Q => ta σ H fun x H1 => Q (.bl (decide (x = .non))) H1
def tNotN (ta : TE) : TE := fun σ H Q => ta σ H fun x H1 => Q (.bl (!decide (x = .non))) H1
theorem RelV.none_iff {x : V} {v : Value} (r : RelV x v) : (v == Value.none) = decide (x = .non) := by
  cases x with
  | non => cases r; rfl
  | bl _ => cases r; rfl
  | int _ => obtain ⟨t, rfl⟩ := r; rfl
  | str _ => obtain ⟨t, rfl⟩ := r; rfl
  | byt _ => obtain ⟨t, rfl⟩ := r; rfl
  | flt _ => obtain ⟨t, rfl⟩ := r; rfl
  | ref _ => cases r; rfl
  | ty _ => cases r; rfl
theorem qeO {j pos'} (ha : PE X a ta) : PC X .Is a (.Constant .none j pos') (tIsN ta) := by
  intro pins s σ H Q I h
  refine thn (ha pins s σ H _ I h) fun v s1 ⟨x, H1, I1, r1, q1⟩ => ?_
  exact Constant_none (is_none_gen ⟨.bl _, H1, I1, by rw [r1.none_iff]; rfl, q1⟩)
theorem qel {j pos'} (ha : PE X a ta) : PC X .IsNot a (.Constant .none j pos') (tNotN ta) := by
  intro pins s σ H Q I h
  refine thn (ha pins s σ H _ I h) fun v s1 ⟨x, H1, I1, r1, q1⟩ => ?_
  exact Constant_none (isnot_none_gen ⟨.bl _, H1, I1, by rw [r1.none_iff]; rfl, q1⟩)
def tB (t : TE) : TT := fun σ H Q => t σ H fun x H1 => ∃ c, x = .bl c ∧ Q c H1
theorem qct {op : CmpOp} {t : TE} (h : PC X op a b t) (h1 : behindInMarks op b = false := by first | exact nobehind _ (by decide) (by decide) | rfl) : PT X (.Compare a [op] [b] pos) (tB t) := by
  intro pins s σ H Q I hw
  refine wpAny_isTrue_Compare1 (thn (h pins s σ H _ I hw) fun v s1 h1 => thn h1 fun u s2 h2 => thn h2 fun c s3 ⟨x, H1, I1, r1, q1⟩ => ?_) h1
  obtain ⟨d, rfl, q⟩ := q1
  cases r1
  exact wpAny_truthy_bool ⟨H1, I1, q⟩
theorem qcJ {e : Expr} {t : TE} (h : PE X e t) (he : ∀ whole, isTrue e X.env whole = (do let v ← whole; standAt e.pos; holding [v] (truthy v)) := by intro _; rfl) : PT X e (tB t) := by
  intro pins s σ H Q I hw
  refine isTrue_plain (thn (h pins s σ H _ I hw) fun v s1 ⟨x, H1, I1, r1, q1⟩ => ?_) (he _)
  obtain ⟨d, rfl, q⟩ := q1
  cases r1
  exact wpAny_truthy_bool ⟨H1, I1, q⟩
variable {tA tB' : TT} {rest : List Expr}
def tAnd (t u : TT) : TT := fun σ H Q => t σ H fun c H1 => if c = true then u σ H1 Q else Q false H1
def tOr (t u : TT) : TT := fun σ H Q => t σ H fun c H1 => if c = true then Q true H1 else u σ H1 Q
def tNot (t : TT) : TT := fun σ H Q => t σ H fun c H1 => Q (!c) H1
theorem qa7 (ha : PT X a tA) : PW X (.BoolOp .And [a] pos) tA := by
  intro wh pins s σ H Q I h
  refine isTrue_and (thn (ha pins s σ H Q I h) fun c s1 e => ?_)
  cases c with
  | true => exact isTrue_and_nil e
  | false => exact e
theorem qbX (ha : PT X a tA) : PW X (.BoolOp .Or [a] pos) tA := by
  intro wh pins s σ H Q I h
  refine isTrue_or (thn (ha pins s σ H Q I h) fun c s1 e => ?_)
  cases c with
  | false => exact isTrue_or_nil e
  | true => exact e
theorem qbn (ha : PT X a tA) (hb : PW X (.BoolOp .And (b :: rest) pos) tB') : PW X (.BoolOp .And (a :: b :: rest) pos) (tAnd tA tB') := by
  intro wh pins s σ H Q I h
  refine isTrue_and (thn (ha pins s σ H _ I h) fun c s1 ⟨H1, I1, q1⟩ => ?_)
  cases c with
  | true => exact hb wh pins s1 σ H1 Q I1 q1
  | false => exact ⟨H1, I1, q1⟩
theorem qcw (ha : PT X a tA) (hb : PW X (.BoolOp .Or (b :: rest) pos) tB') : PW X (.BoolOp .Or (a :: b :: rest) pos) (tOr tA tB') := by
  intro wh pins s σ H Q I h
  refine isTrue_or (thn (ha pins s σ H _ I h) fun c s1 ⟨H1, I1, q1⟩ => ?_)
  cases c with
  | true => exact ⟨H1, I1, q1⟩
  | false => exact hb wh pins s1 σ H1 Q I1 q1
theorem qeP (ha : PT X a tA) : PT X (.UnaryOp .Not a pos) (tNot tA) := by
  intro pins s σ H Q I h
  exact isTrue_not (ha pins s σ H (fun c H1 => Q (!c) H1) I h)
def tOrV (ta tb : TE) : TE := fun σ H Q => ta σ H fun x H1 => ∃ c, x = .bl c ∧ if c = true then Q (.bl true) H1 else tb σ H1 Q
def tNotV (ta : TE) : TE := fun σ H Q => ta σ H fun x H1 => ∃ c, x = .bl c ∧ Q (.bl (!c)) H1
theorem qeT {op} {t : TE} (h : PE X a t) : PE X (.BoolOp op [a] pos) t := fun pins s σ H Q I hw => BoolOp_one (h pins s σ H Q I hw)
theorem qe6 (ha : PE X a ta) (hb : PE X (.BoolOp .Or (b :: rest) pos) tb) : PE X (.BoolOp .Or (a :: b :: rest) pos) (tOrV ta tb) := by
  intro pins s σ H Q I h
  refine BoolOp_or (thn (ha pins s σ H _ I h) fun v s1 ⟨x, H1, I1, r1, q1⟩ => ?_)
  obtain ⟨c, rfl, q1⟩ := q1
  cases r1
  refine wpAny_truthy_bool ?_
  cases c with
  | false => exact hb pins s1 σ H1 Q I1 q1
  | true => exact ⟨.bl true, H1, I1, rfl, q1⟩
theorem pe_not (ha : PE X a ta) : PE X (.UnaryOp .Not a pos) (tNotV ta) := by
  intro pins s σ H Q I h
  refine UnaryOp_ (thn (ha pins s σ H _ I h) fun v s1 ⟨x, H1, I1, r1, q1⟩ => ?_)
  obtain ⟨c, rfl, q1⟩ := q1
  cases r1
  exact not_of (wpAny_truthy_bool ⟨.bl (!c), H1, I1, rfl, q1⟩)
end
end L2
namespace L2
open PySem PySem.Spec PyProof.Rows
def SqL (K : PySem.W.Frag) (H : Hp) (a : Addr) (xs : List V) : Prop :=
  Rd H a (.lst xs) ∨
    ∃ (o : Obj) (its : Array Value) (n : Nat), K.lookup a = some o ∧ o.cls = .type "list" ∧ o.dict = none ∧ o.data = .seq its n ∧ its.size ≤ sizeLine ∧ Vals xs its.toList
def SqT (K : PySem.W.Frag) (H : Hp) (a : Addr) (xs : List V) : Prop :=
  Rd H a (.tup xs) ∨
    ∃ (o : Obj) (its : Array Value) (n : Nat), K.lookup a = some o ∧ o.cls = .type "tuple" ∧ o.data = .seq its n ∧ its.size ≤ sizeLine ∧ Vals xs its.toList
def absV : Value → Option V
  | .none => some .non
  | .bool b => some (.bl b)
  | .int i _ => some (.int i)
  | .str x _ => some (.str x)
  | .bytes b _ => some (.byt b)
  | .float b _ => some (.flt b)
  | .ref a => some (.ref a)
  | .type n => some (.ty n)
  | _ => none
theorem RelV.abs {x : V} {u : Value} (r : RelV x u) : absV u = some x := by
  cases x with
  | non => cases r; rfl
  | bl _ => cases r; rfl
  | int _ => obtain ⟨t, rfl⟩ := r; rfl
  | str _ => obtain ⟨t, rfl⟩ := r; rfl
  | byt _ => obtain ⟨t, rfl⟩ := r; rfl
  | flt _ => obtain ⟨t, rfl⟩ := r; rfl
  | ref _ => cases r; rfl
  | ty _ => cases r; rfl
theorem RelV.inj {x y : V} {u : Value} (r : RelV x u) (q : RelV y u) : x = y := Option.some.inj (r.abs.symm.trans q.abs)
theorem Vals.inj : ∀ {xs ys : List V} {us : List Value}, Vals xs us → Vals ys us → xs = ys
  | _, _, _, .nil, .nil => rfl
  | _, _, _, .cons r t, .cons r' t' => by rw [r.inj r', Vals.inj t t']
section
variable {X : Cx} {pins : List (Addr × Obj)} {σ : St} {H : Hp} {s : Shared} {a : Addr} {xs ys : List V}
theorem SqL.of {K : PySem.W.Frag} (h : H a = some (.lst xs)) : SqL K H a xs := .inl (.inl h)
theorem SqT.of {K : PySem.W.Frag} (h : H a = some (.tup xs)) : SqT K H a xs := .inl (.inl h)
theorem Inv.list (I : Inv X pins σ H s) (h : SqL X.K H a xs) : ∃ its : List Value, Vals xs its ∧ PlainL s.heap a its.toArray ∧ xs.length ≤ sizeLine := by
  rcases h with h | ⟨o, its, n, hk, hc, hd, hs, hz, r⟩
  · obtain ⟨z, its, n, r, e⟩ := h.ok I.hok
    exact ⟨its, r, ⟨_, n, e, rfl, rfl, rfl⟩, z⟩
  · refine ⟨its.toList, r, ⟨o, n, I.kIn a o hk, hc, hd, by simpa using hs⟩, ?_⟩
    have e := r.length
    simp only [Array.length_toList] at e
    omega
theorem Inv.tuple (I : Inv X pins σ H s) (h : SqT X.K H a xs) : ∃ its : List Value, Vals xs its ∧ IsTup s.heap a its.toArray ∧ xs.length ≤ sizeLine := by
  rcases h with h | ⟨o, its, n, hk, hc, hs, hz, r⟩
  · obtain ⟨z, its, r, p⟩ := h.ok I.hok
    exact ⟨its, r, p, z⟩
  · refine ⟨its.toList, r, ⟨o, I.kIn a o hk, hc, n, by simpa using hs⟩, ?_⟩
    have e := r.length
    simp only [Array.length_toList] at e
    omega
theorem Inv.list_inj (I : Inv X pins σ H s) (h : SqL X.K H a xs) (h' : SqL X.K H a ys) : xs = ys := by
  obtain ⟨its, r, ⟨o, n, e, _, _, d⟩, _⟩ := I.list h
  obtain ⟨its', r', ⟨o', n', e', _, _, d'⟩, _⟩ := I.list h'
  rw [e] at e'; cases e'
  rw [d] at d'
  injection d' with d1 _
  have : its = its' := by simpa using congrArg Array.toList d1
  subst this
  exact r.inj r'
theorem Inv.tuple_inj (I : Inv X pins σ H s) (h : SqT X.K H a xs) (h' : SqT X.K H a ys) : xs = ys := by
  obtain ⟨its, r, ⟨o, e, _, n, d⟩, _⟩ := I.tuple h
  obtain ⟨its', r', ⟨o', e', _, n', d'⟩, _⟩ := I.tuple h'
  rw [e] at e'; cases e'
  rw [d] at d'
  injection d' with d1 _
  have : its = its' := by simpa using congrArg Array.toList d1
  subst this
  exact r.inj r'
end
abbrev Cx.wish (X : Cx) (E : Value → Shared → Prop) : Cx := { X with xe := E }
abbrev Cx.nox (X : Cx) : Cx := X.wish fun _ _ => False
theorem Cx.Ok.wish {X : Cx} (ok : X.Ok) (E : Value → Shared → Prop) : (X.wish E).Ok :=
  ⟨ok.mod, ok.kind, ok.glob, ok.blt, ok.above, ok.inj, ok.has, ok.cab, ok.hd, ok.frames, ok.stk, ok.exf, ok.bs, ok.bsz, ok.noex, ok.exfs, ok.funs, ok.frf⟩
theorem Cx.Ok.unwish {X : Cx} {E : Value → Shared → Prop} (ok : (X.wish E).Ok) : X.Ok :=
  ⟨ok.mod, ok.kind, ok.glob, ok.blt, ok.above, ok.inj, ok.has, ok.cab, ok.hd, ok.frames, ok.stk, ok.exf, ok.bs, ok.bsz, ok.noex, ok.exfs, ok.funs, ok.frf⟩
section
variable {X : Cx} {pins : List (Addr × Obj)} {σ : St} {H : Hp} {s : Shared} {E : Value → Shared → Prop}
theorem Inv.wish (I : Inv X pins σ H s) (E : Value → Shared → Prop) : Inv (X.wish E) pins σ H s := ⟨I.ok.wish E, I.os, I.bare, I.base, I.loc, I.cell, I.free, I.freeC, I.pin, I.hok, I.len⟩
theorem Inv.unwish (I : Inv (X.wish E) pins σ H s) : Inv X pins σ H s := ⟨I.ok.unwish, I.os, I.bare, I.base, I.loc, I.cell, I.free, I.freeC, I.pin, I.hok, I.len⟩
theorem SP.unwish {D : Ends} {f : Flow} {s' : Shared} (h : SP (X.wish E) pins D f s') : SP X pins D f s' := by
  cases f with
  | next => obtain ⟨σ', H', I, q⟩ := h; exact ⟨σ', H', I.unwish, q⟩
  | brk => obtain ⟨σ', H', I, q⟩ := h; exact ⟨σ', H', I.unwish, q⟩
  | cont => obtain ⟨σ', H', I, q⟩ := h; exact ⟨σ', H', I.unwish, q⟩
  | ret u => obtain ⟨v, σ', H', I, r, q⟩ := h; exact ⟨v, σ', H', I.unwish, r, q⟩
theorem PSs.nox {st : List Stmt} {t : TS} (h : PSs X.nox st t) : PSs X st t := fun pins s σ H D I hw =>
  wpAny_mono (h pins s σ H D (I.wish _) hw) (fun _ _ q => q.unwish) fun _ _ z => False.elim z
end
section
variable {X : Cx} {st : Stmt} {rest : List Stmt} {t u : TS} {e : Expr} {te : TE} {pos : Pos}
def tNext : TS := fun D σ H => D.nx σ H
def tSeq (t u : TS) : TS := fun D σ H => t { D with nx := u D } σ H
theorem pss_nil : PSs X [] tNext := fun _ _ σ H _ I h => wpAny_execs_nil ⟨σ, H, I, h⟩
theorem qad (h1 : PS X st t) (h2 : PSs X rest u) : PSs X (st :: rest) (tSeq t u) := by
  intro pins s σ H D I h
  refine wpAny_execs_cons (thn (h1 pins s σ H { D with nx := u D } I h) fun f s1 q => ?_)
  cases f with
  | next =>
    obtain ⟨σ', H', I', q⟩ := q
    exact h2 pins s1 σ' H' D I' q
  | ret v => exact q
  | brk => exact q
  | cont => exact q
theorem qaf (h1 : PS X st t) : PSs X [st] t := by
  intro pins s σ H D I h
  refine wpAny_execs_cons (thn (h1 pins s σ H D I h) fun f s1 q => ?_)
  cases f with
  | next => exact wpAny_execs_nil q
  | ret v => exact q
  | brk => exact q
  | cont => exact q
theorem Inv.quiet {pins : List (Addr × Obj)} {σ : St} {H : Hp} {s : Shared} (I : Inv X pins σ H s) : interactive X.env = false := by simp [interactive, I.ok.kind]
def tDrop (te : TE) : TS := fun D σ H => te σ H fun _ H1 => D.nx σ H1
theorem qaN (he : PE X e te) (hs : swapsWith e none pos.line X.env = pure false := by rfl) : PS X (.Expr e pos) (tDrop te) := by
  intro pins s σ H D I h
  exact wpAny_Expr_any (thn (he pins s σ H _ I h) fun v s1 ⟨x, H1, I1, r1, q1⟩ => ⟨σ, H1, I1, q1⟩) I.quiet hs
def tRet (te : TE) : TS := fun D σ H => te σ H D.rt
theorem qau (he : PE X e te) : PS X (.Return (some e) pos) (tRet te) := by
  intro pins s σ H D I h
  exact wpAny_Return_some (thn (he pins s σ H _ I h) fun v s1 ⟨x, H1, I1, r1, q1⟩ => ⟨x, σ, H1, I1, r1, q1⟩)
def tIfS (c : TT) (t u : TS) : TS := fun D σ H => c σ H fun b H1 => if b = true then t D σ H1 else u D σ H1
theorem qaK {c : Expr} {a b : List Stmt} {tc : TT} (hc : PT X c tc) (ha : PSs X a t) (hb : PSs X b u) : PS X (.If c a b pos) (tIfS tc t u) := by
  intro pins s σ H D I h
  refine wpAny_If (thn (hc pins s σ H _ I h) fun d s1 ⟨H1, I1, q1⟩ => ?_)
  cases d with
  | true => exact ha pins s1 σ H1 D I1 q1
  | false => exact hb pins s1 σ H1 D I1 q1
end
abbrev TG := V → St → Hp → (St → Hp → Prop) → Prop
abbrev TGs := List V → St → Hp → (St → Hp → Prop) → Prop
def PG (X : Cx) (target : Expr) (t : TG) : Prop :=
  ∀ (pins : List (Addr × Obj)) (s : Shared) (σ : St) (H : Hp) (v : V) (u : Value) (Q : St → Hp → Prop), Inv X pins σ H s → RelV v u → t v σ H Q →
    wpAny (model X.prog X.w) X.A (assign target X.env u) (fun _ s' => ∃ σ' H', Inv X pins σ' H' s' ∧ Q σ' H') X.xe s
def PGs (X : Cx) (ts : List Expr) (t : TGs) : Prop :=
  ∀ (pins : List (Addr × Obj)) (s : Shared) (σ : St) (H : Hp) (vs : List V) (us : List Value) (Q : St → Hp → Prop), Inv X pins σ H s → Vals vs us → t vs σ H Q →
    wpAny (model X.prog X.w) X.A (assignInOrder ((assignEach ts X.env).map (·.2)) us) (fun _ s' => ∃ σ' H', Inv X pins σ' H' s' ∧ Q σ' H') X.xe s
abbrev TSet := V → V → V → Hp → (Hp → Prop) → Prop
def PSet (X : Cx) (t : TSet) : Prop :=
  ∀ (pins : List (Addr × Obj)) (s : Shared) (σ : St) (H : Hp) (o i v : V) (ov iv u : Value) (Q : Hp → Prop), Inv X pins σ H s → RelV o ov → RelV i iv → RelV v u → t o i v H Q →
    wpAny (model X.prog X.w) X.A (setItem ov iv u) (fun _ s' => ∃ H', Inv X pins σ H' s' ∧ Q H') X.xe s
section
variable {X : Cx} {pos : Pos}
def qaS (i : Nat) : TG := fun v σ H Q => Q (σ.set i (some v)) H
theorem qan {i : Nat} {x : Str} (hN : X.N.Nodup) (hi : X.N[i]? = some x) (hx : Loc X.env.scope x) (hf : X.fn x = true ∨ X.env.scope.names.lookup x = some .local := by first | exact .inl rfl | exact .inr rfl | assumption) : PG X (.Name x pos) (qaS i) := by
  intro pins s σ H v u Q I r h
  exact wpAny_assign_Name (qdI I hN hi hx r (fun s' I' => ⟨_, H, I', h⟩) hf)
def gNil : TGs := fun vs σ H Q => vs = [] ∧ Q σ H
def gCons (t : TG) (u : TGs) : TGs := fun vs σ H Q => ∃ v r, vs = v :: r ∧ t v σ H fun σ' H' => u r σ' H' Q
theorem pgs_nil : PGs X [] gNil := by
  intro pins s σ H vs us Q I r h
  obtain ⟨e, h⟩ := h
  subst e
  cases r
  exact assignInOrder_nil ⟨σ, H, I, h⟩
theorem qay {e : Expr} {es : List Expr} {t : TG} {u : TGs} (h1 : PG X e t) (h2 : PGs X es u)
    (hs : (assignEach (e :: es) X.env).map (·.2) = assign e X.env :: (assignEach es X.env).map (·.2) := by rfl) : PGs X (e :: es) (gCons t u) := by
  intro pins s σ H vs us Q I r h
  obtain ⟨v, vr, e1, h⟩ := h
  subst e1
  cases r with
  | cons r rr =>
    rw [hs]
    refine assignInOrder_cons (thn (h1 pins s σ H _ _ _ I r h) fun _ s1 ⟨σ1, H1, I1, q1⟩ => ?_)
    exact h2 pins s1 σ1 H1 _ _ Q I1 rr q1
def gTup (K : PySem.W.Frag) (n : Nat) (t : TGs) : TG := fun v σ H Q => ∃ a xs, v = .ref a ∧ SqT K H a xs ∧ xs.length = n ∧ t xs σ H Q
theorem qcH {es : List Expr} {k : Nat} {t : TGs} {n : Nat} (hc : X.calm = true) (h : PGs X es t)
    (hn : (assignEach es X.env).length = n := by rfl) (hst : (assignEach es X.env).findIdx? (·.1) = none := by rfl) : PG X (.Tuple es k pos) (gTup X.K n t) := by
  intro pins s σ H v u Q I r hw
  obtain ⟨a, xs, e1, hq, hl, hw⟩ := hw
  subst e1
  cases r
  obtain ⟨its, rv, ht, hz⟩ := I.tuple hq
  refine assign_Tuple_tuple (I.ok.hd hc) ht (by simp [hn, ← hl, rv.length]) hst fun h' hx => ?_
  have I1 : Inv X pins σ H { s with heap := h' } := I.kept (t' := s.toks) fun b o e => hx b o (Nat.ne_of_lt (Heap.lt_size e)) e
  exact h pins _ σ H xs _ Q I1 (by simpa using rv) hw
def gSub (to ti : TE) (t : TSet) : TG := fun v σ H Q => to σ H fun o H1 => ti σ H1 fun i H2 => t o i v H2 fun H3 => Q σ H3
theorem qdJ {o i : Expr} {to ti : TE} {t : TSet} (ho : PE X o to) (hi : PE X i ti) (hs : PSet X t)
    (ha : ∀ v, assign (.Subscript o i pos) X.env v = (do
      let ov ← holding [v] (eval o X.env)
      let iv ← holding [v, ov] (eval i X.env)
      standAt pos
      holding [v, ov, iv] (setItem ov iv v)
      release [v, ov, iv] []) := by intro _; rfl) : PG X (.Subscript o i pos) (gSub to ti t) := by
  intro pins s σ H v u Q I r h
  rw [ha]
  refine wpAny_bind (wpAny_holding (thn (ho pins s σ H _ I h) fun ov s1 ⟨x, H1, I1, r1, q1⟩ => ?_))
  refine wpAny_bind (wpAny_holding (thn (hi pins s1 σ H1 _ I1 q1) fun iv s2 ⟨y, H2, I2, r2, q2⟩ => ?_))
  refine wpAny_bind (wpAny_standAt (wpAny_bind (wpAny_holding (thn (hs pins s2 σ H2 x y v ov iv u _ I2 r1 r2 r q2) fun _ s3 ⟨H3, I3, q3⟩ => ?_))))
  exact wpAny_release ⟨σ, H3, I3, q3⟩
def tAsg (te : TE) (g : TG) : TS := fun D σ H => te σ H fun x H1 => g x σ H1 D.nx
theorem qb8 {tg e : Expr} {te : TE} {g : TG} (he : PE X e te) (hg : PG X tg g) (hs : swapsWithSole [tg] e pos.line X.env = pure false := by rfl) (hw : swappedStores [tg] e X.env = pure none := by rfl)
    (h1 : (assignEach [tg] X.env).map (·.2) = [assign tg X.env] := by rfl) : PS X (.Assign [tg] e pos) (tAsg te g) := by
  intro pins s σ H D I h
  refine wpAny_Assign_stores (thn (he pins s σ H _ I h) fun v s1 ⟨x, H1, I1, r1, q1⟩ => ?_) hs hw
  rw [h1]
  exact thn (hg pins s1 σ H1 x v _ I1 r1 q1) fun _ s2 q => q
theorem qap {i : Nat} {x : Str} {e : Expr} {te : TE} {pos' : Pos} (hN : X.N.Nodup) (hi : X.N[i]? = some x) (hx : Loc X.env.scope x) (he : PE X e te) (hs : swapsWith e (some (.Name x pos')) pos.line X.env = pure false := by rfl) (hf : X.fn x = true ∨ X.env.scope.names.lookup x = some .local := by first | exact .inl rfl | exact .inr rfl | assumption) :
    PS X (.Assign [.Name x pos'] e pos) (tAsg te (qaS i)) := by
  intro pins s σ H D I h
  refine wpAny_Assign_Name (thn (he pins s σ H _ I h) fun v s1 ⟨y, H1, I1, r1, q1⟩ => ?_) hs
  exact qdI I1 hN hi hx r1 (fun s2 I2 => ⟨_, H1, I2, q1⟩) hf
end
section
variable {X : Cx} {pos : Pos}
def tWhile (c : TT) (tb : TS) : TS := fun D σ H => ∃ W : Nat → St → Hp → Prop, (∃ m, W m σ H) ∧ ∀ m σ H, W m σ H →
  c σ H fun b H1 => if b = true then ∃ N : St → Hp → Prop, (∀ σ' H', N σ' H' → ∃ m', m' < m ∧ W m' σ' H') ∧ tb { D with nx := N, ct := N, bk := D.nx } σ H1 else D.nx σ H1
theorem qdG {c : Expr} {body : List Stmt} {tc : TT} {tb : TS} (hp : PassesOwn (model X.prog X.w) X.A X.env X.xe) (hc : PT X c tc) (hb : PSs X body tb) : PS X (.While c body [] pos) (tWhile tc tb) := by
  intro pins s σ H D I h
  obtain ⟨W, ⟨m0, w0⟩, turn⟩ := h
  refine wpAny_While (codeAny_whileLoop (fun n s' => ∃ σ' H', Inv X pins σ' H' s' ∧ W n σ' H') ?_ m0 ⟨σ, H, I, w0⟩)
  rintro n s1 ⟨σ1, H1, I1, w1⟩
  refine wpAny_passesOwn hp (thn (hc pins s1 σ1 H1 _ I1 (turn n σ1 H1 w1)) fun b s2 ⟨H2, I2, q2⟩ => ?_)
  cases b with
  | true =>
    obtain ⟨N, hN, q2⟩ := q2
    rw [if_pos rfl]
    refine wpAny_passesOwn hp (thn (hb pins s2 σ1 H2 _ I2 q2) fun f s3 q3 => ?_)
    cases f with
    | next =>
      obtain ⟨σ3, H3, I3, n3⟩ := q3
      obtain ⟨m', hm, w3⟩ := hN σ3 H3 n3
      exact ⟨m', hm, σ3, H3, I3, w3⟩
    | cont =>
      obtain ⟨σ3, H3, I3, n3⟩ := q3
      obtain ⟨m', hm, w3⟩ := hN σ3 H3 n3
      exact ⟨m', hm, σ3, H3, I3, w3⟩
    | brk => exact q3
    | ret v => exact q3
  | false =>
    rw [if_neg Bool.false_ne_true]
    exact wpAny_execs_nil ⟨σ1, H2, I2, q2⟩
end
structure It where
  go : Nat → Hp → Prop
  yld : Nat → Hp → V → Hp → Prop
  stop : Nat → Hp → Prop
def FpOk (X : Cx) (pins : List (Addr × Obj)) (H : Hp) (b : Addr) : Prop :=
  H b = none ∧ b ≠ X.env.locals ∧ b ∉ X.fs ∧ (b ∈ X.ex ∨ X.s₀.heap.objs.size ≤ b) ∧ (∀ x c, X.env.cells.lookup x = some c → c ≠ b) ∧ ∀ p ∈ X.pn ++ pins, p.1 ≠ b
theorem Inv.fpOk {X : Cx} {pins : List (Addr × Obj)} {σ : St} {H H' : Hp} {s : Shared} {b : Addr} (I : Inv X pins σ H s) (hb : s.heap.objs.size ≤ b) (hn : H' b = none) : FpOk X pins H' b := by
  refine ⟨hn, Nat.ne_of_gt (Nat.lt_of_lt_of_le I.lt hb), I.nofs hb, .inr (Nat.le_trans I.sz hb), fun x c e z => ?_, fun p hp z => ?_⟩
  · obtain ⟨v, q⟩ := I.cell x c e
    exact absurd (Nat.lt_of_lt_of_le q.lt (by rw [z]; exact hb)) (Nat.lt_irrefl _)
  · exact absurd (Nat.lt_of_lt_of_le (Heap.lt_size (I.pin p hp).1) (by rw [z]; exact hb)) (Nat.lt_irrefl _)
structure Turn (P : Program) (w : World) (K : PySem.W.Frag) (tg : Expr) (J : It) (fp : List Addr) (it : Addr) (tn : Nat → Heap → Prop) : Prop where
  mem : it ∈ fp
  obj : ∀ i h, tn i h → ∀ b ∈ fp, ∃ o, h.get? b = some o ∧ ∀ v, o.data ≠ .cell v
  keep : ∀ i h h', tn i h → (∀ b ∈ fp, ∀ o, h.get? b = some o → h'.get? b = some o) → tn i h'
  item : ∀ (X : Cx), X.prog = P → X.w = w → X.K = K → X.calm = true → ∀ (i : Nat) (pins : List (Addr × Obj)) (s : Shared) (σ : St) (H : Hp) (E : Value → Shared → Prop), Inv X pins σ H s → (∀ b ∈ fp, FpOk X pins H b) → tn i s.heap → J.go i H →
    wpAny (model P w) X.A (pyNext (.ref it)) (fun r s1 => ∃ u, r = some u ∧
      wpAny (model P w) X.A (letOwnedTupleGo tg (.ref it) u) (fun _ s2 => ∃ x H', Inv X pins σ H' s2 ∧ RelV x u ∧ J.yld i H x H' ∧ tn (i + 1) s2.heap ∧ ∀ b ∈ fp, H' b = none) E s1) E s
  done : ∀ (X : Cx), X.prog = P → X.w = w → X.K = K → X.calm = true → ∀ (i : Nat) (pins : List (Addr × Obj)) (s : Shared) (σ : St) (H : Hp) (E : Value → Shared → Prop), Inv X pins σ H s → (∀ b ∈ fp, FpOk X pins H b) → tn i s.heap → J.stop i H →
    wpAny (model P w) X.A (pyNext (.ref it)) (fun r s1 => r = none ∧ Inv X pins σ H s1) E s
  self : ∀ (A : Around) (i : Nat) (s : Shared) (Q : Value → Shared → Prop) (E : Value → Shared → Prop), tn i s.heap → Q (.ref it) s → wpAny (model P w) A (pyIter (.ref it)) Q E s
abbrev TI := St → Hp → (It → Hp → Prop) → Prop
def PIE (X : Cx) (pins : List (Addr × Obj)) (σ : St) (tg : Expr) (R : It → Hp → Prop) (itv : Value) (s2 : Shared) : Prop :=
  ∃ (it : Addr) (fp : List Addr) (tn : Nat → Heap → Prop) (J : It) (H' : Hp), itv = .ref it ∧ Inv X pins σ H' s2 ∧ Turn X.prog X.w X.K tg J fp it tn ∧ tn 0 s2.heap ∧ (∀ b ∈ fp, FpOk X pins H' b) ∧ R J H'
def PI (X : Cx) (tg iter : Expr) (wi : TI) : Prop :=
  ∀ (pins : List (Addr × Obj)) (s : Shared) (σ : St) (H : Hp) (R : It → Hp → Prop), Inv X pins σ H s → wi σ H R →
    wpAny (model X.prog X.w) X.A (eval iter X.env) (fun v s1 => wpAny (model X.prog X.w) X.A (pyIter v) (PIE X pins σ tg R) X.xe s1) X.xe s
theorem qe0 {M : Model} {A : Around} {E : Value → Shared → Prop} {s : Shared} {tg : Expr} {it : Addr} {u : Value} {o : Obj} {n : String} {vs : Array Value} {Q : Unit → Shared → Prop} (ho : s.heap.get? it = some o) (hc : o.cls = .type n) (hd : o.data = .fields vs)
    (hn : ["enumerate", "zip", "dict_itemiterator", "dict_reverseitemiterator", "odict_iterator", "itertools.zip_longest", "itertools.pairwise"].contains n = false) (hQ : Q () s) : wpAny M A (letOwnedTupleGo tg (.ref it) u) Q E s := by
  unfold letOwnedTupleGo
  cases tg <;> first
    | exact wpAny_pure hQ
    | (cases u <;> first
        | exact wpAny_pure hQ
        | (refine wpAny_bind (wpAny_load ho ?_)
           rw [hc, hd]
           show wpAny M A (if (["enumerate", "zip", "dict_itemiterator", "dict_reverseitemiterator", "odict_iterator", "itertools.zip_longest", "itertools.pairwise"].contains n && vs[0]? == some (rawInt _)) = true then _ else _) Q E s
           rw [if_neg (by intro h; rw [hn, Bool.false_and] at h; cases h)]
           exact wpAny_pure hQ))
def Itl (K : PySem.W.Frag) (a : Addr) : It :=
  ⟨fun i H => ∃ xs x, SqL K H a xs ∧ xs[i]? = some x, fun i H x H' => H' = H ∧ ∀ xs, SqL K H a xs → xs[i]? = some x, fun i H => ∃ xs, SqL K H a xs ∧ xs.length ≤ i⟩
def Itt (K : PySem.W.Frag) (a : Addr) : It :=
  ⟨fun i H => ∃ xs x, SqT K H a xs ∧ xs[i]? = some x, fun i H x H' => H' = H ∧ ∀ xs, SqT K H a xs → xs[i]? = some x, fun i H => ∃ xs, SqT K H a xs ∧ xs.length ≤ i⟩
def Itr (lo : Int) (n : Nat) : It := ⟨fun i _ => i < n, fun i H x H' => H' = H ∧ x = .int (lo + i), fun i _ => n ≤ i⟩
theorem turn_list {P : Program} {w : World} {K : PySem.W.Frag} {tg : Expr} (a it : Addr) : Turn P w K tg (Itl K a) [it] it (fun i h => h.IsListIter it a i) where
  mem := by simp
  obj := fun i h st b hb => by
    have e : b = it := by simpa using hb
    subst e
    obtain ⟨o, e, c, d⟩ := st
    exact ⟨o, e, fun v z => by rw [d] at z; cases z⟩
  keep := fun i h h' st k => st.at fun o e => k it (by simp) o e
  item := by
    intro X hP hw hK hc i pins s σ H E I hf st hg
    subst hP hw hK
    obtain ⟨xs, x, hq, hx⟩ := hg
    obtain ⟨its, rv, p, hz⟩ := I.list hq
    obtain ⟨u, hu, ru⟩ := rv.get hx
    obtain ⟨f0, f1, f2, f3, f4, f5⟩ := hf it (by simp)
    refine wpAny_pyNext_list_item st p.isList (x := u) (by simpa using hu) fun h' st' sb => ?_
    have I1 : Inv X pins σ H { s with heap := h' } := I.turned (t' := s.toks) (fun b o hb e => (sb.2 b hb).trans e) f0 f1 f3 f4 f5
    obtain ⟨o, e, c, d⟩ := id st'
    exact ⟨u, rfl, qe0 (s := { s with heap := h' }) e c d (by decide) ⟨x, H, I1, ru, ⟨rfl, fun ys hy => by rw [I.list_inj hy hq]; exact hx⟩, st', fun b hb => (hf b hb).1⟩⟩
  done := by
    intro X hP hw hK hc i pins s σ H E I hf st hg
    subst hP hw hK
    obtain ⟨xs, hq, hx⟩ := hg
    obtain ⟨its, rv, p, hz⟩ := I.list hq
    obtain ⟨f0, f1, f2, f3, f4, f5⟩ := hf it (by simp)
    have hl := rv.length
    exact wpAny_pyNext_list_end (I.ok.hd hc) st p.isList (by simp; omega) fun h' eb => ⟨rfl, I.turned (t' := s.toks) (fun b o hb e => eb b o hb e) f0 f1 f3 f4 f5⟩
  self := fun _ _ _ _ _ st h => wpAny_pyIter_listiter st h
theorem turn_tuple {P : Program} {w : World} {K : PySem.W.Frag} {tg : Expr} (a it : Addr) : Turn P w K tg (Itt K a) [it] it (fun i h => h.IsTupleIter it a i) where
  mem := by simp
  obj := fun i h st b hb => by
    have e : b = it := by simpa using hb
    subst e
    obtain ⟨o, e, c, d⟩ := st
    exact ⟨o, e, fun v z => by rw [d] at z; cases z⟩
  keep := fun i h h' st k => st.at fun o e => k it (by simp) o e
  item := by
    intro X hP hw hK hc i pins s σ H E I hf st hg
    subst hP hw hK
    obtain ⟨xs, x, hq, hx⟩ := hg
    obtain ⟨its, rv, p, hz⟩ := I.tuple hq
    obtain ⟨u, hu, ru⟩ := rv.get hx
    obtain ⟨f0, f1, f2, f3, f4, f5⟩ := hf it (by simp)
    refine wpAny_pyNext_tuple_item st (show s.heap.IsTuple a its.toArray from p) (x := u) (by simpa using hu) fun h' st' sb => ?_
    have I1 : Inv X pins σ H { s with heap := h' } := I.turned (t' := s.toks) (fun b o hb e => (sb.2 b hb).trans e) f0 f1 f3 f4 f5
    obtain ⟨o, e, c, d⟩ := id st'
    exact ⟨u, rfl, qe0 (s := { s with heap := h' }) e c d (by decide) ⟨x, H, I1, ru, ⟨rfl, fun ys hy => by rw [I.tuple_inj hy hq]; exact hx⟩, st', fun b hb => (hf b hb).1⟩⟩
  done := by
    intro X hP hw hK hc i pins s σ H E I hf st hg
    subst hP hw hK
    obtain ⟨xs, hq, hx⟩ := hg
    obtain ⟨its, rv, p, hz⟩ := I.tuple hq
    obtain ⟨f0, f1, f2, f3, f4, f5⟩ := hf it (by simp)
    have hl := rv.length
    exact wpAny_pyNext_tuple_end (I.ok.hd hc) st (show s.heap.IsTuple a its.toArray from p) (by simp; omega) fun h' eb => ⟨rfl, I.turned (t' := s.toks) (fun b o hb e => eb b o hb e) f0 f1 f3 f4 f5⟩
  self := fun _ _ _ _ _ st h => wpAny_pyIter_tupleiter st h
theorem turn_range {P : Program} {w : World} {K : PySem.W.Frag} {tg : Expr} (it : Addr) (lo : Int) (n : Nat) : Turn P w K tg (Itr lo n) [it] it (fun i h => IsRangeIter h it (lo + (i : Nat) * 1) ((n : Int) - (i : Nat)) 1) where
  mem := by simp
  obj := fun i h st b hb => by
    have e : b = it := by simpa using hb
    subst e
    exact ⟨_, st, fun v z => by
      have z' : Data.fields _ = Data.cell v := z
      cases z'⟩
  keep := fun i h h' st k => k it (by simp) _ st
  item := by
    intro X hP hw hK hc i pins s σ H E I hf st hg
    subst hP hw hK
    obtain ⟨f0, f1, f2, f3, f4, f5⟩ := hf it (by simp)
    have W := Walks.range (prog := X.prog) (w := X.w) (I.ok.hd hc) it lo 1 n
    refine W.item i s _ _ hg st fun v h' tk hv st' kk => ?_
    obtain ⟨t, rfl⟩ := hv
    have I1 : Inv X pins σ H { s with heap := h', toks := tk } := I.turned (fun b o hb e => kk b o (by simpa using hb) e) f0 f1 f3 f4 f5
    refine ⟨_, rfl, qe0 (s := { s with heap := h', toks := tk }) (n := "range_iterator") st' rfl rfl (by decide) ⟨.int (lo + i), H, I1, ⟨t, ?_⟩, ⟨rfl, rfl⟩, st', fun b hb => (hf b hb).1⟩⟩
    rw [Int.mul_one]
  done := by
    intro X hP hw hK hc i pins s σ H E I hf st hg
    subst hP hw hK
    obtain ⟨f0, f1, f2, f3, f4, f5⟩ := hf it (by simp)
    exact wpAny_pyNext_range_end (I.ok.hd hc) st (by have : n ≤ i := hg; omega) fun h' eb => ⟨rfl, I.turned (t' := s.toks) (fun b o hb e => eb b o hb e) f0 f1 f3 f4 f5⟩
  self := fun _ _ _ _ _ st h => wpAny_pyIter_rangeiter st h
end L2
namespace L2
open PySem PySem.Spec PyProof.Rows
section
variable {X : Cx} {tg : Expr}
def iList (K : PySem.W.Frag) (tl : TE) : TI := fun σ H R => tl σ H fun x H1 => ∃ a, x = .ref a ∧ (∃ xs, SqL K H1 a xs) ∧ R (Itl K a) H1
def iTup (K : PySem.W.Frag) (tl : TE) : TI := fun σ H R => tl σ H fun x H1 => ∃ a, x = .ref a ∧ (∃ xs, SqT K H1 a xs) ∧ R (Itt K a) H1
theorem qa2 {l : Expr} {tl : TE} (hl : PE X l tl) : PI X tg l (iList X.K tl) := by
  intro pins s σ H R I h
  refine thn (hl pins s σ H _ I h) fun v s1 ⟨x, H1, I1, r1, q1⟩ => ?_
  obtain ⟨a, e, ⟨xs, hq⟩, q⟩ := q1
  subst e
  cases r1
  obtain ⟨its, rv, p, hz⟩ := I1.list hq
  refine wpAny_pyIter_list p.isList ?_
  refine ⟨s1.heap.objs.size, [s1.heap.objs.size], _, _, H1, rfl, I1.kept (t' := s1.toks) fun b o e => Heap.get?_push_of_some _ e, turn_list a _, ⟨_, Heap.get?_push_size _ rfl, rfl, rfl⟩, fun b hb => ?_, q⟩
  have e : b = s1.heap.objs.size := by simpa using hb
  subst e
  exact I1.fpOk (Nat.le_refl _) (I1.hok.fresh (Nat.le_refl _))
theorem qeg {l : Expr} {tl : TE} (hl : PE X l tl) : PI X tg l (iTup X.K tl) := by
  intro pins s σ H R I h
  refine thn (hl pins s σ H _ I h) fun v s1 ⟨x, H1, I1, r1, q1⟩ => ?_
  obtain ⟨a, e, ⟨xs, hq⟩, q⟩ := q1
  subst e
  cases r1
  obtain ⟨its, rv, p, hz⟩ := I1.tuple hq
  refine wpAny_pyIter_tuple (show s1.heap.IsTuple a its.toArray from p) ?_
  refine ⟨s1.heap.objs.size, [s1.heap.objs.size], _, _, H1, rfl, I1.kept (t' := s1.toks) fun b o e => Heap.get?_push_of_some _ e, turn_tuple a _, ⟨_, Heap.get?_push_size _ rfl, rfl, rfl⟩, fun b hb => ?_, q⟩
  have e : b = s1.heap.objs.size := by simpa using hb
  subst e
  exact I1.fpOk (Nat.le_refl _) (I1.hok.fresh (Nat.le_refl _))
theorem qdN {pins : List (Addr × Obj)} {σ : St} {H : Hp} {s : Shared} {R : It → Hp → Prop} {E : Value → Shared → Prop} {lo hi : Int} {t u v : Tok} {tk : Nat} (I : Inv X pins σ H s) (h1 : -(2 ^ 62) ≤ lo) (h2 : lo < 2 ^ 62) (h3 : -(2 ^ 62) ≤ hi) (h4 : hi < 2 ^ 62)
    (q : R (Itr lo (hi - lo).toNat) H) : wpAny (model X.prog X.w) X.A (pyIter (.ref s.heap.objs.size)) (PIE X pins σ tg R) E { s with heap := s.heap.push { cls := .type "range", data := .fields #[.int lo t, .int hi u, .int 1 v] }, toks := tk } := by
  refine wpAny_pyIter_range (IsRange.new ..) (small_one h1 h2 h3 h4) ?_
  have I1 : Inv X pins σ H { s with heap := s.heap.push { cls := .type "range", data := .fields #[.int lo t, .int hi u, .int 1 v] }, toks := tk } := I.kept fun b o e => Heap.get?_push_of_some _ e
  refine ⟨(s.heap.push { cls := .type "range", data := .fields #[.int lo t, .int hi u, .int 1 v] }).objs.size, [(s.heap.push { cls := .type "range", data := .fields #[.int lo t, .int hi u, .int 1 v] }).objs.size], _, _, H, rfl,
    I1.kept (t' := tk) fun b o e => Heap.get?_push_of_some _ e, turn_range _ lo (hi - lo).toNat, ?_, fun b hb => ?_, q⟩
  · have e1 : lo + ((0 : Nat) : Int) * 1 = lo := by simp
    have e2 : (((hi - lo).toNat : Nat) : Int) - ((0 : Nat) : Int) = Builtin.Range.rangeSize lo hi 1 := by rw [rangeSize_one]; split <;> omega
    show IsRangeIter _ _ (lo + ((0 : Nat) : Int) * 1) ((((hi - lo).toNat : Nat) : Int) - ((0 : Nat) : Int)) 1
    rw [e1, e2]
    exact Heap.get?_push_size _ rfl
  · have e : b = (s.heap.push { cls := .type "range", data := .fields #[.int lo t, .int hi u, .int 1 v] }).objs.size := by simpa using hb
    subst e
    exact I1.fpOk (Nat.le_refl _) (I1.hok.fresh (Nat.le_refl _))
def iRng1 (ta : TA) : TI := fun σ H R => ta σ H fun vs H1 => ∃ j : Int, vs = [.int j] ∧ -(2 ^ 62) ≤ j ∧ j < 2 ^ 62 ∧ R (Itr 0 j.toNat) H1
def iRng2 (ta : TA) : TI := fun σ H R => ta σ H fun vs H1 => ∃ i j : Int, vs = [.int i, .int j] ∧ (-(2 ^ 62) ≤ i ∧ i < 2 ^ 62 ∧ -(2 ^ 62) ≤ j ∧ j < 2 ^ 62) ∧ R (Itr i (j - i).toNat) H1
theorem qaD {a : Expr} {ta : TA} {p pos : Pos} (hg : Gl X "range") (hm : X.mg "range" = none) (ha : PA X [a] ta) (hs : starEach [a] X.env = [(false, eval a X.env)] := by rfl) : PI X tg (.Call (.Name "range" p) [a] [] pos) (iRng1 ta) := by
  intro pins s σ H R I h
  refine Call_ (qck I hg hm boot_range (PyProof.Rows.callWith_type1 (thn (ha pos pins s σ H _ I h) fun us s1 ⟨vs, H1, I1, r1, q1⟩ => ?_) hs rfl))
  obtain ⟨j, e, q1, q2, q⟩ := q1
  subst e
  cases r1 with
  | cons r rr =>
    cases rr
    obtain ⟨t, rfl⟩ := r
    exact call_range_1 (qdN I1 (by omega) (by omega) q1 q2 (by simpa using q))
theorem pi_range2 {a b : Expr} {ta : TA} {p pos : Pos} (hg : Gl X "range") (hm : X.mg "range" = none) (ha : PA X [a, b] ta) (hs : starEach [a, b] X.env = [(false, eval a X.env), (false, eval b X.env)] := by rfl) (hs2 : starEach [b] X.env = [(false, eval b X.env)] := by rfl) :
    PI X tg (.Call (.Name "range" p) [a, b] [] pos) (iRng2 ta) := by
  intro pins s σ H R I h
  refine Call_ (qck I hg hm boot_range (PyProof.Rows.callWith_type1 (thn (ha pos pins s σ H _ I h) fun us s1 ⟨vs, H1, I1, r1, q1⟩ => ?_) (by rw [hs, hs2]) (by rw [hs2]; rfl)))
  obtain ⟨i, j, e, ⟨q1, q2, q3, q4⟩, q⟩ := q1
  subst e
  cases r1 with
  | cons r rr =>
    cases rr with
    | cons r' rr =>
      cases rr
      obtain ⟨t, rfl⟩ := r
      obtain ⟨t', rfl⟩ := r'
      exact call_range_2 (qdN I1 q1 q2 q3 q4 q)
def tFor (wi : TI) (g : TG) (tb : TS) : TS := fun D σ H => wi σ H fun J H1 => ∃ W : Nat → Nat → St → Hp → Prop, (∃ m, W 0 m σ H1) ∧ ∀ i m σ H, W i m σ H →
  (J.stop i H ∧ D.nx σ H) ∨ (J.go i H ∧ ∃ N : St → Hp → Prop, (∀ σ' H', N σ' H' → ∃ m', m' < m ∧ W (i + 1) m' σ' H') ∧ ∀ x H', J.yld i H x H' → g x σ H' fun σ2 H2 => tb { D with nx := N, ct := N, bk := D.nx } σ2 H2)
def qcl (fp : List Addr) (h : Heap) : List (Addr × Obj) := fp.filterMap fun b => (h.get? b).map fun o => (b, o)
theorem qbe {fp : List Addr} {h : Heap} {b : Addr} {o : Obj} (hb : b ∈ fp) (e : h.get? b = some o) : (b, o) ∈ qcl fp h := List.mem_filterMap.mpr ⟨b, hb, by rw [e]; rfl⟩
theorem qdi {fp : List Addr} {h : Heap} {p : Addr × Obj} (hp : p ∈ qcl fp h) : p.1 ∈ fp ∧ h.get? p.1 = some p.2 := by
  obtain ⟨b, hb, e⟩ := List.mem_filterMap.mp hp
  cases q : h.get? b with
  | none => rw [q] at e; cases e
  | some o =>
    rw [q] at e
    have e' : (b, o) = p := Option.some.inj e
    subst e'
    exact ⟨hb, q⟩
theorem Inv.pinned {pins : List (Addr × Obj)} {σ : St} {H : Hp} {s : Shared} {fp : List Addr} (I : Inv X pins σ H s) (hf : ∀ b ∈ fp, FpOk X pins H b) (ho : ∀ b ∈ fp, ∃ o, s.heap.get? b = some o ∧ ∀ v, o.data ≠ .cell v) : Inv X (pins ++ qcl fp s.heap) σ H s :=
  I.pins_of fun p hp => (List.mem_append.mp hp).elim (fun z => I.pin p (List.mem_append_right _ z)) fun z => by
    obtain ⟨hb, e⟩ := qdi z
    obtain ⟨f0, f1, f2, _⟩ := hf p.1 hb
    obtain ⟨o, e', d⟩ := ho p.1 hb
    rw [e] at e'; cases e'
    exact ⟨e, f0, f1, f2, d⟩
theorem Inv.unpinned {pins pl : List (Addr × Obj)} {σ : St} {H : Hp} {s : Shared} (I : Inv X (pins ++ pl) σ H s) : Inv X pins σ H s := I.pins_of fun p hp => I.pin p (List.mem_append_right _ (List.mem_append_left _ hp))
theorem qa4 {iter : Expr} {body : List Stmt} {wi : TI} {g : TG} {tb : TS} {pos : Pos} (hp : PassesOwn (model X.prog X.w) X.A X.env X.xe) (hc : X.calm = true) (hi : PI X tg iter wi) (hg : PG X tg g) (hb : PSs X body tb)
    (hs : ∀ x, foldedSetIterable iter X.env x = pure x := by intro _; rfl) : PS X (.For tg iter body [] pos) (tFor wi g tb) := by
  intro pins s σ H D I h
  refine wpAny_For (thn (hi pins s σ H _ I h) fun v s1 h1 => thn h1 fun itv s2 h2 => ?_) hs
  obtain ⟨it, fp, tn, J, H2, e, I2, T, st2, f2, W, ⟨m0, w0⟩, turn⟩ := h2
  subst e
  have stat : ∀ {H' : Hp}, (∀ b ∈ fp, H' b = none) → ∀ b ∈ fp, FpOk X pins H' b := fun hn b hb => ⟨hn b hb, (f2 b hb).2⟩
  refine codeAny_forLoop_any (fun n s' => ∃ i σ' H', Inv X pins σ' H' s' ∧ tn i s'.heap ∧ (∀ b ∈ fp, H' b = none) ∧ W i n σ' H') ?_ m0 ⟨0, σ, H2, I2, st2, fun b hb => (f2 b hb).1, w0⟩
  rintro n s3 ⟨i, σ3, H3, I3, st3, fr3, w3⟩
  rcases turn i n σ3 H3 w3 with ⟨stop, qn⟩ | ⟨go, N, hN, step⟩
  · refine wpAny_passesOwn hp (thn (T.done X rfl rfl rfl hc i pins s3 σ3 H3 X.xe I3 (stat fr3) st3 stop) fun r s4 ⟨hr, I4⟩ => ?_)
    subst hr
    exact wpAny_execs_nil ⟨σ3, H3, I4, qn⟩
  · refine wpAny_passesOwn hp (thn (T.item X rfl rfl rfl hc i pins s3 σ3 H3 X.xe I3 (stat fr3) st3 go) fun r s4 ⟨u, hr, h4⟩ => ?_)
    subst hr
    refine wpAny_passesOwn hp (thn h4 fun _ s5 ⟨x, H5, I5, r5, y5, st5, fr5⟩ => ?_)
    have I5' := I5.pinned (stat fr5) (T.obj _ _ st5)
    refine wpAny_passesOwn hp (thn (hg _ s5 σ3 H5 x u _ I5' r5 (step x H5 y5)) fun _ s6 ⟨σ6, H6, I6, q6⟩ => ?_)
    refine wpAny_passesOwn hp (thn (hb _ s6 σ6 H6 _ I6 q6) fun f s7 q7 => ?_)
    have again : ∀ {σ7 : St} {H7 : Hp}, Inv X (pins ++ qcl fp s5.heap) σ7 H7 s7 → N σ7 H7 → ∃ m, m < n ∧ ∃ i σ' H', Inv X pins σ' H' s7 ∧ tn i s7.heap ∧ (∀ b ∈ fp, H' b = none) ∧ W i m σ' H' := fun {σ7 H7} I7 n7 => by
      obtain ⟨m', hm, w7⟩ := hN σ7 H7 n7
      refine ⟨m', hm, i + 1, σ7, H7, I7.unpinned, T.keep _ _ _ st5 fun b hb o e => (I7.pin (b, o) (List.mem_append_right _ (List.mem_append_right _ (qbe hb e)))).1, fun b hb => ?_, w7⟩
      obtain ⟨o, e, d⟩ := T.obj _ _ st5 b hb
      exact (I7.pin (b, o) (List.mem_append_right _ (List.mem_append_right _ (qbe hb e)))).2.1
    cases f with
    | next => obtain ⟨σ7, H7, I7, n7⟩ := q7; exact again I7 n7
    | cont => obtain ⟨σ7, H7, I7, n7⟩ := q7; exact again I7 n7
    | brk => obtain ⟨σ7, H7, I7, q7⟩ := q7; exact ⟨σ7, H7, I7.unpinned, q7⟩
    | ret v => obtain ⟨x7, σ7, H7, I7, r7, q7⟩ := q7; exact ⟨x7, σ7, H7, I7.unpinned, r7, q7⟩
end
theorem qdU {K : PySem.W.Frag} {a : Addr} {xs : List V} {g : TG} {tb : TS} {D : Ends} {σ : St} {H : Hp} (Pv : Nat → St → Hp → Prop) (h0 : Pv 0 σ H) (hl : ∀ i σ H, i ≤ xs.length → Pv i σ H → SqL K H a xs)
    (hs : ∀ i x σ H, xs[i]? = some x → Pv i σ H → g x σ H fun σ2 H2 => tb { D with nx := Pv (i + 1), ct := Pv (i + 1), bk := D.nx } σ2 H2) (hd : ∀ σ H, Pv xs.length σ H → D.nx σ H) :
    ∃ W : Nat → Nat → St → Hp → Prop, (∃ m, W 0 m σ H) ∧ ∀ i m σ H, W i m σ H →
      ((Itl K a).stop i H ∧ D.nx σ H) ∨ ((Itl K a).go i H ∧ ∃ N : St → Hp → Prop, (∀ σ' H', N σ' H' → ∃ m', m' < m ∧ W (i + 1) m' σ' H') ∧ ∀ x H', (Itl K a).yld i H x H' → g x σ H' fun σ2 H2 => tb { D with nx := N, ct := N, bk := D.nx } σ2 H2) := by
  refine ⟨fun i m σ H => m = xs.length - i ∧ i ≤ xs.length ∧ Pv i σ H, ⟨xs.length, by simp, Nat.zero_le _, h0⟩, ?_⟩
  rintro i m σ H ⟨rfl, hi, p⟩
  have q := hl i σ H hi p
  by_cases hlt : i < xs.length
  · refine .inr ⟨⟨xs, xs[i], q, by simp [hlt]⟩, Pv (i + 1), fun σ' H' p' => ⟨xs.length - (i + 1), by omega, rfl, hlt, p'⟩, fun x H' y => ?_⟩
    obtain ⟨e, y⟩ := y
    subst e
    exact hs i x σ _ (y xs q) p
  · have e : i = xs.length := by omega
    subst e
    exact .inl ⟨⟨xs, q, Nat.le_refl _⟩, hd σ H p⟩
theorem for_tup {K : PySem.W.Frag} {a : Addr} {xs : List V} {g : TG} {tb : TS} {D : Ends} {σ : St} {H : Hp} (Pv : Nat → St → Hp → Prop) (h0 : Pv 0 σ H) (hl : ∀ i σ H, i ≤ xs.length → Pv i σ H → SqT K H a xs)
    (hs : ∀ i x σ H, xs[i]? = some x → Pv i σ H → g x σ H fun σ2 H2 => tb { D with nx := Pv (i + 1), ct := Pv (i + 1), bk := D.nx } σ2 H2) (hd : ∀ σ H, Pv xs.length σ H → D.nx σ H) :
    ∃ W : Nat → Nat → St → Hp → Prop, (∃ m, W 0 m σ H) ∧ ∀ i m σ H, W i m σ H →
      ((Itt K a).stop i H ∧ D.nx σ H) ∨ ((Itt K a).go i H ∧ ∃ N : St → Hp → Prop, (∀ σ' H', N σ' H' → ∃ m', m' < m ∧ W (i + 1) m' σ' H') ∧ ∀ x H', (Itt K a).yld i H x H' → g x σ H' fun σ2 H2 => tb { D with nx := N, ct := N, bk := D.nx } σ2 H2) := by
  refine ⟨fun i m σ H => m = xs.length - i ∧ i ≤ xs.length ∧ Pv i σ H, ⟨xs.length, by simp, Nat.zero_le _, h0⟩, ?_⟩
  rintro i m σ H ⟨rfl, hi, p⟩
  have q := hl i σ H hi p
  by_cases hlt : i < xs.length
  · refine .inr ⟨⟨xs, xs[i], q, by simp [hlt]⟩, Pv (i + 1), fun σ' H' p' => ⟨xs.length - (i + 1), by omega, rfl, hlt, p'⟩, fun x H' y => ?_⟩
    obtain ⟨e, y⟩ := y
    subst e
    exact hs i x σ _ (y xs q) p
  · have e : i = xs.length := by omega
    subst e
    exact .inl ⟨⟨xs, q, Nat.le_refl _⟩, hd σ H p⟩
theorem qaI {lo : Int} {n : Nat} {g : TG} {tb : TS} {D : Ends} {σ : St} {H : Hp} (Pv : Nat → St → Hp → Prop) (h0 : Pv 0 σ H)
    (hs : ∀ i σ H, i < n → Pv i σ H → g (.int (lo + i)) σ H fun σ2 H2 => tb { D with nx := Pv (i + 1), ct := Pv (i + 1), bk := D.nx } σ2 H2) (hd : ∀ σ H, Pv n σ H → D.nx σ H) :
    ∃ W : Nat → Nat → St → Hp → Prop, (∃ m, W 0 m σ H) ∧ ∀ i m σ H, W i m σ H →
      ((Itr lo n).stop i H ∧ D.nx σ H) ∨ ((Itr lo n).go i H ∧ ∃ N : St → Hp → Prop, (∀ σ' H', N σ' H' → ∃ m', m' < m ∧ W (i + 1) m' σ' H') ∧ ∀ x H', (Itr lo n).yld i H x H' → g x σ H' fun σ2 H2 => tb { D with nx := N, ct := N, bk := D.nx } σ2 H2) := by
  refine ⟨fun i m σ H => m = n - i ∧ i ≤ n ∧ Pv i σ H, ⟨n, by simp, Nat.zero_le _, h0⟩, ?_⟩
  rintro i m σ H ⟨rfl, hi, p⟩
  by_cases hlt : i < n
  · refine .inr ⟨hlt, Pv (i + 1), fun σ' H' p' => ⟨n - (i + 1), by omega, rfl, hlt, p'⟩, fun x H' y => ?_⟩
    obtain ⟨e, y⟩ := y
    subst e y
    exact hs i σ _ hlt p
  · have e : i = n := by omega
    subst e
    exact .inl ⟨Nat.le_refl _, hd σ H p⟩
end L2
namespace L2
open PySem PySem.Spec PyProof.Rows
abbrev R2 := V → V → Hp → VK → Prop
def OpR (X : Cx) (f : Value → Value → Sem Value) (r : R2) : Prop :=
  ∀ (pins : List (Addr × Obj)) (s : Shared) (σ : St) (H : Hp) (x y : V) (v u : Value) (Q : VK), Inv X pins σ H s → RelV x v → RelV y u → r x y H Q →
    wpAny (model X.prog X.w) X.A (f v u) (EP X pins σ Q) X.xe s
def UnR (X : Cx) (f : Value → Sem Value) (r : V → Hp → VK → Prop) : Prop :=
  ∀ (pins : List (Addr × Obj)) (s : Shared) (σ : St) (H : Hp) (x : V) (v : Value) (Q : VK), Inv X pins σ H s → RelV x v → r x H Q →
    wpAny (model X.prog X.w) X.A (f v) (EP X pins σ Q) X.xe s
def qbU (X : Cx) (f : Value) (r : List V → Hp → VK → Prop) : Prop :=
  ∀ (pins : List (Addr × Obj)) (s : Shared) (σ : St) (H : Hp) (xs : List V) (us : List Value) (Q : VK), Inv X pins σ H s → Vals xs us → r xs H Q →
    wpAny (model X.prog X.w) X.A (call f us) (EP X pins σ Q) X.xe s
def tOp (r : R2) (ta tb : TE) : TE := fun σ H Q => ta σ H fun x H1 => tb σ H1 fun y H2 => r x y H2 Q
def tUn (r : V → Hp → VK → Prop) (ta : TE) : TE := fun σ H Q => ta σ H fun x H1 => r x H1 Q
def rI (C : Int → Int → Prop) (g : Int → Int → V) : R2 := fun x y H Q => ∃ i j, x = .int i ∧ y = .int j ∧ C i j ∧ Q (g i j) H
def rI0 (g : Int → Int → V) : R2 := fun x y H Q => ∃ i j, x = .int i ∧ y = .int j ∧ Q (g i j) H
def rU (g : Int → V) : V → Hp → VK → Prop := fun x H Q => ∃ i, x = .int i ∧ Q (g i) H
section
variable {X : Cx} {a b c : Expr} {ta tb tc : TE} {pos : Pos}
theorem binT (ha : PE X a ta) (hb : PE X b tb) {pins : List (Addr × Obj)} {s : Shared} {σ : St} {H : Hp} {R : V → V → Hp → Prop} (I : Inv X pins σ H s)
    (h : ta σ H fun x H1 => tb σ H1 fun y H2 => R x y H2) {Q : Value → Shared → Prop} {f : Value → Value → Sem Value}
    (hf : ∀ v u s2 x y H2, Inv X pins σ H2 s2 → RelV x v → RelV y u → R x y H2 → wpAny (model X.prog X.w) X.A (f v u) Q X.xe s2) :
    wpAny (model X.prog X.w) X.A (eval a X.env) (fun v s₁ => wpAny (model X.prog X.w) X.A (eval b X.env) (fun u s₂ => wpAny (model X.prog X.w) X.A (f v u) Q X.xe s₂) X.xe s₁) X.xe s := by
  refine thn (ha pins s σ H _ I h) fun v s1 ⟨x, H1, I1, r1, q1⟩ => ?_
  refine thn (hb pins s1 σ H1 _ I1 q1) fun u s2 ⟨y, H2, I2, r2, q2⟩ => ?_
  exact hf v u s2 x y H2 I2 r1 r2 q2
theorem qaw {op : Operator} {r : R2} (ho : OpR X (binaryOp op) r) (ha : PE X a ta) (hb : PE X b tb) : PE X (.BinOp a op b pos) (tOp r ta tb) := by
  intro pins s σ H Q I h
  exact wpAny_BinOp (binT ha hb I h fun v u s2 x y H2 I2 rx ry q => ho pins s2 σ H2 x y v u Q I2 rx ry q)
theorem qcu {op : UnaryOp} {r : V → Hp → VK → Prop} (ho : UnR X (unaryOp op) r) (ha : PE X a ta) : PE X (.UnaryOp op a pos) (tUn r ta) := by
  intro pins s σ H Q I h
  exact UnaryOp_ (thn (ha pins s σ H _ I h) fun v s1 ⟨x, H1, I1, r1, q1⟩ => ho pins s1 σ H1 x v Q I1 r1 q1)
theorem opI {f : Value → Value → Sem Value} {C : Int → Int → Prop} {g : Int → Int → Int}
    (rule : ∀ (i j : Int) (t u : Tok) (s : Shared) (Q : Value → Shared → Prop) (E : Value → Shared → Prop), C i j → Q (.int (g i j) s.toks) { s with toks := s.toks + 1 } → wpAny (model X.prog X.w) X.A (f (.int i t) (.int j u)) Q E s) :
    OpR X f (rI C fun i j => .int (g i j)) := by
  intro pins s σ H x y v u Q I rx ry h
  obtain ⟨i, j, rfl, rfl, hc, q⟩ := h
  obtain ⟨t, rfl⟩ := rx
  obtain ⟨t', rfl⟩ := ry
  exact rule i j t t' s _ _ hc ⟨.int (g i j), H, I.tok _, ⟨_, rfl⟩, q⟩
theorem opI0 {f : Value → Value → Sem Value} {g : Int → Int → Int}
    (rule : ∀ (i j : Int) (t u : Tok) (s : Shared) (Q : Value → Shared → Prop) (E : Value → Shared → Prop), Q (.int (g i j) s.toks) { s with toks := s.toks + 1 } → wpAny (model X.prog X.w) X.A (f (.int i t) (.int j u)) Q E s) :
    OpR X f (rI0 fun i j => .int (g i j)) := by
  intro pins s σ H x y v u Q I rx ry h
  obtain ⟨i, j, rfl, rfl, q⟩ := h
  obtain ⟨t, rfl⟩ := rx
  obtain ⟨t', rfl⟩ := ry
  exact rule i j t t' s _ _ ⟨.int (g i j), H, I.tok _, ⟨_, rfl⟩, q⟩
theorem opB0 {f : Value → Value → Sem Value} {g : Int → Int → Bool}
    (rule : ∀ (i j : Int) (t u : Tok) (s : Shared) (Q : Value → Shared → Prop) (E : Value → Shared → Prop), Q (.bool (g i j)) s → wpAny (model X.prog X.w) X.A (f (.int i t) (.int j u)) Q E s) :
    OpR X f (rI0 fun i j => .bl (g i j)) := by
  intro pins s σ H x y v u Q I rx ry h
  obtain ⟨i, j, rfl, rfl, q⟩ := h
  obtain ⟨t, rfl⟩ := rx
  obtain ⟨t', rfl⟩ := ry
  exact rule i j t t' s _ _ ⟨.bl (g i j), H, I, rfl, q⟩
def CDiv (i j : Int) : Prop := 0 < j ∧ j < 1073741824
def CPow (i j : Int) : Prop := 0 ≤ j ∧ j ≤ 1000000 ∧ i.natAbs < 2 ^ 64
def CMul (i j : Int) : Prop := (-(2 ^ 64) < i ∧ i < 2 ^ 64) ∨ (-(2 ^ 64) < j ∧ j < 2 ^ 64)
theorem CMul.ok {i j : Int} (h : CMul i j) : IntMulOk i j := by
  rcases h with ⟨h1, h2⟩ | ⟨h1, h2⟩
  · exact .of_left (intBits_le_64 h1 h2)
  · exact .of_right (intBits_le_64 h1 h2)
theorem op_add : OpR X (binaryOp .Add) (rI0 fun i j => .int (i + j)) := opI0 fun _ _ _ _ _ _ _ q => add_int q
theorem op_sub : OpR X (binaryOp .Sub) (rI0 fun i j => .int (i - j)) := opI0 fun _ _ _ _ _ _ _ q => sub_int q
theorem op_mul : OpR X (binaryOp .Mult) (rI CMul fun i j => .int (i * j)) := opI fun _ _ _ _ _ _ _ hc q => mul_int q hc.ok
theorem op_fdiv : OpR X (binaryOp .FloorDiv) (rI CDiv fun i j => .int (i / j)) := opI fun i j _ _ _ _ _ hc q => by
  have h1 : (0 : Int) < j := hc.1
  have h2 : j < 1073741824 := hc.2
  exact floordiv_int (by omega) (by rw [Int.fdiv_eq_ediv_of_nonneg i (by omega)]; exact q) (.inl (PyProof.noPylong_small (by omega)))
theorem op_mod : OpR X (binaryOp .Mod) (rI (fun _ j => 0 < j) fun i j => .int (i % j)) := opI fun i j _ _ _ _ _ hc q => by
  have h1 : (0 : Int) < j := hc
  exact mod_int' (by omega) (by rw [Int.fmod_eq_emod_of_nonneg i (by omega)]; exact q)
theorem op_pow : OpR X (binaryOp .Pow) (rI CPow fun i j => .int (i ^ j.toNat)) := opI fun _ _ _ _ _ _ _ hc q => pow_int_small hc.1 hc.2.1 hc.2.2 q
theorem unI {f : Value → Sem Value} {g : Int → Int}
    (rule : ∀ (i : Int) (t : Tok) (s : Shared) (Q : Value → Shared → Prop) (E : Value → Shared → Prop), Q (.int (g i) s.toks) { s with toks := s.toks + 1 } → wpAny (model X.prog X.w) X.A (f (.int i t)) Q E s) :
    UnR X f (rU fun i => .int (g i)) := by
  intro pins s σ H x v Q I rx h
  obtain ⟨i, rfl, q⟩ := h
  obtain ⟨t, rfl⟩ := rx
  exact rule i t s _ _ ⟨.int (g i), H, I.tok _, ⟨_, rfl⟩, q⟩
theorem un_neg : UnR X (unaryOp .USub) (rU fun i => .int (-i)) := unI fun _ _ _ _ _ q => neg_int q
end
def scal : V → V → Bool
  | .non, .non => true | .non, .int _ => true | .int _, .non => true | .non, .bl _ => true | .bl _, .non => true | .non, .str _ => true | .str _, .non => true
  | .int _, .int _ => true | .bl _, .bl _ => true | .str _, .str _ => true | .byt _, .byt _ => true
  | .int _, .str _ => true | .str _, .int _ => true | .bl _, .str _ => true | .str _, .bl _ => true
  | _, _ => false
def rEq : R2 := fun x y H Q => scal x y = true ∧ Q (.bl (decide (x = y))) H
def rNe : R2 := fun x y H Q => scal x y = true ∧ Q (.bl (!decide (x = y))) H
theorem qd1 {i j : Int} : decide (V.int i = V.int j) = (i == j) := by
  rw [Bool.eq_iff_iff]
  simp
theorem qeN {i j : Bool} : decide (V.bl i = V.bl j) = (i == j) := by
  rw [Bool.eq_iff_iff]
  simp
theorem qey {i j : Str} : decide (V.str i = V.str j) = (i == j) := by
  rw [Bool.eq_iff_iff]
  simp
theorem qeo {i j : Array UInt8} : decide (V.byt i = V.byt j) = (i.toList == j.toList) := by
  rw [Bool.eq_iff_iff]
  cases i
  cases j
  simp
section
variable {X : Cx} {a b c : Expr} {ta tb tc : TE} {pos : Pos}
theorem qaH {pins : List (Addr × Obj)} {σ : St} {H : Hp} {s : Shared} {Q : VK} {k k' : Bool} (I : Inv X pins σ H s) (q : Q (.bl k) H) (e : k = k') : EP X pins σ Q (.bool k') s := by
  subst e
  exact ⟨.bl k, H, I, rfl, q⟩
theorem op_eq : OpR X (compareOp .Eq) rEq := by
  intro pins s σ H x y v u Q I rx ry h
  obtain ⟨hs, q⟩ := h
  cases x with
  | non =>
    cases rx
    cases y with
    | non => cases ry; exact PySem.EqNone.eq_none_none (qaH I q (by simp))
    | bl j => cases ry; exact PySem.EqNone.eq_none_bool (qaH I q (by simp))
    | int j => obtain ⟨t', rfl⟩ := ry; exact PySem.EqNone.eq_none_int (qaH I q (by simp))
    | str j => obtain ⟨t', rfl⟩ := ry; exact PySem.EqNone.eq_none_str (qaH I q (by simp))
    | _ => exact absurd (show false = true from hs) Bool.false_ne_true
  | bl i =>
    cases rx
    cases y with
    | non => cases ry; exact PySem.EqNone.eq_bool_none (qaH I q (by simp))
    | bl j => cases ry; exact eq_bool (qaH I q qeN)
    | str j => obtain ⟨t', rfl⟩ := ry; exact PySem.EqMixed.eq_bool_str (qaH I q (by simp))
    | _ => exact absurd (show false = true from hs) Bool.false_ne_true
  | int i =>
    obtain ⟨t, rfl⟩ := rx
    cases y with
    | non => cases ry; exact PySem.EqNone.eq_int_none (qaH I q (by simp))
    | int j => obtain ⟨t', rfl⟩ := ry; exact eq_int (qaH I q qd1)
    | str j => obtain ⟨t', rfl⟩ := ry; exact PySem.EqMixed.eq_int_str (qaH I q (by simp))
    | _ => exact absurd (show false = true from hs) Bool.false_ne_true
  | str i =>
    obtain ⟨t, rfl⟩ := rx
    cases y with
    | non => cases ry; exact PySem.EqNone.eq_str_none (qaH I q (by simp))
    | bl j => cases ry; exact PySem.EqMixed.eq_str_bool (qaH I q (by simp))
    | int j => obtain ⟨t', rfl⟩ := ry; exact PySem.EqMixed.eq_str_int (qaH I q (by simp))
    | str j => obtain ⟨t', rfl⟩ := ry; exact eq_str (qaH I q qey)
    | _ => exact absurd (show false = true from hs) Bool.false_ne_true
  | byt i =>
    obtain ⟨t, rfl⟩ := rx
    cases y with
    | byt j => obtain ⟨t', rfl⟩ := ry; exact PySem.W.eq_bytes (qaH I q qeo)
    | _ => exact absurd (show false = true from hs) Bool.false_ne_true
  | _ => cases y <;> exact absurd (show false = true from hs) Bool.false_ne_true
theorem op_ne : OpR X (compareOp .NotEq) rNe := by
  intro pins s σ H x y v u Q I rx ry h
  obtain ⟨hs, q⟩ := h
  cases x with
  | non =>
    cases rx
    cases y with
    | non => cases ry; exact PySem.EqNone.ne_none_none (qaH I q (by simp))
    | bl j => cases ry; exact PySem.EqNone.ne_none_bool (qaH I q (by simp))
    | int j => obtain ⟨t', rfl⟩ := ry; exact PySem.EqNone.ne_none_int (qaH I q (by simp))
    | str j => obtain ⟨t', rfl⟩ := ry; exact PySem.EqNone.ne_none_str (qaH I q (by simp))
    | _ => exact absurd (show false = true from hs) Bool.false_ne_true
  | bl i =>
    cases rx
    cases y with
    | non => cases ry; exact PySem.EqNone.ne_bool_none (qaH I q (by simp))
    | bl j => cases ry; exact ne_bool (qaH I q (congrArg not qeN))
    | str j => obtain ⟨t', rfl⟩ := ry; exact PySem.EqMixed.ne_bool_str (qaH I q (by simp))
    | _ => exact absurd (show false = true from hs) Bool.false_ne_true
  | int i =>
    obtain ⟨t, rfl⟩ := rx
    cases y with
    | non => cases ry; exact PySem.EqNone.ne_int_none (qaH I q (by simp))
    | int j => obtain ⟨t', rfl⟩ := ry; exact ne_int (qaH I q (congrArg not qd1))
    | str j => obtain ⟨t', rfl⟩ := ry; exact PySem.EqMixed.ne_int_str (qaH I q (by simp))
    | _ => exact absurd (show false = true from hs) Bool.false_ne_true
  | str i =>
    obtain ⟨t, rfl⟩ := rx
    cases y with
    | non => cases ry; exact PySem.EqNone.ne_str_none (qaH I q (by simp))
    | bl j => cases ry; exact PySem.EqMixed.ne_str_bool (qaH I q (by simp))
    | int j => obtain ⟨t', rfl⟩ := ry; exact PySem.EqMixed.ne_str_int (qaH I q (by simp))
    | str j => obtain ⟨t', rfl⟩ := ry; exact ne_str (qaH I q (congrArg not qey))
    | _ => exact absurd (show false = true from hs) Bool.false_ne_true
  | byt i =>
    obtain ⟨t, rfl⟩ := rx
    cases y with
    | byt j => obtain ⟨t', rfl⟩ := ry; exact PySem.W.ne_bytes (qaH I q (congrArg not qeo))
    | _ => exact absurd (show false = true from hs) Bool.false_ne_true
  | _ => cases y <;> exact absurd (show false = true from hs) Bool.false_ne_true
theorem op_lt : OpR X (compareOp .Lt) (rI0 fun i j => .bl (decide (i < j))) := opB0 fun _ _ _ _ _ _ _ q => lt_int q
theorem op_gt : OpR X (compareOp .Gt) (rI0 fun i j => .bl (decide (j < i))) := opB0 fun _ _ _ _ _ _ _ q => gt_int q
theorem op_ge : OpR X (compareOp .GtE) (rI0 fun i j => .bl (decide (j ≤ i))) := opB0 fun _ _ _ _ _ _ _ q => ge_int q
theorem qas (b : Expr) {op : CmpOp} (h : op ≠ .In := by decide) (h2 : op ≠ .NotIn := by decide) : behindInMarks op b = false := by
  have e1 : (op == CmpOp.In) = false := by cases op <;> first | rfl | exact absurd rfl h
  have e2 : (op == CmpOp.NotIn) = false := by cases op <;> first | rfl | exact absurd rfl h2
  cases b <;> simp [behindInMarks, e1, e2]
theorem qbk {op : CmpOp} {r : R2} (ho : OpR X (compareOp op) r) (ha : PE X a ta) (hb : PE X b tb) (hm : behindInMarks op b = false) : PE X (.Compare a [op] [b] pos) (tOp r ta tb) := by
  intro pins s σ H Q I h
  exact wpAny_Compare1 (binT ha hb I h fun v u s2 x y H2 I2 rx ry q => ho pins s2 σ H2 x y v u Q I2 rx ry q) hm
def qe3 (t : TE) : TT := fun σ H Q => t σ H fun x H' => ∃ k, x = .bl k ∧ Q k H'
theorem qal {op : CmpOp} {r : R2} (ho : OpR X (compareOp op) r) (ha : PE X a ta) (hb : PE X b tb) (hm : behindInMarks op b = false) : PT X (.Compare a [op] [b] pos) (qe3 (tOp r ta tb)) := by
  intro pins s σ H Q I h
  refine wpAny_isTrue_Compare1 (thn (ha pins s σ H _ I h) fun v s1 ⟨x, H1, I1, r1, q1⟩ => thn (hb pins s1 σ H1 _ I1 q1) fun u s2 ⟨y, H2, I2, r2, q2⟩ =>
    thn (ho pins s2 σ H2 x y v u _ I2 r1 r2 q2) fun c s3 ⟨z, H3, I3, r3, k, e, q3⟩ => ?_) hm
  subst e
  cases r3
  exact wpAny_truthy_bool ⟨H3, I3, q3⟩
theorem line63 : (sizeLine : Nat) < 2 ^ 63 := by rw [sizeLine_eq]; decide
theorem op_add_str : OpR X (binaryOp .Add) (fun x y H Q => ∃ i j, x = .str i ∧ y = .str j ∧ i.length + j.length ≤ sizeLine ∧ Q (.str (i ++ j)) H) := by
  intro pins s σ H x y v u Q I rx ry h
  obtain ⟨i, j, rfl, rfl, hz, q⟩ := h
  obtain ⟨t, rfl⟩ := rx
  obtain ⟨t', rfl⟩ := ry
  exact add_str (fun t' tk => ⟨.str (i ++ j), H, I.tok _, ⟨_, rfl⟩, q⟩) hz
theorem qcv {x : V} {us : List Value} (r : Vals [x] us) : ∃ u, us = [u] ∧ RelV x u := by
  cases r with
  | cons r1 r2 => cases r2; exact ⟨_, rfl, r1⟩
theorem vals2 {x y : V} {us : List Value} (r : Vals [x, y] us) : ∃ u w', us = [u, w'] ∧ RelV x u ∧ RelV y w' := by
  cases r with
  | cons r1 r2 =>
    cases r2 with
    | cons r3 r4 => cases r4; exact ⟨_, _, rfl, r1, r3⟩
theorem call_int1 : qbU X (.type "int") (fun xs H Q => (∃ i, xs = [.int i] ∧ Q (.int i) H) ∨ ∃ k, xs = [.bl k] ∧ Q (.int (if k then 1 else 0)) H) := by
  intro pins s σ H xs us Q I r h
  rcases h with ⟨i, rfl, q⟩ | ⟨k, rfl, q⟩
  · obtain ⟨u, rfl, t, rfl⟩ := qcv r
    exact call_int_int ⟨.int i, H, I, ⟨_, rfl⟩, q⟩
  · obtain ⟨u, rfl, r1⟩ := qcv r
    cases r1
    exact call_int_bool ⟨.int (if k then 1 else 0), H, I.tok _, ⟨_, rfl⟩, q⟩
end
end L2
namespace L2
open PySem PySem.Spec PyProof.Rows
structure ObjM (h : Heap) (x dx C : Addr) (mA : Str → Option Value) : Prop where
  obj : h.get? x = some (PySem.W.instObj C dx)
  ns : h.Ns1 dx mA
  ne : dx ≠ x
theorem lookIn_ns {h : Heap} {dx : Addr} {mA : Str → Option Value} (n : h.Ns1 dx mA) : ∃ od, h.get? dx = some od ∧ ∀ name, PySem.W.lookIn name od = some (mA name) := by
  obtain ⟨o, es, ep, ho, hd, hk, _, hm⟩ := n
  refine ⟨o, ho, fun name => ?_⟩
  have e := hm name
  unfold nsFind findBy at e
  rw [← Array.find?_toList] at e
  unfold PySem.W.lookIn
  rw [hd]
  dsimp only
  split
  · rename_i y q
    rw [q] at e
    exact congrArg some e
  · rename_i q
    rw [q] at e
    have a : es.toList.any (·.refKey) = false := by
      rw [List.any_eq_false]
      intro y hy
      obtain ⟨z, t, hkey⟩ := hk y (Array.mem_toList_iff.mp hy)
      simp [DictEntry.refKey, hkey]
    have a' : ¬ es.toList.any (·.refKey) = true := by rw [a]; exact Bool.false_ne_true
    rw [if_neg a']
    exact congrArg some e
theorem ObjM.look {h : Heap} {x dx C : Addr} {mA : Str → Option Value} (I : ObjM h x dx C mA) : ∃ od, PySem.W.InstAt h x (PySem.W.instObj C dx) C (some od) ∧ ∀ name, PySem.W.lookIn name od = some (mA name) :=
  let ⟨od, ho, hl⟩ := lookIn_ns I.ns
  ⟨od, ⟨I.obj, rfl, rfl, ho⟩, hl⟩
theorem RelO.some_of {v : V} {o : Option Value} (r : RelO (some v) o) : ∃ u, o = some u ∧ RelV v u := by
  cases o with
  | none => exact (show False from r).elim
  | some u => exact ⟨u, rfl, r⟩
section
variable {P : Program} {w : World} {H H' : Hp} {h h' : Heap} {a C dx : Addr} {fs fs' : List (Str × V)}
theorem ins_get (hok : HOk P w H h) (e : H a = some (.ins C dx fs)) : ∃ mA, ObjM h a dx C mA ∧ (∀ f, RelO (fs.lookup f) (mA f)) ∧ PySem.Within mA (fs.map (·.1)) ∧ fs.length ≤ 1000 ∧ H dx = some (.own a) := by
  obtain ⟨d, z, ne, ob, mA, n, r, q⟩ := (show ObjOk P w H h a (.ins C dx fs) from hok a _ e)
  exact ⟨mA, ⟨ob, n, ne⟩, r, q, z, d⟩
end
structure Cls (K : PySem.W.Frag) (C : Addr) : Prop where
  pg : PySem.W.plainGet K C Str.empty = true
  hd : PySem.W.hasDictIn K C = true
  po : PySem.W.plainOver K C = true
  sa : PySem.W.findIn K (.ref C) "__setattr__" = some (some (.builtin "object.__setattr__"))
theorem Cls.get {K : PySem.W.Frag} {C : Addr} (c : Cls K C) (f : Str) : PySem.W.plainGet K C f = true := c.pg
section
variable {X : Cx} {pins : List (Addr × Obj)} {σ : St} {H : Hp} {s : Shared} {A : Around} {E : Value → Shared → Prop} {Q : Value → Shared → Prop} {c : Value} {b : Bool}
inductive TyOf (K : PySem.W.Frag) (H : Hp) : V → Value → Prop where
  | non : TyOf K H .non (.type "NoneType")
  | bl (x : Bool) : TyOf K H (.bl x) (.type "bool")
  | int (i : Int) : TyOf K H (.int i) (.type "int")
  | str (x : Str) : TyOf K H (.str x) (.type "str")
  | flt (x : UInt64) : TyOf K H (.flt x) (.type "float")
  | lst {a : Addr} {xs : List V} (e : H a = some (.lst xs)) : TyOf K H (.ref a) (.type "list")
  | frz {a : Addr} {o : Obj} {xs : List V} (e : H a = some (.frz o (.lst xs))) : TyOf K H (.ref a) (.type "list")
  | tup {a : Addr} {xs : List V} (e : H a = some (.tup xs)) : TyOf K H (.ref a) (.type "tuple")
  | dK {a : Addr} {kvs : List (Key × V)} (e : H a = some (.dK kvs)) : TyOf K H (.ref a) (.type "dict")
  | dT {a : Addr} {kvs : List (List Key × V)} (e : H a = some (.dT kvs)) : TyOf K H (.ref a) (.type "dict")
  | ins {a C dx : Addr} {fs : List (Str × V)} (e : H a = some (.ins C dx fs)) (cl : Cls K C) (ha : PySem.W.findIn K (.ref C) "__class__" = some (some (.builtin "object.__class__")))
      (hn : PySem.W.specialIn K (.builtin "object.__class__") "__get__" = some (some (.builtin "getset_descriptor.__get__"))) (htk : PySem.W.takesIn K (.builtin "object.__class__") = some true)
      (hm : PySem.W.mroIn K C (.type "object") = some true) : TyOf K H (.ref a) (.ref C)
theorem isinst_ok {x : V} {u t : Value} (I : Inv X pins σ H s) (rx : RelV x u) (ty : TyOf X.K H x t) (e : PySem.W.kitOne X.K t c = some b) (h : ∀ tk, Q (.bool b) { s with toks := tk }) :
    wpAny (model X.prog X.w) A (call (.builtin "isinstance") [u, c]) Q E s := by
  cases ty with
  | non => cases (show u = Value.none from rx); exact PySem.W.kia_one PySem.W.kitx_none I.kIn True.intro e (fun z => nomatch z) h
  | bl y => cases (show u = Value.bool y from rx); exact PySem.W.kia_one PySem.W.kitx_bool I.kIn True.intro e (fun z => nomatch z) h
  | int i => obtain ⟨t, q⟩ := (show ∃ t, u = Value.int i t from rx); cases q; exact PySem.W.kia_one PySem.W.kitx_int I.kIn True.intro e (fun z => nomatch z) h
  | str y => obtain ⟨t, q⟩ := (show ∃ t, u = Value.str y t from rx); cases q; exact PySem.W.kia_one PySem.W.kitx_str I.kIn True.intro e (fun z => nomatch z) h
  | flt y => obtain ⟨t, q⟩ := (show ∃ t, u = Value.float y t from rx); cases q; exact PySem.W.kia_one PySem.W.kitx_float I.kIn True.intro e (fun z => nomatch z) h
  | @lst a xs ea =>
    cases (show u = Value.ref a from rx)
    obtain ⟨_, _, n, _, h1⟩ := (show ObjOk X.prog X.w H s.heap a (.lst xs) from I.hok a _ ea)
    exact PySem.W.kia_one PySem.W.kitx_list I.kIn ⟨_, h1, rfl⟩ e (fun z => nomatch z) h
  | @frz a ob xs ea =>
    cases (show u = Value.ref a from rx)
    obtain ⟨_, _, _, n, _, h1⟩ := (show ObjOk X.prog X.w H s.heap a (.frz ob (.lst xs)) from I.hok a _ ea)
    exact PySem.W.kia_one PySem.W.kitx_list I.kIn ⟨_, h1, rfl⟩ e (fun z => nomatch z) h
  | @tup a xs ea =>
    cases (show u = Value.ref a from rx)
    obtain ⟨_, _, _, p⟩ := (show ObjOk X.prog X.w H s.heap a (.tup xs) from I.hok a _ ea)
    obtain ⟨o, h1, h2, _⟩ := p
    exact PySem.W.kia_one PySem.W.kitx_tuple I.kIn ⟨o, h1, h2⟩ e (fun z => nomatch z) h
  | @dK a kvs ea =>
    cases (show u = Value.ref a from rx)
    obtain ⟨_, _, vs, _, p⟩ := (show ObjOk X.prog X.w H s.heap a (.dK kvs) from I.hok a _ ea)
    obtain ⟨o, es, ep, h1, h2, _⟩ := p
    exact PySem.W.kia_one PySem.W.kitx_dict I.kIn ⟨o, h1, h2.1⟩ e (fun z => nomatch z) h
  | @dT a kvs ea =>
    cases (show u = Value.ref a from rx)
    obtain ⟨_, _, xs, _, o, es, ep, h1, h2, _⟩ := (show ObjOk X.prog X.w H s.heap a (.dT kvs) from I.hok a _ ea)
    exact PySem.W.kia_one PySem.W.kitx_dict I.kIn ⟨o, h1, h2.1⟩ e (fun z => nomatch z) h
  | @ins a C dx fs ea cl ha hn htk hm =>
    cases (show u = Value.ref a from rx)
    obtain ⟨mA, O, _⟩ := ins_get I.hok ea
    obtain ⟨od, J, _⟩ := O.look
    exact PySem.W.kia_one (PySem.W.kitx_own (cl.get _) cl.hd ha hn htk hm) I.kIn J e (fun z => nomatch z) h
end
end L2
namespace L2
open PySem PySem.Spec PyProof.Rows
structure Room (k : Nat) (A : Around) : Prop where
  hd : A.handled = none
  dp : A.depth + 3 * k + 5 < recursionLimit
  un : A.units + 16 * k + 200 < cLine
theorem Room.mono {j k : Nat} {A : Around} (r : Room k A) (h : j ≤ k) : Room j A := ⟨r.hd, by have := r.dp; omega, by have := r.un; omega⟩
theorem Room.deeper {k : Nat} {A : Around} (r : Room (k + 1) A) (env : Env) : Room k (A.deeper env) :=
  ⟨r.hd, by have := r.dp; show A.depth + 1 + 3 * k + 5 < _; omega, by have := r.un; show A.units + 3 + 16 * k + 200 < _; omega⟩
theorem Room.in1 {k : Nat} {A : Around} (r : Room (k + 1) A) : Room k A.in1 :=
  ⟨r.hd, by have := r.dp; show A.depth + 3 * k + 5 < _; omega, by have := r.un; show A.units + 1 + 16 * k + 200 < _; omega⟩
theorem Room.depth {k : Nat} {A : Around} (r : Room k A) : A.depth < recursionLimit := by have := r.dp; omega
theorem Room.units {k : Nat} {A : Around} (r : Room k A) : A.units + 64 < cLine := by have := r.un; omega
def tNil : TA := fun _ H Q => Q [] H
def qbG (ta : TE) (tr : TA) : TA := fun σ H Q => ta σ H fun x H1 => tr σ H1 fun xs H2 => Q (x :: xs) H2
section
variable {X : Cx} {e : Expr} {es : List Expr} {te : TE} {t : TA} {pos : Pos}
theorem pa_nil : PA X [] tNil := fun _ _ _ _ H Q I h => Calls.spliced_nil ⟨[], H, I, .nil, h⟩
theorem qaa (ha : PE X e te) (hr : PA X es t) (hs : starEach (e :: es) X.env = (false, eval e X.env) :: starEach es X.env := by rfl) : PA X (e :: es) (qbG te t) := by
  intro pos pins s σ H Q I h
  rw [hs]
  show wpAny _ _ (spliced ((false, eval e X.env) :: backTo pos (starEach es X.env))) _ _ s
  refine Calls.spliced_cons (thn (ha pins s σ H _ I h) fun u s1 ⟨x, H1, I1, r1, q1⟩ => ?_)
  exact thn (hr pos pins s1 σ H1 _ I1 q1) fun us s2 ⟨xs, H2, I2, r2, q2⟩ => ⟨x :: xs, H2, I2, .cons r1 r2, q2⟩
def tTup (t : TA) : TE := fun σ H Q => t σ H fun xs H1 => xs.length ≤ sizeLine ∧ ∀ p, H1 p = none → Q (.ref p) (upd H1 p (.tup xs))
def tLst (t : TA) : TE := fun σ H Q => t σ H fun xs H1 => xs.length ≤ sizeLine ∧ ∀ p, H1 p = none → Q (.ref p) (upd H1 p (.lst xs))
theorem qaC {x1} (h : PA X es t) : PE X (.Tuple es x1 pos) (tTup t) := by
  intro pins s σ H Q I hq
  refine wpAny_Tuple_spliced (thn (h pos pins s σ H _ I hq) fun us s1 ⟨xs, H1, I1, r, z, q⟩ => ⟨by rw [← r.length]; exact z, ?_⟩)
  have hf : H1 s1.heap.objs.size = none := I1.hok.fresh (Nat.le_refl _)
  refine ⟨.ref s1.heap.objs.size, upd H1 s1.heap.objs.size (.tup xs), I1.laid (t' := s1.toks) (fun b u e => Heap.get?_push_of_some _ e) (Nat.le_refl _) ?_, rfl, q _ hf⟩
  exact ⟨z, us, r, ⟨_, Heap.get?_push_size _ rfl, rfl, _, rfl⟩⟩
theorem qaA (h : PA X es t) : PE X (.List es pos) (tLst t) := by
  intro pins s σ H Q I hq
  refine wpAny_List_spliced (thn (h pos pins s σ H _ I hq) fun us s1 ⟨xs, H1, I1, r, z, q⟩ => ⟨by rw [← r.length]; exact z, ?_⟩)
  have hf : H1 s1.heap.objs.size = none := I1.hok.fresh (Nat.le_refl _)
  refine ⟨.ref s1.heap.objs.size, upd H1 s1.heap.objs.size (.lst xs), I1.laid (t' := s1.toks) (fun b u e => Heap.get?_push_of_some _ e) (Nat.le_refl _) ?_, rfl, q _ hf⟩
  exact ⟨z, us, 0, r, Heap.get?_push_size _ rfl⟩
end
abbrev Sp := List V → Hp → VK → XK → Prop
abbrev CXT := List Env → Hp → Shared → XK → Value → Shared → Prop
structure Env0 (P : Program) (w : World) (K : PySem.W.Frag) (mg : Str → Option Value) (base : Heap) (A : Around) (outer : List Env) (s : Shared) (H : Hp) : Prop where
  frames : A.frames = some outer
  mod : Mod K mg base
  bs : ∀ b o, base.get? b = some o → s.heap.get? b = some o ∧ H b = none
  bsz : base.objs.size ≤ s.heap.objs.size
  funs : s.heap.FunFrames base outer
  frf : ∀ b ∈ frs outer, H b = none
  hok : HOk P w H s.heap
  bare : AllBare s.gens
def CE (outer : List Env) (P : Program) (w : World) (H : Hp) (s : Shared) (Q : VK) (u : Value) (s' : Shared) : Prop :=
  ∃ v H', s'.os = s.os ∧ AllBare s'.gens ∧ Un (frs outer) [] H H' s.heap s'.heap ∧ HOk P w H' s'.heap ∧ RelV v u ∧ Q v H'
def CR (CX : CXT) (outer : List Env) (P : Program) (w : World) (H : Hp) (s : Shared) (Q : VK) (E : XK) (r : Result) (s' : Shared) : Prop :=
  match r with
  | .ok (.ret u) => CE outer P w H s Q u s'
  | .ok _ => False
  | .error e => CX outer H s E e s'
structure FnOk (P : Program) (w : World) (K : PySem.W.Frag) (mg : Str → Option Value) (base : Heap) (CX : CXT) (k : Nat) (f : Addr) (fd : FuncData) (ps : List Str) (sp : Sp) : Prop where
  len : ∀ vs H Q E, sp vs H Q E → vs.length = ps.length
  run : ∀ (A : Around) (outer : List Env) (s : Shared) (H : Hp) (args : Args) (us : List Value) (vs : List V) (Q : VK) (E : XK), Room k A → Env0 P w K mg base A outer s H → BindsTo s fd args (ps.zip us) → Vals vs us → sp vs H Q E →
    codeAny (model P w) A (.call (.ref f) args) (CR CX outer P w H s Q E) s
theorem Env0.in1 {P : Program} {w : World} {K : PySem.W.Frag} {mg : Str → Option Value} {base : Heap} {A : Around} {outer : List Env} {s : Shared} {H : Hp} (e : Env0 P w K mg base A outer s H) :
    Env0 P w K mg base A.in1 outer s H := ⟨e.frames, e.mod, e.bs, e.bsz, e.funs, e.frf, e.hok, e.bare⟩
section
variable {X : Cx} {pins : List (Addr × Obj)} {σ : St} {H : Hp} {s s' : Shared}
theorem Inv.env0 (I : Inv X pins σ H s) : Env0 X.prog X.w X.K X.mg X.base X.A X.stack s H :=
  ⟨I.ok.frames, I.ok.mod, I.bs, Nat.le_trans I.ok.bsz I.sz, I.stack, I.stkFree, I.hok, I.bare⟩
theorem Inv.after {Q : VK} {u : Value} (I : Inv X pins σ H s) (h : CE X.stack X.prog X.w H s Q u s') : EP X pins σ Q u s' := by
  obtain ⟨v, H', os, bare, un, hok, r, q⟩ := h
  obtain ⟨hh, g, d, t, os'⟩ := s'
  obtain rfl : os' = s.os := os
  exact ⟨v, H', I.call (h' := hh) (g' := g) (d' := d) (t' := t) (ch := []) un hok bare (fun b z => absurd z (by simp)), r, q⟩
end
def qeC (sp : Sp) (dvs : List V) (E : XK) (t : TA) : TE := fun σ H Q => t σ H fun vs H1 => sp (vs ++ dvs) H1 Q E
def Binds (K : PySem.W.Frag) (fd : FuncData) (ps : List Str) (ds : List Value) : Prop :=
  ∀ (s : Shared) (us : List Value), K.In s.heap → (us ++ ds).length = ps.length → BindsTo s fd ⟨us, []⟩ (ps.zip (us ++ ds))
theorem Binds.all {K : PySem.W.Frag} {fd : FuncData} {ps : List Str} (h : ∀ us : List Value, us.length = ps.length → bindArgs fd ⟨us, []⟩ = pure (ps.zip us)) : Binds K fd ps [] := fun s us _ hl => by
  rw [List.append_nil] at hl ⊢
  exact .of_eq (h us hl)
def qcI (CX : CXT) (X : Cx) (E : XK) : Prop := ∀ (pins : List (Addr × Obj)) (σ : St) (H : Hp) (s : Shared) (e : Value) (s' : Shared), Inv X pins σ H s → CX X.stack H s E e s' → X.xe e s'
section
variable {X : Cx} {CX : CXT} {k : Nat} {f C : Addr} {fd : FuncData} {ps : List Str} {sp : Sp} {dvs : List V} {ds : List Value} {E : XK} {x m : Str} {p pos apos : Pos} {e o : Expr} {es : List Expr} {ta : TE} {t : TA}
theorem qeV {pins : List (Addr × Obj)} {σ : St} {H : Hp} {s : Shared} {Q : VK} {us : List Value} {vs : List V} (F : FnOk X.prog X.w X.K X.mg X.base CX k f fd ps sp) (hr : Room k X.A) (hb : Binds X.K fd ps ds) (hd : Vals dvs ds) (hx : qcI CX X E)
    (I : Inv X pins σ H s) (r : Vals vs us) (h : sp (vs ++ dvs) H Q E) : wpAny (model X.prog X.w) X.A (call (.ref f) us) (EP X pins σ Q) X.xe s := by
  have r2 : Vals (vs ++ dvs) (us ++ ds) := r.append hd
  have hl : (us ++ ds).length = ps.length := by rw [← r2.length]; exact F.len _ _ _ _ h
  refine wpAny_call (codeAny_mono (F.run X.A X.stack s H ⟨us, []⟩ (us ++ ds) (vs ++ dvs) Q E hr I.env0 (hb s us I.kIn hl) r2 h) fun r s' hq => ?_)
  cases r with
  | error e => exact hx pins σ H s e s' I hq
  | ok fl =>
    cases fl with
    | ret u => exact I.after hq
    | next => exact False.elim hq
    | brk => exact False.elim hq
    | cont => exact False.elim hq
theorem pe_call (F : FnOk X.prog X.w X.K X.mg X.base CX k f fd ps sp) (hr : Room k X.A) (hg : Gl X x) (hm : X.mg x = some (.ref f)) (hk : PySem.W.keepIn X.K (.ref f) = true) (hb : Binds X.K fd ps ds) (hd : Vals dvs ds) (hx : qcI CX X E)
    (ha : PA X (e :: es) t) (hdb : (x == ("__debug__" : Str)) = false := by decide) (he : starEach (e :: es) X.env = (false, eval e X.env) :: starEach es X.env := by rfl) (hpl : (backTo pos (starEach es X.env)).any (·.1) = false := by rfl) :
    PE X (.Call (.Name x p) (e :: es) [] pos) (qeC sp dvs E t) := by
  intro pins s σ H Q I h
  refine wpAny_Call_Name_kw (qdv I hg hm ?_ hdb)
  refine PySem.W.callWith_K (h₀ := X.base) I.ok.mod.kin hk (thn (ha pos pins s σ H _ I h) fun us s1 ⟨vs, H1, I1, r, q⟩ => ⟨I1.kIn, ?_⟩) he hpl
  exact qeV F hr hb hd hx I1 r q
theorem pe_call0 (F : FnOk X.prog X.w X.K X.mg X.base CX k f fd ps sp) (hr : Room k X.A) (hg : Gl X x) (hm : X.mg x = some (.ref f)) (hk : PySem.W.keepIn X.K (.ref f) = true) (hb : Binds X.K fd ps ds) (hd : Vals dvs ds) (hx : qcI CX X E)
    (hdb : (x == ("__debug__" : Str)) = false := by decide) : PE X (.Call (.Name x p) [] [] pos) (qeC sp dvs E tNil) := by
  intro pins s σ H Q I h
  refine wpAny_Call_Name_kw (qdv I hg hm ?_ hdb)
  exact PySem.W.callWith_K0 I.kIn hk (qeV (us := []) F hr hb hd hx I .nil h)
end
structure FnScope (N P : List Str) (sc : Scope) : Prop where
  kind : sc.kind = .function
  co : sc.isCoroutine = false
  gen : sc.isGenerator = false
  nd : N.Nodup
  pre : N.take P.length = P
  par : ∀ x ∈ P, sc.names.lookup x = some .local ∨ sc.names.lookup x = some .cell
  nofree : ∀ y ∈ sc.names, y.2 ≠ .free
theorem qdk {kindOf : Str → Option NameKind} {x : Str} : ∀ {binds : List (Str × Value)} {m : Str → Option Value}, (∀ v, (x, v) ∉ binds) → bindL kindOf binds m x = m x
  | [], _, _ => rfl
  | (n, v) :: r, m, h => by
    unfold bindL
    rw [qdk fun w hw => h w (List.mem_cons_of_mem _ hw)]
    split
    · have : x ≠ n := by rintro rfl; exact h v List.mem_cons_self
      simp [this]
    · rfl
theorem qdm {kindOf : Str → Option NameKind} {x : Str} : ∀ {binds : List (Str × Value)} {m : Str → Option Value}, (∀ v, (x, v) ∉ binds) → bindC kindOf binds m x = m x
  | [], _, _ => rfl
  | (n, v) :: r, m, h => by
    unfold bindC
    rw [qdm fun w hw => h w (List.mem_cons_of_mem _ hw)]
    split
    · rfl
    · have : x ≠ n := by rintro rfl; exact h v List.mem_cons_self
      simp [this]
theorem qda {kindOf : Str → Option NameKind} {x : Str} {v : Value} : ∀ {P : List Str} {vs : List Value} {i : Nat} {m : Str → Option Value}, P.Nodup → P[i]? = some x → vs[i]? = some v → kindOf x = some .local →
    bindL kindOf (P.zip vs) m x = some v
  | [], _, _, _, _, h, _, _ => by simp at h
  | _ :: _, [], _, _, _, _, h, _ => by simp at h
  | p :: P, w :: vs, 0, m, nd, h1, h2, hk => by
    simp at h1 h2; subst h1; subst h2
    show bindL kindOf ((p, w) :: P.zip vs) m p = _
    unfold bindL
    rw [qdk fun v hv => (List.nodup_cons.mp nd).1 (List.of_mem_zip hv).1, if_pos hk]
    simp
  | p :: P, w :: vs, i + 1, m, nd, h1, h2, hk => by
    show bindL kindOf ((p, w) :: P.zip vs) m x = _
    unfold bindL
    exact qda (i := i) (List.nodup_cons.mp nd).2 (by simpa using h1) (by simpa using h2) hk
theorem qdd {kindOf : Str → Option NameKind} {x : Str} {v : Value} : ∀ {P : List Str} {vs : List Value} {i : Nat} {m : Str → Option Value}, P.Nodup → P[i]? = some x → vs[i]? = some v → kindOf x ≠ some .local →
    bindC kindOf (P.zip vs) m x = some v
  | [], _, _, _, _, h, _, _ => by simp at h
  | _ :: _, [], _, _, _, _, h, _ => by simp at h
  | p :: P, w :: vs, 0, m, nd, h1, h2, hk => by
    simp at h1 h2; subst h1; subst h2
    show bindC kindOf ((p, w) :: P.zip vs) m p = _
    unfold bindC
    rw [qdm fun v hv => (List.nodup_cons.mp nd).1 (List.of_mem_zip hv).1, if_neg hk]
    simp
  | p :: P, w :: vs, i + 1, m, nd, h1, h2, hk => by
    show bindC kindOf ((p, w) :: P.zip vs) m x = _
    unfold bindC
    exact qdd (i := i) (List.nodup_cons.mp nd).2 (by simpa using h1) (by simpa using h2) hk
def qdb (N : List Str) (vs : List V) : St := vs.map some ++ List.replicate (N.length - vs.length) none
def cxOf (CX : CXT) (P : Program) (w : World) (K : PySem.W.Frag) (mg : Str → Option Value) (base : Heap) (N : List Str) (qual : Str) (scope : Scope) (f : Addr) (cd : Value) (A : Around) (outer : List Env) (s : Shared) (H : Hp) (E : XK) : Cx where
  prog := P
  w := w
  K := K
  mg := mg
  base := base
  A := A.deeper (envOfC qual scope s.heap.objs.size f cd)
  N := N
  s₀ := s
  H₀ := H
  env := envOfC qual scope s.heap.objs.size f cd
  outer := outer
  stack := envOfC qual scope s.heap.objs.size f cd :: outer
  ex := []
  calm := true
  fn := fun _ => true
  pn := []
  xe := fun e s' => wpAny (model P w) (A.deeper (envOfC qual scope s.heap.objs.size f cd)) (leaving (envOfC qual scope s.heap.objs.size f cd) e) (fun _ s'' => CX outer H s E e s'') (fun e' s'' => CX outer H s E e' s'') s'
theorem qdT {sc : Scope} {n : Nat} {x : Str} (h : sc.names.lookup x = some .cell) : ∃ c, (cellsFrom n sc.names []).lookup x = some c := by
  have q := PySem.W.cellsFrom_some sc.names n [] (.inl h)
  exact Option.isSome_iff_exists.mp q
theorem inv_start {CX : CXT} {P : Program} {w : World} {K : PySem.W.Frag} {mg : Str → Option Value} {base : Heap} {N ps : List Str} {qual : Str} {scope : Scope} {f : Addr} {cd : Value} {A : Around} {outer : List Env} {s s1 : Shared} {H : Hp} {E : XK} {us : List Value} {vs : List V}
    (S : FnScope N ps scope) (hd : A.handled = none) (e0 : Env0 P w K mg base A outer s H) (hl : vs.length = ps.length) (r : Vals vs us)
    (x : InCallC s s.heap.objs.size (bindL (envOfC qual scope s.heap.objs.size f cd).kindOf (ps.zip us) fun _ => none) (cellsFrom (s.heap.objs.size + 1) scope.names []) (bindC (envOfC qual scope s.heap.objs.size f cd).kindOf (ps.zip us) fun _ => none) s1) :
    Inv (cxOf CX P w K mg base N qual scope f cd A outer s H E) [] (qdb N vs) H s1 := by
  have hpl : ps.length ≤ N.length := by have := congrArg List.length S.pre; rw [List.length_take] at this; omega
  obtain ⟨h1, tk, rfl, hk⟩ := x.done
  have noA : ∀ b : Addr, b ∉ (cxOf CX P w K mg base N qual scope f cd A outer s H E).ex := fun b z => absurd (show b ∈ ([] : List Addr) from z) (by simp)
  refine ⟨⟨e0.mod, S.kind, rfl, rfl, Nat.le_refl _, fun y z c h1 h2 => ?_, fun y hy => ?_, fun y c _ h => ?_, fun _ => hd, Around.frames_deeper e0.frames, .inr ⟨rfl, rfl⟩, fun b z => absurd z (noA b), e0.bs, e0.bsz, fun b _ _ => noA b, fun b z => absurd z (noA b), e0.funs, e0.frf⟩,
    rfl, e0.bare, Un.kept hk, ⟨_, x.toInCall.ns, fun i y v h1 h2 h3 => ?_⟩, fun y c h => ⟨_, x.cell y c h⟩, e0.hok.fresh (Nat.le_refl _), fun y c h => ?_, fun p hp => absurd (show p ∈ ([] : List (Addr × Obj)) from hp) (by simp), e0.hok.kept hk, ?_⟩
  · exact name_of_addr x.apart (PySem.mem_of_lookup h1) (PySem.mem_of_lookup h2)
  · have hy : scope.names.lookup y = some .cell ∨ scope.names.lookup y = some .free := hy
    rcases hy with hy | hy
    · exact qdT hy
    · exact absurd rfl (S.nofree _ (PySem.mem_of_lookup hy))
  · exact Nat.le_of_lt (x.above y c (PySem.mem_of_lookup h))
  · have hi : i < vs.length := by
      unfold qdb at h2
      by_cases hi : i < vs.length
      · exact hi
      · rw [List.getElem?_append_right (by simpa using hi)] at h2
        rw [List.getElem?_replicate] at h2
        split at h2 <;> cases h2
    have ha : vs[i]? = some v := by
      unfold qdb at h2
      rw [List.getElem?_append_left (by simpa using hi), List.getElem?_map] at h2
      cases e : vs[i]? with
      | none => rw [e] at h2; cases h2
      | some a => rw [e] at h2; cases h2; rfl
    obtain ⟨u, hu, rv⟩ := r.get ha
    have hp : ps[i]? = some y := by
      rw [← S.pre, List.getElem?_take_of_lt (by omega)]; exact h1
    have ndP : ps.Nodup := by rw [← S.pre]; exact S.nd.sublist (List.take_sublist _ _)
    refine ⟨u, rv, ?_⟩
    rcases S.par y (List.mem_of_getElem? hp) with k | k
    · exact .inl ⟨k, qda ndP hp hu k⟩
    · obtain ⟨c, e⟩ := qdT (n := s.heap.objs.size + 1) k
      refine .inr ⟨.inl k, c, e, ?_⟩
      have q := x.cell y c e
      rw [qdd ndP hp hu (by show scope.names.lookup y ≠ _; rw [k]; decide)] at q
      exact q
  · exact e0.hok.fresh (Nat.le_of_lt (x.above y c (PySem.mem_of_lookup h)))
  · unfold qdb
    show _ = N.length
    rw [List.length_append, List.length_map, List.length_replicate]
    omega
theorem qfb {CX : CXT} {P : Program} {w : World} {K : PySem.W.Frag} {mg : Str → Option Value} {base : Heap} {k : Nat} {f : Addr} {name qual : Str} {params : Arguments} {body : List Stmt} {scope : Scope} {dV kV doc pm cdv ct oc : Value} {an od : Option Addr}
    {osl : Array (Option Value)} {N ps : List Str} {sp : Sp} (lk : K.lookup f = some ⟨oc, od, .func (PySem.W.fnOf name qual params body scope dV kV doc pm an cdv ct), osl⟩) (hcd : PySem.W.codeIn K cdv qual = true) (S : FnScope N ps scope)
    (len : ∀ vs H Q E, sp vs H Q E → vs.length = ps.length)
    (hbody : ∀ (A : Around) (outer : List Env) (s : Shared) (H : Hp) (vs : List V) (Q : VK) (E : XK), Room k (A.deeper (envOfC qual scope s.heap.objs.size f cdv)) → sp vs H Q E →
      ∃ t, PSs (cxOf CX P w K mg base N qual scope f cdv A outer s H E) body t ∧ t { nx := fun _ H' => Q .non H', rt := Q } (qdb N vs) H) :
    FnOk P w K mg base CX (k + 1) f (PySem.W.fnOf name qual params body scope dV kV doc pm an cdv ct) ps sp := by
  refine ⟨len, fun A outer s H args us vs Q E hr e0 hb r hsp => ?_⟩
  have hl := len _ _ _ _ hsp
  have KX : K.In s.heap := e0.mod.kin.keeps fun b o e => (e0.bs b o e).1
  have lim : s.heap.NoLimit := e0.mod.nolimit.keeps fun b o e => (e0.bs b o e).1
  have hkind : ∀ y ∈ ps.zip us, scope.names.lookup y.1 = some .local ∨ (scope.names.lookup y.1 = some .cell ∧ ((cellsFrom (s.heap.objs.size + 1) scope.names []).lookup y.1).isSome = true) := fun ⟨n, v⟩ hy => by
    rcases S.par n (List.of_mem_zip hy).1 with q | q
    · exact .inl q
    · exact .inr ⟨q, PySem.W.cellsFrom_some _ _ _ (.inl q)⟩
  refine codeAny_call_function hr.depth (KX _ _ lk) rfl S.co S.gen rfl (PySem.W.codeRec_of KX hcd) (hb _ _ _ _ ?_)
  refine wpAny_newFunctionEnv_cells S.kind hkind fun env he s1 x => ?_
  subst he
  refine ⟨lim.keeps x.toInCall.keep, codeAny_func ?_⟩
  obtain ⟨t, ht, hq⟩ := hbody A outer s H vs Q E (hr.deeper _) hsp
  have I : Inv (cxOf CX P w K mg base N qual scope f cdv A outer s H E) [] (qdb N vs) H s1 := inv_start S hr.hd e0 hl r x
  refine wpAny_mono (ht [] s1 (qdb N vs) H _ I hq) (fun fl s' hs => ?_) fun e s' hs => hs
  have fin : ∀ {σ' : St} {H' : Hp} {v : V} {u : Value}, Inv (cxOf CX P w K mg base N qual scope f cdv A outer s H E) [] σ' H' s' → RelV v u → Q v H' → CE outer P w H s Q u s' :=
    fun {σ' H' v u} J rv q => ⟨v, H', J.os, J.bare, J.base, J.hok, rv, q⟩
  cases fl with
  | ret u =>
    obtain ⟨v, σ', H', J, rv, q⟩ := hs
    exact fin J rv q
  | next =>
    obtain ⟨σ', H', J, q⟩ := hs
    exact fin (v := V.non) (u := Value.none) J rfl q
  | brk =>
    obtain ⟨_, _, _, q⟩ := hs
    exact False.elim q
  | cont =>
    obtain ⟨_, _, _, q⟩ := hs
    exact False.elim q
end L2
namespace L2
open PySem PySem.Spec PyProof.Rows
section
variable {X : Cx} {x : Str} {p pos : Pos} {e : Expr} {es : List Expr} {t : TA} {id T : String} {r : List V → Hp → VK → Prop}
def tCB (r : List V → Hp → VK → Prop) (t : TA) : TE := fun σ H Q => t σ H fun vs H1 => r vs H1 Q
theorem qaB (hc : qbU X (.builtin id) r) (hg : Gl X x) (hm : X.mg x = none) (hv : bootBuiltins x = some (.builtin id)) (ha : PA X (e :: es) t) (hn : x ≠ "__name__" := by decide) (hdb : (x == ("__debug__" : Str)) = false := by decide)
    (he : starEach (e :: es) X.env = (false, eval e X.env) :: starEach es X.env := by rfl) (hpl : (backTo pos (starEach es X.env)).any (·.1) = false := by rfl) : PE X (.Call (.Name x p) (e :: es) [] pos) (tCB r t) := by
  intro pins s σ H Q I h
  refine wpAny_Call_Name_kw (qck I hg hm hv ?_ hn hdb)
  exact PyProof.Rows.callWith_builtin1 (thn (ha pos pins s σ H _ I h) fun us s1 ⟨vs, H1, I1, r1, q1⟩ => hc pins s1 σ H1 vs us Q I1 r1 q1) he hpl
theorem qaP (hc : qbU X (.type T) r) (hg : Gl X x) (hm : X.mg x = none) (hv : bootBuiltins x = some (.type T)) (ha : PA X (e :: es) t) (hn : x ≠ "__name__" := by decide) (hdb : (x == ("__debug__" : Str)) = false := by decide)
    (he : starEach (e :: es) X.env = (false, eval e X.env) :: starEach es X.env := by rfl) (hpl : (backTo pos (starEach es X.env)).any (·.1) = false := by rfl) : PE X (.Call (.Name x p) (e :: es) [] pos) (tCB r t) := by
  intro pins s σ H Q I h
  refine wpAny_Call_Name_kw (qck I hg hm hv ?_ hn hdb)
  exact PyProof.Rows.callWith_type1 (thn (ha pos pins s σ H _ I h) fun us s1 ⟨vs, H1, I1, r1, q1⟩ => hc pins s1 σ H1 vs us Q I1 r1 q1) he hpl
end
end L2
namespace HT
open PySem PyProof.Rows
theorem qdW (A : Around) (s : Shared) (a : Int) (t : Tok) (c : Int) (u : Tok) : ∃ e, SeqAt.EqAt A s (.int a t) (.int c u) e ∧ (e = true ↔ a = c) :=
  ⟨(a == c), SeqAt.EqAt.int_int a t c u, by simp⟩
section
variable {prog : Program} {w : World} {A : Around} {E : Value → Shared → Prop} {s : Shared}
theorem cat_tup {t b : Addr} {vs ws : List Value} {Q : Value → Shared → Prop} (ht : IsTup s.heap t vs.toArray) (hb : IsTup s.heap b ws.toArray) (hv : vs ≠ [])
    (h1 : ws = [] → Q (.ref t) s) (h2 : ws ≠ [] → Q (.ref s.heap.objs.size) { s with heap := s.heap.push { cls := .type "tuple", data := .seq (vs ++ ws).toArray } })
    (hsz : vs.length + ws.length ≤ sizeLine) : wpAny (model prog w) A (binaryOp .Add (.ref t) (.ref b)) Q E s := by
  obtain ⟨⟨cls, dd, data, sl⟩, ho, hc, n, hd⟩ := id ht
  obtain ⟨⟨cls2, dd2, data2, sl2⟩, ho2, hc2, n2, hd2⟩ := id hb
  simp only at hc hd hc2 hd2
  subst hc hd hc2 hd2
  have e : vs.toArray ++ ws.toArray = (vs ++ ws).toArray := by simp
  by_cases hw : ws = []
  · exact concat_meets ⟨_, ho, rfl⟩ ⟨_, ho2, rfl⟩ noFill_tuple_add seq_tuple_add PySem.F.slot_tuple_add PySem.F.entry_tuple_add (PySem.F.args_tuple_add_2 _ _)
      (tuple_addW1 t b vs.toArray ws.toArray n n2 dd dd2 sl sl2 (by simpa using hv) (by simp [hw])) ⟨ho, ho2, h1 hw⟩
  · refine concat_meets ⟨_, ho, rfl⟩ ⟨_, ho2, rfl⟩ noFill_tuple_add seq_tuple_add PySem.F.slot_tuple_add PySem.F.entry_tuple_add (PySem.F.args_tuple_add_2 _ _)
      (tuple_addW2 t b vs.toArray ws.toArray n n2 dd dd2 sl sl2 (by simpa using hv) (by simpa using hw) (by rw [List.size_toArray, List.size_toArray]; exact hsz)) ⟨ho, ho2, ?_⟩
    rw [e]
    exact h2 hw
def sIx (n d : Nat) : Option Int → Nat
  | none => d
  | some v => if v < 0 then (v + (n : Int)).toNat else min v.toNat n
theorem sIx_none (n d : Nat) : sIx n d none = d := rfl
theorem sIx_nat (n d k : Nat) : sIx n d (some (k : Int)) = min k n := by
  show (if (k : Int) < 0 then ((k : Int) + (n : Int)).toNat else min (k : Int).toNat n) = min k n
  rw [if_neg (by omega), Int.toNat_natCast]
theorem sIx_le (n d : Nat) (hd : d ≤ n) (o : Option Int) : sIx n d o ≤ n := by
  cases o with
  | none => exact hd
  | some v =>
    show (if v < 0 then (v + (n : Int)).toNat else min v.toNat n) ≤ n
    by_cases hv : v < 0
    · rw [if_pos hv]; omega
    · rw [if_neg hv]; exact Nat.min_le_right _ _
theorem qef (v : Int) (n d : Nat) : (if v < 0 then max (v + (n : Int)) 0 else min v (n : Int)) = ((sIx n d (some v) : Nat) : Int) := by
  show (if v < 0 then max (v + (n : Int)) 0 else min v (n : Int)) = (((if v < 0 then (v + (n : Int)).toNat else min v.toNat n) : Nat) : Int)
  by_cases hv : v < 0
  · simp only [if_pos hv]; omega
  · simp only [if_neg hv]; omega
theorem adjust_gen (lo hi : Option Int) (n : Nat) : Builtin.Slice.sliceAdjust lo hi 1 (n : Int) = (((sIx n 0 lo : Nat) : Int), ((sIx n n hi : Nat) : Int)) := by
  have h1 : ¬ ((1 : Int) < 0) := by omega
  unfold Builtin.Slice.sliceAdjust
  simp only [h1, if_false]
  refine Prod.ext ?_ ?_
  · cases lo with
    | none => rfl
    | some v => exact qef v n 0
  · cases hi with
    | none => rfl
    | some v => exact qef v n n
theorem places_gen (i j : Nat) : Builtin.Slice.slicePlaces (i : Int) (j : Int) 1 = j - i := by
  unfold Builtin.Slice.slicePlaces
  have h1 : (1 : Int) > 0 := by omega
  simp only [h1, if_true, Int.ediv_one]
  split <;> omega
theorem qcy {v : Value} {o : Option Int} {Q : Option Int → Shared → Prop} (p : IsPart v o) (h : Q o s) : wpAny (model prog w) A (Builtin.Slice.slicePartIndex v) Q E s := by
  cases p with
  | none => exact slicePart_none h
  | int i t => exact slicePart_int h
theorem sliceApplied_gen {sl : Addr} {vl vu : Value} {lo hi : Option Int} {n : Nat} {Q : Int × Int × Nat → Shared → Prop} (hs : s.heap.IsSliceOf sl vl vu .none) (pl : IsPart vl lo) (pu : IsPart vu hi)
    (h : Q (((sIx n 0 lo : Nat) : Int), 1, sIx n n hi - sIx n 0 lo) s) : wpAny (model prog w) A (Builtin.Slice.sliceApplied (.ref sl) (pure (n : Int))) Q E s := by
  obtain ⟨os, hos, hcs, hds⟩ := id hs
  unfold Builtin.Slice.sliceApplied Builtin.Slice.sliceFields
  refine wpAny_bind (wpAny_bind (wpAny_field hos hds (x := vl) rfl (wpAny_bind (wpAny_field hos hds (x := vu) rfl (wpAny_bind (wpAny_field hos hds (x := .none) rfl (wpAny_pure ?_)))))))
  refine wpAny_bind (slicePart_none ?_)
  show wpAny _ _ (if ((1 : Int) == 0) = true then _ else _) _ _ s
  rw [if_neg (by decide)]
  refine wpAny_bind (qcy pl (wpAny_bind (qcy pu (wpAny_bind (wpAny_pure ?_)))))
  show wpAny _ _ (match Builtin.Slice.sliceAdjust lo hi 1 (n : Int) with | (lo, hi) => pure (lo, (1 : Int), Builtin.Slice.slicePlaces lo hi 1)) _ _ s
  rw [adjust_gen lo hi n]
  show wpAny _ _ (pure (((sIx n 0 lo : Nat) : Int), (1 : Int), Builtin.Slice.slicePlaces ((sIx n 0 lo : Nat) : Int) ((sIx n n hi : Nat) : Int) 1)) _ _ s
  rw [places_gen]
  exact wpAny_pure h
theorem pick_gen (xs : Array Value) (i k : Nat) : ((List.range k).filterMap fun (m : Nat) => xs[((i : Int) + (m : Int) * 1).toNat]?).toArray = ((xs.toList.drop i).take k).toArray := by
  have e : (fun (m : Nat) => xs[((i : Int) + (m : Int) * 1).toNat]?) = fun m => xs[i + m]? := by
    funext m
    have : ((i : Int) + (m : Int) * 1).toNat = i + m := by omega
    rw [this]
  rw [e]
  have := pick_run xs i k
  rw [List.filterMap_map] at this
  have e2 : ((fun x => xs[x]?) ∘ fun x => i + x) = fun m => xs[i + m]? := rfl
  rw [e2] at this
  rw [this]
theorem getItem_tuple_cut {t sl : Addr} {items : Array Value} {vl vu : Value} {lo hi : Option Int} {Q : Value → Shared → Prop} (ht : IsTup s.heap t items) (hs : s.heap.IsSliceOf sl vl vu .none) (pl : IsPart vl lo) (pu : IsPart vu hi)
    (hw : ¬ (sIx items.size 0 lo = 0 ∧ sIx items.size items.size hi = items.size))
    (h : Q (.ref s.heap.objs.size) { s with heap := s.heap.push { cls := .type "tuple", data := .seq ((items.toList.drop (sIx items.size 0 lo)).take (sIx items.size items.size hi - sIx items.size 0 lo)).toArray } })
    (hsz : items.size ≤ sizeLine) : wpAny (model prog w) A (getItem (.ref t) (.ref sl)) Q E s := by
  have htake : sizeOk (.seq ((items.toList.drop (sIx items.size 0 lo)).take (sIx items.size items.size hi - sIx items.size 0 lo)).toArray) := by
    show ((items.toList.drop (sIx items.size 0 lo)).take (sIx items.size items.size hi - sIx items.size 0 lo)).toArray.size ≤ sizeLine
    rw [List.size_toArray, List.length_take, List.length_drop, Array.length_toList]
    omega
  have hj : sIx items.size items.size hi ≤ items.size := sIx_le _ _ (Nat.le_refl _) hi
  obtain ⟨os, hos, hcs, hds⟩ := id hs
  have hTs : s.TypeIs (.ref sl) "slice" := ⟨os, hos, hcs⟩
  unfold getItem
  try with_reducible refine wpAny_holding ?_
  first | refine wpAny_bind (wpAny_pure ?_) | skip
  refine wpAny_bind (wpAny_sequenceKey ht.typeIs (by decide) ?_)
  refine wpAny_bind (wpAny_callSpecial?_slot (name := Str.ofString "__getitem__") ht.typeIs PyProof.Rows.slot_tuple_getitem
    (wpAny_call_entry PyProof.Rows.slot_tuple_getitem ht.typeIs entry_tuple_getitem ?_ (args_tuple_getitem _ _)))
  show wpAny _ _ (Builtin.Tuple.tupleItemsOf (.ref t) >>= _) _ _ s
  refine wpAny_bind (tupleItemsOf_ ht ?_)
  refine wpAny_bind (wpAny_typeOf hTs ?_)
  rw [if_pos (by decide)]
  refine wpAny_bind (sliceApplied_gen hs pl pu ?_)
  have hno : ¬ ((((sIx items.size 0 lo : Nat) : Int) == 0 && (1 : Int) == 1 && (sIx items.size items.size hi - sIx items.size 0 lo) == items.size) = true) := by
    intro q
    rw [Bool.and_eq_true, Bool.and_eq_true] at q
    have q1 : ((sIx items.size 0 lo : Nat) : Int) = 0 := eq_of_beq q.1.1
    have q2 : sIx items.size items.size hi - sIx items.size 0 lo = items.size := eq_of_beq q.2
    exact hw ⟨by omega, by omega⟩
  show wpAny _ _ (if (((sIx items.size 0 lo : Nat) : Int) == 0 && (1 : Int) == 1 && (sIx items.size items.size hi - sIx items.size 0 lo) == items.size) = true then _ else _) _ _ s
  rw [if_neg hno, pick_gen]
  first
    | exact wpAny_bind (m := Builtin.Tuple.tupleExact _) (wpAny_newObj_type (wpAny_pure ⟨_, rfl, wpAny_pure h⟩) htake)
    | exact wpAny_bind (m := Builtin.Tuple.tupleExact _) (wpAny_newObj_type (wpAny_bind (wpAny_pure (wpAny_pure ⟨_, rfl, wpAny_pure h⟩))) htake)
    | exact wpAny_bind (wpAny_bind (m := Builtin.Tuple.tupleExact _) (wpAny_newObj_type (wpAny_pure (wpAny_pure ⟨_, rfl, wpAny_pure h⟩)) htake))
    | exact wpAny_bind (wpAny_bind (m := Builtin.Tuple.tupleExact _) (wpAny_newObj_type (wpAny_pure ⟨_, rfl, wpAny_pure h⟩) htake))
end
end HT
namespace L2
open PySem PySem.Spec PyProof.Rows
abbrev TO := St → Hp → (Option Int → Hp → Prop) → Prop
def PO (X : Cx) (e : Option Expr) (t : TO) : Prop :=
  ∀ (pins : List (Addr × Obj)) (s : Shared) (σ : St) (H : Hp) (Q : Option Int → Hp → Prop), Inv X pins σ H s → t σ H Q →
    wpAny (model X.prog X.w) X.A (evalPart e X.env) (fun u s' => ∃ o H', Inv X pins σ H' s' ∧ IsPart u o ∧ Q o H') X.xe s
def tNoPart : TO := fun _ H Q => Q none H
def tPart (t : TE) : TO := fun σ H Q => t σ H fun x H1 => ∃ i, x = .int i ∧ Q (some i) H1
theorem qbd {ns : List Int} : ∀ {us : List Value}, Vals (ns.map V.int) us → IntsAre us ns := by
  induction ns with
  | nil => intro us r; rw [List.map_nil] at r; cases r; exact .nil
  | cons n ns ih =>
    intro us r
    rw [List.map_cons] at r
    cases r with
    | cons r1 r2 =>
      obtain ⟨t, e⟩ := r1
      subst e
      exact .cons n t (ih r2)
section
variable {X : Cx} {e : Expr} {te : TE} {lo hi : Option Expr} {tl th : TO} {pos p2 : Pos}
theorem po_none : PO X none tNoPart := by
  intro pins s σ H Q I h
  rw [evalPart_none]
  exact wpAny_pure ⟨none, H, I, .none, h⟩
theorem qaW (h : PE X e te) : PO X (some e) (tPart te) := by
  intro pins s σ H Q I hw
  rw [evalPart_some]
  refine thn (h pins s σ H _ I hw) fun u s1 ⟨x, H1, I1, r1, q1⟩ => ?_
  obtain ⟨i, rfl, q⟩ := q1
  obtain ⟨t, rfl⟩ := r1
  exact ⟨some i, H1, I1, .int i t, q⟩
def SlR (X : Cx) (r : V → Option Int → Option Int → Hp → VK → Prop) : Prop :=
  ∀ (pins : List (Addr × Obj)) (s : Shared) (σ : St) (H : Hp) (x : V) (v vl vu : Value) (lo hi : Option Int) (sl : Addr) (Q : VK), Inv X pins σ H s → RelV x v → s.heap.IsSliceOf sl vl vu .none → IsPart vl lo → IsPart vu hi → r x lo hi H Q →
    ∃ T id, typeLookup (.type T) "__getitem__" = pure (some (.builtin id)) ∧ s.TypeIs v T ∧ wpAny (model X.prog X.w) X.A (getItem v (.ref sl)) (EP X pins σ Q) X.xe s
def tSl (r : V → Option Int → Option Int → Hp → VK → Prop) (te : TE) (tl th : TO) : TE := fun σ H Q => te σ H fun x H1 => tl σ H1 fun l H2 => th σ H2 fun u H3 => r x l u H3 Q
theorem qaR {r : V → Option Int → Option Int → Hp → VK → Prop} (hr : SlR X r) (he : PE X e te) (hl : PO X lo tl) (hu : PO X hi th) : PE X (.Subscript e (.Slice lo hi none p2) pos) (tSl r te tl th) := by
  intro pins s σ H Q I h
  refine Subscript_ (thn (he pins s σ H _ I h) fun v s1 ⟨x, H1, I1, r1, q1⟩ => ?_)
  refine wpAny_Slice (thn (hl pins s1 σ H1 _ I1 q1) fun vl s2 ⟨l, H2, I2, pl, q2⟩ => thn (hu pins s2 σ H2 _ I2 q2) fun vu s3 ⟨u, H3, I3, pu, q3⟩ => ?_)
  rw [evalPart_none]
  refine wpAny_pure ?_
  have I4 : Inv X pins σ H3 { s3 with heap := s3.heap.push { cls := .type "slice", data := .fields #[vl, vu, .none] } } := I3.kept (t' := s3.toks) fun b ob q => Heap.get?_push_of_some _ q
  obtain ⟨T, id, hT, ht, hg⟩ := hr pins { s3 with heap := s3.heap.push { cls := .type "slice", data := .fields #[vl, vu, .none] } } σ H3 x v vl vu l u s3.heap.objs.size Q I4 r1 (Heap.IsSliceOf.new ..) pl pu q3
  show wpAny (model X.prog X.w) X.A (subscriptTail e (.Slice lo hi none p2) v (.ref s3.heap.objs.size)) (EP X pins σ Q) X.xe { s3 with heap := s3.heap.push { cls := .type "slice", data := .fields #[vl, vu, .none] } }
  exact tail_any (ops := [.ref s3.heap.objs.size, v]) ht hT hg (by with_unfolding_all rfl)
def cutV (xs : List V) (lo hi : Option Int) : List V := (xs.drop (HT.sIx xs.length 0 lo)).take (HT.sIx xs.length xs.length hi - HT.sIx xs.length 0 lo)
theorem qcn (xs : List V) (lo hi : Option Int) : (cutV xs lo hi).length ≤ xs.length := by
  unfold cutV
  rw [List.length_take, List.length_drop]
  omega
def rSlT (K : PySem.W.Frag) : V → Option Int → Option Int → Hp → VK → Prop := fun x lo hi H Q => ∃ a xs, x = .ref a ∧ SqT K H a xs ∧
  ¬ (HT.sIx xs.length 0 lo = 0 ∧ HT.sIx xs.length xs.length hi = xs.length) ∧ ∀ p, H p = none → Q (.ref p) (upd H p (.tup (cutV xs lo hi)))
theorem sl_tup : SlR X (rSlT X.K) := by
  intro pins s σ H x v vl vu lo hi sl Q I rx hs pl pu h
  obtain ⟨a, xs, rfl, hx, hw, q⟩ := h
  cases rx
  obtain ⟨its, r, ht, hz⟩ := I.tuple hx
  have hlen : its.toArray.size = xs.length := by rw [List.size_toArray]; exact r.length.symm
  refine ⟨"tuple", _, PyProof.Rows.slot_tuple_getitem.lookup, ht.typeIs, ?_⟩
  refine HT.getItem_tuple_cut ht hs pl pu (by rw [hlen]; exact hw) ?_ (by rw [hlen]; exact hz)
  rw [hlen]
  refine ⟨.ref s.heap.objs.size, _, I.laid (t' := s.toks) (o := .tup (cutV xs lo hi)) (fun b ob q => Heap.get?_push_of_some _ q) (Nat.le_refl _) ?_, rfl, q _ (I.hok.fresh (Nat.le_refl _))⟩
  exact ⟨Nat.le_trans (qcn xs lo hi) hz, _, (r.drop (HT.sIx xs.length 0 lo)).take (HT.sIx xs.length xs.length hi - HT.sIx xs.length 0 lo), IsTup.new _ _⟩
def rCatT (K : PySem.W.Frag) : R2 := fun x y H Q => ∃ a b xs ys, x = .ref a ∧ y = .ref b ∧ SqT K H a xs ∧ SqT K H b ys ∧ xs ≠ [] ∧ xs.length + ys.length ≤ sizeLine ∧
  (ys = [] → Q (.ref a) H) ∧ (ys ≠ [] → ∀ p, H p = none → Q (.ref p) (upd H p (.tup (xs ++ ys))))
theorem Vals.nil_iff {xs : List V} {us : List Value} (r : Vals xs us) : us = [] ↔ xs = [] := by
  cases r with
  | nil => simp
  | cons _ _ => simp
theorem op_catT : OpR X (binaryOp .Add) (rCatT X.K) := by
  intro pins s σ H x y v u Q I rx ry h
  obtain ⟨a, b, xs, ys, rfl, rfl, ha, hb, hx, hz, q1, q2⟩ := h
  cases rx
  cases ry
  obtain ⟨its, r1, p1, _⟩ := I.tuple ha
  obtain ⟨its2, r2, p2, _⟩ := I.tuple hb
  refine HT.cat_tup p1 p2 (fun z => hx (r1.nil_iff.mp z)) (fun z => ⟨.ref a, H, I, rfl, q1 (r2.nil_iff.mp z)⟩) (fun z => ?_) (by rw [← r1.length, ← r2.length]; exact hz)
  refine ⟨.ref s.heap.objs.size, _, I.laid (t' := s.toks) (o := .tup (xs ++ ys)) (fun b ob q => Heap.get?_push_of_some _ q) (Nat.le_refl _) ?_, rfl, q2 (fun w => z (r2.nil_iff.mpr w)) _ (I.hok.fresh (Nat.le_refl _))⟩
  exact ⟨by rw [List.length_append]; exact hz, _, r1.append r2, IsTup.new _ _⟩
end
end L2
namespace L2
open PySem PySem.Spec PyProof.Rows
def ixN (n : Nat) (i : Int) : Option Nat := if 0 ≤ i then (if i < n then some i.toNat else none) else if -(n : Int) ≤ i then some (i + n).toNat else none
def atI {α : Type} (xs : List α) (i : Int) : Option α := (ixN xs.length i).bind fun j => xs[j]?
theorem qd6 {n : Nat} {i : Int} {j : Nat} (h : ixN n i = some j) : seqIndex? i n = some j ∧ j < n ∧ -(n : Int) ≤ i ∧ i < n := by
  unfold ixN at h
  by_cases h0 : 0 ≤ i
  · rw [if_pos h0] at h
    by_cases h1 : i < n
    · rw [if_pos h1] at h
      have e : i.toNat = j := Option.some.inj h
      exact ⟨by rw [seqIndex_of h0 h1, e], by omega, by omega, h1⟩
    · rw [if_neg h1] at h; cases h
  · rw [if_neg h0] at h
    by_cases h1 : -(n : Int) ≤ i
    · rw [if_pos h1] at h
      have e : (i + n).toNat = j := Option.some.inj h
      exact ⟨by rw [seqIndex_neg (by omega) h1, e], by omega, h1, by omega⟩
    · rw [if_neg h1] at h; cases h
theorem qdt {α : Type} {xs : List α} {i : Int} {v : α} (h : atI xs i = some v) : ∃ j, seqIndex? i xs.length = some j ∧ xs[j]? = some v ∧ j < xs.length ∧ -(xs.length : Int) ≤ i ∧ i < xs.length := by
  unfold atI at h
  cases e : ixN xs.length i with
  | none => rw [e] at h; cases h
  | some j =>
    rw [e] at h
    obtain ⟨h1, h2, h3, h4⟩ := qd6 e
    exact ⟨j, h1, h, h2, h3, h4⟩
theorem qcX {α : Type} {xs : List α} {j : Nat} {v : α} (h : xs[j]? = some v) : atI xs (j : Int) = some v := by
  have hj : j < xs.length := (List.getElem?_eq_some_iff.mp h).1
  have e : ixN xs.length (j : Int) = some j := by
    unfold ixN
    rw [if_pos (by omega), if_pos (by omega)]; simp
  unfold atI; rw [e]; exact h
def PlainIx (b : Expr) : Prop := ∀ o i, subscripted b false o i = operate [o, i] (getItem o i)
def IxR (X : Cx) (r : R2) : Prop :=
  ∀ (value slice : Expr) (pins : List (Addr × Obj)) (s : Shared) (σ : St) (H : Hp) (x y : V) (v u : Value) (Q : VK), Inv X pins σ H s → RelV x v → RelV y u → r x y H Q →
    subscripted slice false v u = operate [v, u] (getItem v u) → wpAny (model X.prog X.w) X.A (subscriptTail value slice v u) (EP X pins σ Q) X.xe s
def MtR (X : Cx) (id : String) (r : V → List V → Hp → VK → Prop) : Prop :=
  ∀ (pins : List (Addr × Obj)) (s : Shared) (σ : St) (H : Hp) (x : V) (xs : List V) (v : Value) (us : List Value) (Q : VK), Inv X pins σ H s → RelV x v → Vals xs us → r x xs H Q →
    wpAny (model X.prog X.w) X.A (call (.builtin id) (v :: us)) (EP X pins σ Q) X.xe s
section
variable {X : Cx} {a b : Expr} {ta tb : TE} {pos : Pos}
theorem qaj {r : R2} (hr : IxR X r) (ha : PE X a ta) (hb : PE X b tb) (hs : PlainIx b) : PE X (.Subscript a b pos) (tOp r ta tb) := by
  intro pins s σ H Q I h
  exact Subscript_ (binT ha hb I h fun v u s2 x y H2 I2 rx ry q => hr a b pins s2 σ H2 x y v u Q I2 rx ry q (hs _ _))
def rIxL (K : PySem.W.Frag) : R2 := fun x y H Q => ∃ p xs i v, x = .ref p ∧ y = .int i ∧ SqL K H p xs ∧ atI xs i = some v ∧ Q v H
def rIxT (K : PySem.W.Frag) : R2 := fun x y H Q => ∃ p xs i v, x = .ref p ∧ y = .int i ∧ SqT K H p xs ∧ atI xs i = some v ∧ Q v H
def rIxS : R2 := fun x y H Q => ∃ z i c, x = .str z ∧ y = .int i ∧ z.length ≤ sizeLine ∧ atI z.cps.toList i = some c ∧ Q (.str ⟨#[c]⟩) H
theorem ix_list : IxR X (rIxL X.K) := by
  intro value slice pins s σ H x y v u Q I rx ry h hs
  obtain ⟨p, xs, i, z, rfl, rfl, hq, he, q⟩ := h
  cases rx
  obtain ⟨t, rfl⟩ := ry
  obtain ⟨its, r, pl, hz⟩ := I.list hq
  obtain ⟨j, h1, h2, h3, h4, h5⟩ := qdt he
  obtain ⟨w, ew, rw'⟩ := r.get h2
  have hl := r.length
  have hn := line63
  have fin : EP X pins σ Q w s := ⟨z, H, I, rw', q⟩
  by_cases h0 : 0 ≤ i
  · have hj : i.toNat = j := by
      rw [seqIndex_of h0 h5] at h1
      exact Option.some.inj h1
    exact item_listR pl.isList h0 (by omega) (by rw [hj]; simpa using ew) fin hs
  · have hj : (i + (its.toArray.size : Int)).toNat = j := by
      rw [seqIndex_neg (by omega) h4] at h1
      rw [List.size_toArray, ← hl]
      exact Option.some.inj h1
    exact subscriptTail_builtinR (x := w) pl.isList.typeIs slot_list_getitem.lookup
      (wpAny_getItem_list_neg (Q := fun r s' => r = w ∧ EP X pins σ Q r s') pl.isList (by omega) (by rw [List.size_toArray] <;> omega) (by omega) (by rw [hj]; simpa using ew) ⟨rfl, fin⟩) hs
theorem ix_tup : IxR X (rIxT X.K) := by
  intro value slice pins s σ H x y v u Q I rx ry h hs
  obtain ⟨p, xs, i, z, rfl, rfl, hq, he, q⟩ := h
  cases rx
  obtain ⟨t, rfl⟩ := ry
  obtain ⟨its, r, pl, hz⟩ := I.tuple hq
  obtain ⟨j, h1, h2, h3, h4, h5⟩ := qdt he
  obtain ⟨w, ew, rw'⟩ := r.get h2
  have hl := r.length
  have hn := line63
  have fin : EP X pins σ Q w s := ⟨z, H, I, rw', q⟩
  exact subscriptTail_builtinR (x := w) pl.typeIs slot_tuple_getitem.lookup
    (getItem_tuple (j := j) (Q := fun r s' => r = w ∧ EP X pins σ Q r s') pl (by omega) (by omega) (by rw [List.size_toArray, ← hl]; exact h1) (by simpa using ew) ⟨rfl, fin⟩) hs
theorem ix_str : IxR X rIxS := by
  intro value slice pins s σ H x y v u Q I rx ry h hs
  obtain ⟨z, i, c, rfl, rfl, hz, he, q⟩ := h
  obtain ⟨t, rfl⟩ := rx
  obtain ⟨t', rfl⟩ := ry
  obtain ⟨j, h1, h2, h3, h4, h5⟩ := qdt he
  have hl : z.cps.toList.length = z.length := by simp [Str.length]
  rw [hl] at h1 h4 h5
  have hn := line63
  exact tail_any (typeIs_str s z t) slot_str_getitem.lookup (getItem_str (c := c) (by
    have e1 : decide (i < -(2 ^ 63 : Int)) = false := decide_eq_false (by omega)
    have e2 : decide (i ≥ 2 ^ 63) = false := decide_eq_false (by omega)
    rw [e1, e2, Bool.or_false]) (by rw [h1]; simpa using h2) ⟨.str ⟨#[c]⟩, H, I.tok _, ⟨_, rfl⟩, q⟩) hs
theorem mapSeq_set (its : List Value) (n j : Nat) (u : Value) : Obj.mapSeq (·.setIfInBounds j u) { cls := .type "list", data := .seq its.toArray n } = { cls := .type "list", data := .seq (its.set j u).toArray n } := by
  simp [Obj.mapSeq]
theorem Inv.lst {pins : List (Addr × Obj)} {σ : St} {H : Hp} {s : Shared} {p : Addr} {xs : List V} (I : Inv X pins σ H s) (h : H p = some (.lst xs)) :
    ∃ (its : List Value) (n : Nat), Vals xs its ∧ s.heap.get? p = some { cls := .type "list", data := .seq its.toArray n } ∧ xs.length ≤ sizeLine := by
  obtain ⟨z, its, n, r, e⟩ := I.hok p _ h
  exact ⟨its, n, r, e, z⟩
theorem Inv.lstUpd {pins : List (Addr × Obj)} {σ : St} {H : Hp} {s : Shared} {p : Addr} {xs ys : List V} {its its' : List Value} {n n' : Nat} {f : Obj → Obj} (I : Inv X pins σ H s) (h : H p = some (.lst xs))
    (ho : s.heap.get? p = some { cls := .type "list", data := .seq its.toArray n }) (hf : f { cls := .type "list", data := .seq its.toArray n } = { cls := .type "list", data := .seq its'.toArray n' }) (r : Vals ys its') (hz : ys.length ≤ sizeLine) (t : Nat) :
    Inv X pins σ (upd H p (.lst ys)) { s with heap := s.heap.update p f, toks := t } := by
  have e : (s.heap.update p f).get? p = some { cls := .type "list", data := .seq its'.toArray n' } := by
    rw [Heap.get?_update_self f ho (by rw [hf] <;> rfl), hf]
  refine I.write (x := p) (e := p) (by rw [h]; trivial) (.inl rfl) (fun b u hb q => (Heap.get?_update_other _ _ (Ne.symm hb)).trans q) ⟨_, e⟩ ?_
  exact ⟨hz, its', n', r, e⟩
def rSetL : V → V → V → Hp → (Hp → Prop) → Prop := fun o i v H Q => ∃ p xs k j, o = .ref p ∧ i = .int k ∧ H p = some (.lst xs) ∧ ixN xs.length k = some j ∧ Q (upd H p (.lst (xs.set j v)))
theorem set_list : PSet X rSetL := by
  intro pins s σ H o i v ov iv u Q I ro ri rv h
  obtain ⟨p, xs, k, j, rfl, rfl, hp, hj, q⟩ := h
  cases ro
  obtain ⟨t, rfl⟩ := ri
  obtain ⟨its, n, r, ho, hz⟩ := I.lst hp
  obtain ⟨h1, h2, h3, h4⟩ := qd6 hj
  have hl := r.length
  have hn := line63
  have I' : Inv X pins σ (upd H p (.lst (xs.set j v))) { s with heap := s.heap.update p (Obj.mapSeq (·.setIfInBounds j u)) } :=
    I.lstUpd hp ho (mapSeq_set its n j u) (r.set rv j) (by rw [List.length_set]; exact hz) s.toks
  by_cases h0 : 0 ≤ k
  · have hk : k.toNat = j := by
      rw [seqIndex_of h0 h4] at h1
      exact Option.some.inj h1
    exact PySem.W.ki_setAt ho h0 (by omega) (by rw [List.size_toArray, ← hl]; exact h4) (by rw [hk]; exact ⟨_, I', q⟩)
  · have hk : (k + (its.toArray.size : Int)).toNat = j := by
      rw [seqIndex_neg (by omega) h3] at h1
      rw [List.size_toArray, ← hl]
      exact Option.some.inj h1
    exact PySem.W.ki_setBack ho (by omega) (by rw [List.size_toArray, ← hl]; exact h3) (by omega) (by rw [hk]; exact ⟨_, I', q⟩)
theorem slice_bounds (lo hi : Option Int) (n : Nat) : (sliceBounds lo hi none n).1 = ((HT.sIx n 0 lo : Nat) : Int) ∧ (sliceBounds lo hi none n).2.1 = ((HT.sIx n n hi : Nat) : Int) ∧ (sliceBounds lo hi none n).2.2 = 1 := by
  refine ⟨?_, ?_, rfl⟩
  · cases lo with
    | none => simp [sliceBounds, HT.sIx]
    | some i =>
      simp only [sliceBounds, HT.sIx, Option.getD_none, show (1 : Int) > 0 by decide, if_true]
      by_cases h : i < 0
      · simp only [h, if_true] <;> omega
      · simp only [h, if_false] <;> omega
  · cases hi with
    | none => simp [sliceBounds, HT.sIx]
    | some i =>
      simp only [sliceBounds, HT.sIx, Option.getD_none, show (1 : Int) > 0 by decide, if_true]
      by_cases h : i < 0
      · simp only [h, if_true] <;> omega
      · simp only [h, if_false] <;> omega
theorem slicePick_cut (its : List Value) (lo hi : Option Int) : slicePick its.toArray lo hi none = ((its.drop (HT.sIx its.length 0 lo)).take (HT.sIx its.length its.length hi - HT.sIx its.length 0 lo)).toArray := by
  obtain ⟨h1, h2, h3⟩ := slice_bounds lo hi its.toArray.size
  unfold slicePick
  rw [h1, h2, h3]
  simp only [sliceRange_one, pick_run, List.size_toArray] <;> rfl
def rSlL (K : PySem.W.Frag) : V → Option Int → Option Int → Hp → VK → Prop := fun x lo hi H Q => ∃ a xs, x = .ref a ∧ SqL K H a xs ∧ ∀ p, H p = none → Q (.ref p) (upd H p (.lst (cutV xs lo hi)))
theorem sl_list : SlR X (rSlL X.K) := by
  intro pins s σ H x v vl vu lo hi sl Q I rx hs pl pu h
  obtain ⟨a, xs, rfl, hx, q⟩ := h
  cases rx
  obtain ⟨its, r, ht, hz⟩ := I.list hx
  have hlen := r.length
  refine ⟨"list", _, slot_list_getitem.lookup, ht.isList.typeIs, ?_⟩
  refine wpAny_getItem_list_slice ht.isList hs pl pu .none (by simp) ?_ (by rw [List.size_toArray] <;> omega)
  rw [slicePick_cut, ← hlen]
  refine ⟨.ref s.heap.objs.size, _, I.laid (t' := s.toks) (o := .lst (cutV xs lo hi)) (fun b ob q => Heap.get?_push_of_some _ q) (Nat.le_refl _) ?_, rfl, q _ (I.hok.fresh (Nat.le_refl _))⟩
  exact ⟨Nat.le_trans (qcn xs lo hi) hz, _, 0, (r.drop (HT.sIx xs.length 0 lo)).take (HT.sIx xs.length xs.length hi - HT.sIx xs.length 0 lo), Heap.get?_push_size _ rfl⟩
def flatV : V → Bool
  | .non => true
  | .bl _ => true
  | .int _ => true
  | .str _ => true
  | _ => false
def eqV : V → V → Bool
  | .non, .non => true
  | .bl a, .bl b => a == b
  | .bl a, .int b => (if a then 1 else 0) == b
  | .int a, .bl b => a == (if b then 1 else 0)
  | .int a, .int b => a == b
  | .str a, .str b => a == b
  | _, _ => false
theorem eqAt_V {A : Around} {s : Shared} {y x : V} {u v : Value} (ry : RelV y u) (rx : RelV x v) (fy : flatV y = true) (fx : flatV x = true) : SeqAt.EqAt A s u v (eqV y x) := by
  cases y with
  | non =>
    cases ry
    cases x with
    | non => cases rx; exact SeqAt.EqAt.same _
    | bl b => cases rx; exact SeqAt.EqAt.none_bool b
    | int b => obtain ⟨t, rfl⟩ := rx; exact SeqAt.EqAt.none_int b t
    | str b => obtain ⟨t, rfl⟩ := rx; exact SeqAt.EqAt.none_str b t
    | _ => exact absurd (show false = true from fx) Bool.false_ne_true
  | bl a =>
    cases ry
    cases x with
    | non => cases rx; exact SeqAt.EqAt.bool_none a
    | bl b => cases rx; exact SeqAt.EqAt.bool_bool a b
    | int b => obtain ⟨t, rfl⟩ := rx; exact SeqAt.EqAt.bool_int a b t
    | str b => obtain ⟨t, rfl⟩ := rx; exact SeqAt.EqAt.bool_str a b t
    | _ => exact absurd (show false = true from fx) Bool.false_ne_true
  | int a =>
    obtain ⟨t', rfl⟩ := ry
    cases x with
    | non => cases rx; exact SeqAt.EqAt.int_none a t'
    | bl b => cases rx; exact SeqAt.EqAt.int_bool a t' b
    | int b => obtain ⟨t, rfl⟩ := rx; exact SeqAt.EqAt.int_int a t' b t
    | str b => obtain ⟨t, rfl⟩ := rx; exact SeqAt.EqAt.int_str a t' b t
    | _ => exact absurd (show false = true from fx) Bool.false_ne_true
  | str a =>
    obtain ⟨t', rfl⟩ := ry
    cases x with
    | non => cases rx; exact SeqAt.EqAt.str_none a t'
    | bl b => cases rx; exact SeqAt.EqAt.str_bool a t' b
    | int b => obtain ⟨t, rfl⟩ := rx; exact SeqAt.EqAt.str_int a t' b t
    | str b => obtain ⟨t, rfl⟩ := rx; exact SeqAt.EqAt.str_str a t' b t
    | _ => exact absurd (show false = true from fx) Bool.false_ne_true
  | _ => exact absurd (show false = true from fy) Bool.false_ne_true
def eqU (x : V) (u : Value) : Bool := match u with
  | .none => eqV .non x
  | .bool b => eqV (.bl b) x
  | .int i _ => eqV (.int i) x
  | .str z _ => eqV (.str z) x
  | _ => false
theorem qeU {x y : V} {u : Value} (r : RelV y u) (f : flatV y = true) : eqU x u = eqV y x := by
  cases y with
  | non => cases r; rfl
  | bl b => cases r; rfl
  | int i => obtain ⟨t, rfl⟩ := r; rfl
  | str z => obtain ⟨t, rfl⟩ := r; rfl
  | _ => exact absurd (show false = true from f) Bool.false_ne_true
theorem qb7 {x : V} : ∀ {xs : List V} {us : List Value}, Vals xs us → xs.all flatV = true → us.any (eqU x) = xs.any fun y => eqV y x
  | _, _, .nil, _ => rfl
  | y :: xs, u :: us, .cons r t, f => by
    rw [List.all_cons, Bool.and_eq_true] at f
    rw [List.any_cons, List.any_cons, qeU r f.1, qb7 t f.2]
theorem qbQ {A : Around} {s : Shared} {x : V} {v : Value} (rx : RelV x v) (fx : flatV x = true) : ∀ {xs : List V} {us : List Value}, Vals xs us → xs.all flatV = true → ∀ u ∈ us, SeqAt.EqAt A s u v (eqU x u)
  | _, _, .nil, _ => fun u hu => by cases hu
  | y :: xs, u :: us, .cons r t, f => fun u' hu => by
    rw [List.all_cons, Bool.and_eq_true] at f
    rcases List.mem_cons.mp hu with rfl | hu
    · rw [qeU r f.1]; exact eqAt_V r rx f.1 fx
    · exact qbQ rx fx t f.2 u' hu
def inV (x : V) (xs : List V) : Bool := xs.any fun y => eqV y x
def rIn (K : PySem.W.Frag) (neg : Bool) : R2 := fun x y H Q => ∃ p xs, y = .ref p ∧ (SqL K H p xs ∨ SqT K H p xs) ∧ flatV x = true ∧ xs.all flatV = true ∧ Q (.bl (if neg then !inV x xs else inV x xs)) H
theorem op_in_seq : OpR X (compareOp .In) (rIn X.K false) := by
  intro pins s σ H x y v u Q I rx ry h
  obtain ⟨p, xs, rfl, hq, fx, fs, q⟩ := h
  cases ry
  rcases hq with hq | hq
  · obtain ⟨its, r, pl, hz⟩ := I.list hq
    refine SeqAt.in_listAt (eqU x) pl.isList (fun w hw => qbQ rx fx r fs w (by simpa using hw)) ⟨.bl _, H, I, rfl, ?_⟩
    rw [show its.toArray.any (eqU x) = its.any (eqU x) by simp, qb7 r fs]
    exact q
  · obtain ⟨its, r, pl, hz⟩ := I.tuple hq
    refine SeqAt.in_tupleAt (eqU x) pl (fun w hw => qbQ rx fx r fs w (by simpa using hw)) ⟨.bl _, H, I, rfl, ?_⟩
    rw [show its.toArray.any (eqU x) = its.any (eqU x) by simp, qb7 r fs]
    exact q
theorem op_notIn_seq : OpR X (compareOp .NotIn) (rIn X.K true) := by
  intro pins s σ H x y v u Q I rx ry h
  obtain ⟨p, xs, rfl, hq, fx, fs, q⟩ := h
  cases ry
  rcases hq with hq | hq
  · obtain ⟨its, r, pl, hz⟩ := I.list hq
    refine SeqAt.notIn_listAt (eqU x) pl.isList (fun w hw => qbQ rx fx r fs w (by simpa using hw)) ⟨.bl _, H, I, rfl, ?_⟩
    rw [show its.toArray.any (eqU x) = its.any (eqU x) by simp, qb7 r fs]
    exact q
  · obtain ⟨its, r, pl, hz⟩ := I.tuple hq
    refine SeqAt.notIn_tupleAt (eqU x) pl (fun w hw => qbQ rx fx r fs w (by simpa using hw)) ⟨.bl _, H, I, rfl, ?_⟩
    rw [show its.toArray.any (eqU x) = its.any (eqU x) by simp, qb7 r fs]
    exact q
theorem call_len_seq : qbU X (.builtin "len") (fun xs H Q => ∃ p ys, xs = [.ref p] ∧ (SqL X.K H p ys ∨ SqT X.K H p ys) ∧ Q (.int ys.length) H) := by
  intro pins s σ H xs us Q I r h
  obtain ⟨p, ys, rfl, hq, q⟩ := h
  obtain ⟨u, rfl, rx⟩ := qcv r
  cases rx
  have hn := line63
  rcases hq with hq | hq
  · obtain ⟨its, r', pl, hz⟩ := I.list hq
    have hlen := r'.length
    exact Calls.call_len_list pl.isList (by simp only [List.size_toArray] <;> omega) ⟨.int ys.length, H, I.tok _, ⟨s.toks + 1, by rw [List.size_toArray, hlen]⟩, q⟩
  · obtain ⟨its, r', pl, hz⟩ := I.tuple hq
    have hlen := r'.length
    exact len_tuple pl (by simp only [List.size_toArray] <;> omega) ⟨.int ys.length, H, I.tok _, ⟨s.toks + 1, by rw [List.size_toArray, hlen]⟩, q⟩
theorem call_list_of : qbU X (.type "list") (fun xs H Q => ∃ p ys, xs = [.ref p] ∧ (SqL X.K H p ys ∨ SqT X.K H p ys) ∧ ∀ l, H l = none → Q (.ref l) (upd H l (.lst ys))) := by
  intro pins s σ H xs us Q I r h
  obtain ⟨p, ys, rfl, hq, q⟩ := h
  obtain ⟨u, rfl, rx⟩ := qcv r
  cases rx
  have fin : ∀ (its : List Value), Vals ys its → ys.length ≤ sizeLine → ∀ (h' : Heap) (c' : Nat), (∀ b o', s.heap.get? b = some o' → h'.get? b = some o') →
      h'.get? s.heap.objs.size = some { cls := .type "list", dict := none, data := .seq its.toArray c', slots := #[] } → EP X pins σ Q (.ref s.heap.objs.size) { s with heap := h' } := fun its r' hz h' c' kp e =>
    ⟨.ref s.heap.objs.size, _, I.laid (t' := s.toks) kp (Nat.le_refl _) (show ObjOk X.prog X.w _ h' _ (.lst ys) from ⟨hz, its, c', r', e⟩), rfl, q _ (I.hok.fresh (Nat.le_refl _))⟩
  rcases hq with hq | hq
  · obtain ⟨its, r', pl, hz⟩ := I.list hq
    have hlen := r'.length
    obtain ⟨o, ho, hc, n, hd⟩ := pl.isList
    exact call_list_seq p (.inl rfl) ho hc hd (fun h' c' kp e => fin its r' hz h' c' kp e) (by simp only [List.size_toArray] <;> omega)
  · obtain ⟨its, r', pl, hz⟩ := I.tuple hq
    have hlen := r'.length
    obtain ⟨o, ho, hc, n, hd⟩ := pl
    exact call_list_seq p (.inr rfl) ho hc hd (fun h' c' kp e => fin its r' hz h' c' kp e) (by simp only [List.size_toArray] <;> omega)
def tyV (K : PySem.W.Frag) (T : String) (x : V) (H : Hp) : Prop := match x with
  | .str _ => T = "str"
  | .int _ => T = "int"
  | .ref p => (T = "list" ∧ ∃ xs, SqL K H p xs) ∨ (T = "tuple" ∧ ∃ o, K.lookup p = some o ∧ o.cls = .type "tuple" ∧ o.dict = none) ∨
      (T = "dict" ∧ ((∃ kvs, H p = some (.dK kvs)) ∨ ∃ kvs, H p = some (.dT kvs))) ∨ (T = "set" ∧ ∃ S n, H p = some (.set S n))
  | _ => False
theorem tyV_is {pins : List (Addr × Obj)} {σ : St} {H : Hp} {s : Shared} {T : String} {x : V} {v : Value} (I : Inv X pins σ H s) (r : RelV x v) (ty : tyV X.K T x H) :
    s.TypeIs v T ∧ ∀ a, v = .ref a → ∃ ob, s.heap.get? a = some ob ∧ ob.dict = none := by
  cases x with
  | str z =>
    obtain ⟨t, rfl⟩ := r
    cases (show T = "str" from ty)
    exact ⟨typeIs_str s z t, fun _ e => nomatch e⟩
  | int i =>
    obtain ⟨t, rfl⟩ := r
    cases (show T = "int" from ty)
    exact ⟨typeIs_int s i t, fun _ e => nomatch e⟩
  | ref p =>
    cases r
    rcases ty with ⟨rfl, xs, hq⟩ | ⟨rfl, o, hk, hc, hd⟩ | ⟨rfl, hk⟩ | ⟨rfl, S, n, hk⟩
    · obtain ⟨its, _, pl, _⟩ := I.list hq
      refine ⟨pl.isList.typeIs, fun a e => ?_⟩
      cases e
      obtain ⟨o, n, e, c, hd, _⟩ := pl
      exact ⟨o, e, hd⟩
    · refine ⟨⟨o, I.kIn p o hk, hc⟩, fun a e => ?_⟩
      cases e
      exact ⟨o, I.kIn _ o hk, hd⟩
    · have z : ∃ o, s.heap.get? p = some o ∧ o.ExactDict := by
        rcases hk with ⟨kvs, hk⟩ | ⟨kvs, hk⟩
        · obtain ⟨_, _, _, _, o, _, _, e, ex, _⟩ := I.hok p _ hk
          exact ⟨o, e, ex⟩
        · obtain ⟨_, _, _, _, o, _, _, e, ex, _⟩ := I.hok p _ hk
          exact ⟨o, e, ex⟩
      obtain ⟨o, e, ex⟩ := z
      refine ⟨⟨o, e, ex.1⟩, fun a e2 => ?_⟩
      cases e2
      exact ⟨o, e, ex.2.1⟩
    · obtain ⟨o, _, _, _, e, ex, _⟩ := I.hok p _ hk
      refine ⟨⟨o, e, ex.1⟩, fun a e2 => ?_⟩
      cases e2
      exact ⟨o, e, ex.2.1⟩
  | _ => exact False.elim ty
def tBM (K : PySem.W.Frag) (T : String) (r : V → List V → Hp → VK → Prop) (to : TE) (t : TA) : TE := fun σ H Q => to σ H fun x H1 => tyV K T x H1 ∧ t σ H1 fun xs H2 => r x xs H2 Q
variable {o e : Expr} {es : List Expr} {to : TE} {t : TA} {name : Str} {apos cpos : Pos} {T id : String} {r : V → List V → Hp → VK → Prop}
theorem qbI (pa : PlainAttrs T) (slot : Slot T name id) (hty : typeOf (.builtin id) = pure (.type "method_descriptor")) (hm : MtR X id r) (ho : PE X o to) (ha : PA X (e :: es) t)
    (hbase : attributeBase o name X.env (eval o X.env) = eval o X.env := by rfl)
    (hfew : ((backTo cpos (starEach (e :: es) X.env)).all (fun x => !x.1) && (backToKw cpos (keywordEach [] X.env)).all (fun x => x.1.isSome)
      && decide ((e :: es).length + ([] : List Keyword).length + (if ([] : List Keyword).isEmpty then 0 else 1) < 30)) = true := by rfl)
    (hline : (apos.endLine == cpos.line) = true := by rfl) (hs : starEach (e :: es) X.env = (false, eval e X.env) :: starEach es X.env := by rfl) (hplain : (backTo cpos (starEach es X.env)).any (·.1) = false := by rfl) :
    PE X (.Call (.Attribute o name apos) (e :: es) [] cpos) (tBM X.K T r to t) := by
  intro pins s σ H Q I h
  refine wpAny_Call_method_late hbase hfew hline rfl (thn (ho pins s σ H _ I h) fun v s1 ⟨x, H1, I1, r1, ty, q1⟩ => ?_)
  obtain ⟨h1, h2⟩ := tyV_is I1 r1 ty
  refine ⟨T, id, pa, slot, hty, h1, h2, ?_⟩
  have hA := ha cpos pins s1 σ H1 _ I1 q1
  rw [hs] at hA ⊢
  refine Calls.callWith_builtin (by show (false || (backTo cpos (starEach es X.env)).any (·.1)) = false; rw [hplain] <;> rfl) (Calls.evalArgs_plain ?_)
  exact thn hA fun us s2 ⟨vs, H2, I2, r2, q2⟩ => hm pins s2 σ H2 x vs v us Q I2 r1 r2 q2
end
end L2
namespace L2
open PySem PySem.Spec PyProof.Rows
def MtM (X : Cx) (id : String) (r : V → List V → Hp → VK → Prop) : Prop :=
  ∀ (pins : List (Addr × Obj)) (s : Shared) (σ : St) (H : Hp) (x : V) (xs : List V) (v : Value) (us : List Value) (Q : VK), Inv X pins σ H s → RelV x v → Vals xs us → r x xs H Q →
    wpAny (model X.prog X.w) X.A (call (.builtin id) (v :: us)) (EP X pins σ Q) X.xe s
theorem Vals.one : ∀ {x : V} {us : List Value}, Vals [x] us → ∃ u, us = [u] ∧ RelV x u
  | _, _, .cons r .nil => ⟨_, rfl, r⟩
theorem Vals.reverse {xs : List V} {us : List Value} (h : Vals xs us) : Vals xs.reverse us.reverse := by
  induction h with
  | nil => exact .nil
  | cons r t ih => rw [List.reverse_cons, List.reverse_cons]; exact Vals.append ih (.cons r .nil)
section
variable {X : Cx} {pins : List (Addr × Obj)} {σ : St} {H : Hp} {s : Shared} {l b : Addr} {xs ys zs : List V}
theorem Inv.lset {its its' : List Value} {n : Nat} {f : Array Value → Array Value} {t' : Nat} (I : Inv X pins σ H s) (hH : H l = some (.lst xs))
    (e : s.heap.get? l = some { cls := .type "list", data := .seq its.toArray n }) (hf : f its.toArray = its'.toArray) (hv : Vals ys its') (hz : ys.length ≤ sizeLine) :
    Inv X pins σ (upd H l (.lst ys)) { s with heap := s.heap.update l (Obj.mapSeq f), toks := t' } := by
  have q := PySem.IsL.update e f
  rw [hf] at q
  refine I.write (x := l) (e := l) (by rw [hH]; exact trivial) (.inl rfl) (fun b' u hb hu => (Heap.get?_update_other s.heap (Obj.mapSeq f) (Ne.symm hb)).trans hu) ⟨_, q⟩ ?_
  exact ⟨hz, its', _, hv, q⟩
theorem Inv.lnew {its : List Value} {t' : Nat} (I : Inv X pins σ H s) (hv : Vals ys its) (hz : ys.length ≤ sizeLine) :
    Inv X pins σ (upd H s.heap.objs.size (.lst ys)) { s with heap := s.heap.push { cls := .type "list", data := .seq its.toArray }, toks := t' } :=
  I.laid (fun _ _ q => Heap.get?_push_of_some _ q) (Nat.le_refl _) ⟨hz, its, 0, hv, Heap.get?_push_size _ rfl⟩
theorem Inv.fresh (I : Inv X pins σ H s) : H s.heap.objs.size = none := I.hok.fresh (Nat.le_refl _)
theorem Inv.lstM (I : Inv X pins σ H s) (hH : H l = some (.lst xs)) : xs.length ≤ sizeLine ∧ ∃ (its : List Value) (n : Nat), Vals xs its ∧ xs.length = its.length ∧ s.heap.get? l = some { cls := .type "list", data := .seq its.toArray n } := by
  obtain ⟨z, its, n, r, e⟩ := I.hok l _ hH
  exact ⟨z, its, n, r, r.length, e⟩
theorem notLongL {n : Nat} (h : n ≤ sizeLine) : Builtin.List.listTooLong n = false := by
  unfold Builtin.List.listTooLong
  exact decide_eq_false (by omega)
end
section
variable {X : Cx}
def rAppend : V → List V → Hp → VK → Prop := fun x vs H Q => ∃ l xs y, x = .ref l ∧ vs = [y] ∧ H l = some (.lst xs) ∧ xs.length < sizeLine ∧ Q .non (upd H l (.lst (xs ++ [y])))
theorem mt_append : MtM X "list.append" rAppend := by
  intro pins s σ H x vs v us Q I rx rv h
  obtain ⟨l, xs, y, rfl, rfl, hH, hz, q⟩ := h
  cases rx
  obtain ⟨u, rfl, ru⟩ := rv.one
  obtain ⟨z, its, n, r, hl, e⟩ := I.lstM hH
  refine call_meets F.slot_list_append ⟨_, e, rfl⟩ F.entry_list_append (F.args_list_append_2 _ _) (PySem.list_append l its.toArray n u (by rw [List.size_toArray]; omega)) ⟨e, ?_⟩
  refine ⟨.non, _, I.lset (its' := its ++ [u]) hH e (by simp) (r.append (.cons ru .nil)) ?_, rfl, q⟩
  rw [List.length_append, List.length_singleton]
  omega
def rExtend : V → List V → Hp → VK → Prop := fun x vs H Q => ∃ l b xs zs, x = .ref l ∧ vs = [.ref b] ∧ H l = some (.lst xs) ∧ H b = some (.lst zs) ∧ xs.length + zs.length ≤ sizeLine ∧ Q .non (upd H l (.lst (xs ++ zs)))
theorem mt_extend : MtM X "list.extend" rExtend := by
  intro pins s σ H x vs v us Q I rx rv h
  obtain ⟨l, b, xs, zs, rfl, rfl, hH, hB, hz, q⟩ := h
  cases rx
  obtain ⟨u, rfl, ru⟩ := rv.one
  cases ru
  obtain ⟨z, its, n, r, hl, e⟩ := I.lstM hH
  obtain ⟨z2, its2, n2, r2, hl2, e2⟩ := I.lstM hB
  have hsz : its.toArray.size + its2.toArray.size ≤ sizeLine := by rw [List.size_toArray, List.size_toArray]; omega
  have hlong : ¬ (!its.toArray.isEmpty && Builtin.List.listTooLong (its.toArray.size + its2.toArray.size)) = true := by
    rw [notLongL hsz, Bool.and_false]
    exact Bool.false_ne_true
  refine call_meets F.slot_list_extend ⟨_, e, rfl⟩ F.entry_list_extend (F.args_list_extend_2 _ _)
    (AutoSeq1.list_extend_list_list_0 l its.toArray n b its2.toArray n2 hlong (by rw [List.size_toArray]; omega) (by omega)) ⟨e, e2, ?_⟩
  refine ⟨.non, _, I.lset (its' := its ++ its2) hH e (by simp) (r.append r2) ?_, rfl, q⟩
  rw [List.length_append]
  omega
def rCat : R2 := fun x y H Q => ∃ l b xs zs, x = .ref l ∧ y = .ref b ∧ H l = some (.lst xs) ∧ H b = some (.lst zs) ∧ xs.length + zs.length ≤ sizeLine ∧ ∀ p, H p = none → Q (.ref p) (upd H p (.lst (xs ++ zs)))
theorem op_cat : OpR X (binaryOp .Add) rCat := by
  intro pins s σ H x y v u Q I rx ry h
  obtain ⟨l, b, xs, zs, rfl, rfl, hH, hB, hz, q⟩ := h
  cases rx
  cases ry
  obtain ⟨z, its, n, r, hl, e⟩ := I.lstM hH
  obtain ⟨z2, its2, n2, r2, hl2, e2⟩ := I.lstM hB
  refine PySem.P.add_list e e2 ?_ (by rw [List.size_toArray, List.size_toArray]; omega)
  have ea : its.toArray ++ its2.toArray = (its ++ its2).toArray := by simp
  rw [ea]
  exact ⟨.ref _, _, I.lnew (t' := s.toks) (r.append r2) (by rw [List.length_append]; omega), rfl, q _ I.fresh⟩
end
end L2
namespace Att
open PySem PySem.W PySem.Calls PyProof.Rows
theorem ints_of_wellAll {P : Params} {h : Heap} : ∀ (ns : List Int) (vs : List Value), WellAll P h vs (ns.map WData.int) → IntsAre vs ns := by
  intro ns
  induction ns with
  | nil =>
    intro vs w
    rw [List.map_nil] at w
    cases w
    exact .nil
  | cons n ns ih =>
    intro vs w
    rw [List.map_cons] at w
    cases w with
    | cons a b =>
      cases a
      exact .cons _ _ (ih _ b)
theorem script_of {l : OpenLaw} {n : Nat} (hn : l.most = some n) {P : Params} {h : Heap} {args : List WData} {vals : List Value}
    (hpre : l.row.toRowW.claim.pre args = true) (hwl : WellAll P h vals args) :
    ∃ a vs ns, vals = [Value.ref a] ∧ args = [WData.list (ns.map WData.int)] ∧ h.get? a = some { cls := .type "list", data := .seq vs.toArray } ∧ IntsAre vs ns ∧ ns.length ≤ n := by
  have hsh : WShape.hasAll [] args [.list .int] = true := (pre_splitW hpre).1
  have hc : l.pre.holds [] { args := args } = true := (pre_splitW hpre).2
  obtain ⟨d, r, rfl, h1, h2⟩ := hasAllW_cons hsh
  obtain rfl := hasAllW_nil h2
  obtain ⟨xs, rfl, h3⟩ := hasW_list h1
  obtain ⟨ns, rfl⟩ := items_int h3
  have hlen : ns.length ≤ n := by
    unfold OpenLaw.pre at hc
    have h4 : (WTm.not (.lt (.lit (.int (n : Int))) (.len (.arg 0)))).holds [] { args := [.list (ns.map .int)] } = true := by
      have h4 := (holds_andW hc).1
      rw [hn] at h4
      exact h4
    have h5 := condW_of h4 (w_not (w_lt w_lit (w_len_list (w_arg rfl))))
    rw [List.length_map] at h5
    refine Nat.le_of_not_lt fun q => ?_
    have q' : (n : Int) < ((ns.length : Nat) : Int) := by omega
    first
      | (rw [decide_eq_true q'] at h5; exact absurd h5 (by decide))
      | (simp at h5; omega)
  cases hwl with
  | cons w1 w2 =>
    cases w2
    cases w1 with
    | list ho hall => exact ⟨_, _, ns, rfl, rfl, ho, ints_of_wellAll ns _ hall, hlen⟩
theorem post_true (l : OpenLaw) (args : List WData) : l.row.toRowW.claim.post args (.bool true) args = true :=
  postW_of (r := l.row.toRowW) (X := (true == true))
    (show WShape.has [] (.bool true) .bool = true by first | rfl | decide | simp [WShape.has, WShape.arms, WShape.armsAll])
    (show (WTm.eq .res (.lit (.bool true))).value [] { args := args, res := some (.bool true), after := args } = some (.bool (true == true)) from w_eq_bool (w_res rfl) w_lit) rfl
theorem attach_call {l : OpenLaw} {n : Nat} {q : Program} {loose : List Str} {XP : (Str → Option Value) → Heap → Prop} {YP : World → Heap → Prop} {d : DefRec}
    (hn : l.most = some n) (hdf : d.params.defaults = [])
    (call : ∀ (w : World) (s₀ s₁ : Shared) (mg mb : Str → Option Value) (fa : Addr) (o : Obj) (pm cd doc : Value) (a : Addr) (vs : List Value) (ns : List Int),
      Ground q loose [] XP w s₀ mg mb s₁.heap → YP w s₁.heap →
      s₁.heap.get? fa = some o → o.data = .func (docDef d.name d.params d.body d.scope pm cd doc) → s₁.heap.CodeRec cd d.name → mg d.name = some (.ref fa) →
      s₁.heap.get? a = some { cls := .type "list", data := .seq vs.toArray } → IntsAre vs ns → ns.length ≤ n → s₁.gens = #[] →
      codeAny (model l.prog w) callerA (.call (.ref fa) ⟨[.ref a], []⟩) (fun r s' => r = .ok (.ret (.bool true)) ∧ OldK s₁.heap s'.heap ∧ s'.os = s₁.os ∧ AllBare s'.gens) s₁) :
    WalkO q loose XP YP l.row.toRowW d [] (fun f vs => PySem.call f vs) := by
  intro w s₀ s₁ mg mb G Y fa o pm cd doc dV kV ho hd hcd hD hmg hg args vals as hpre hlay hrd hwl hlo
  obtain rfl : dV = .none := Dflts.none hD hdf
  obtain rfl : kV = .none := Dflts.noKw hD
  obtain ⟨a, vs, ns, rfl, rfl, hobj, hints, hlen⟩ := script_of hn hpre hwl
  refine enter_call (codeAny_mono (call w s₀ s₁ mg mb fa o pm cd doc a vs ns G Y ho (fd_plain hd) hcd hmg hobj hints hlen hg) fun r s' hq => ?_)
  obtain ⟨rfl, h2, h3, h4⟩ := hq
  exact ⟨.inl ⟨.bool true, .bool true, [], rfl, fun _ => rfl, .bool true, post_true l _, fun _ => ⟨List.Pairwise.nil, fun _ hm => (nomatch hm)⟩⟩, h2, h3, h4⟩
end Att
namespace L2
open PySem PySem.Spec PyProof.Rows
theorem vals_ints : ∀ {vs : List Value} {ns : List Int}, IntsAre vs ns → Vals (ns.map V.int) vs
  | _, _, .nil => .nil
  | _, _, .cons n t h => .cons ⟨t, rfl⟩ (vals_ints h)
end L2
namespace L2
open PySem PySem.Spec PyProof.Rows
end L2
namespace L2
open PySem PySem.Spec PyProof.Rows
def qav (s : Stmt) : Arguments := match s with
  | .FunctionDef _ a _ _ _ _ _ _ _ _ => a
  | _ => { posonlyargs := [], args := [], vararg := none, kwonlyargs := [], kw_defaults := [], kwarg := none, defaults := [] }
def qat (s : Stmt) : List Stmt := match s with
  | .FunctionDef _ _ b _ _ _ _ _ _ _ => b
  | _ => []
def qag (s : Stmt) : Scope := match s with
  | .FunctionDef _ _ _ _ _ _ sc _ _ _ => sc
  | _ => { kind := .function, names := [], isGenerator := false, isCoroutine := false }
abbrev CX0 : CXT := fun _ _ _ _ _ _ => False
abbrev E0 : XK := fun _ _ _ => False
theorem qaq {X : Cx} : qcI CX0 X E0 := fun _ _ _ _ _ _ _ h => h.elim
structure Fun (K : PySem.W.Frag) (x qual : Str) (st : Stmt) (f : Addr) (fd : FuncData) : Prop where
  ex : ∃ (oc : Value) (od : Option Addr) (kV doc pm : Value) (an : Option Addr) (cdv ct : Value) (osl : Array (Option Value)),
    fd = PySem.W.fnOf x qual (qav st) (qat st) (qag st) .none kV doc pm an cdv ct ∧ K.lookup f = some ⟨oc, od, .func fd, osl⟩ ∧ PySem.W.codeIn K cdv qual = true
  kp : PySem.W.keepIn K (.ref f) = true
section
variable {P : Program} {w : World} {K : PySem.W.Frag} {mg : Str → Option Value} {base : Heap}
theorem Fun.ok {x qual : Str} {st : Stmt} {f : Addr} {fd : FuncData} {N ps : List Str} {k : Nat} {sp : Sp} (F : Fun K x qual st f fd) (S : FnScope N ps (qag st)) (len : ∀ vs H Q E, sp vs H Q E → vs.length = ps.length)
    (hbody : ∀ (cdv : Value) (A : Around) (outer : List Env) (s : Shared) (H : Hp) (vs : List V) (Q : VK) (E : XK), Room k (A.deeper (envOfC qual (qag st) s.heap.objs.size f cdv)) → sp vs H Q E →
      ∃ t, PSs (cxOf CX0 P w K mg base N qual (qag st) f cdv A outer s H E).nox (qat st) t ∧ t { nx := fun _ H' => Q .non H', rt := Q } (qdb N vs) H) : FnOk P w K mg base CX0 (k + 1) f fd ps sp := by
  obtain ⟨oc, od, kV, doc, pm, an, cdv, ct, osl, rfl, lk, hcd⟩ := F.ex
  refine qfb lk hcd S len fun A outer s H vs Q E hr hsp => ?_
  obtain ⟨t, h, q⟩ := hbody cdv A outer s H vs Q E hr hsp
  exact ⟨t, h.nox, q⟩
theorem Fun.binds {x qual : Str} {st : Stmt} {f : Addr} {fd : FuncData} {ps : List Str} (F : Fun K x qual st f fd)
    (h : ∀ (kV doc pm : Value) (an : Option Addr) (cdv ct : Value) (us : List Value), us.length = ps.length → bindArgs (PySem.W.fnOf x qual (qav st) (qat st) (qag st) .none kV doc pm an cdv ct) ⟨us, []⟩ = pure (ps.zip us)) : Binds K fd ps [] := by
  obtain ⟨oc, od, kV, doc, pm, an, cdv, ct, osl, rfl, lk, hcd⟩ := F.ex
  exact .all (h kV doc pm an cdv ct)
theorem qaF {x qual : Str} {st : Stmt} {f : Addr} {oc : Value} {od an : Option Addr} {osl : Array (Option Value)} {kV doc pm cdv ct : Value} (l : K.lookup f = some ⟨oc, od, .func (PySem.W.fnOf x qual (qav st) (qat st) (qag st) .none kV doc pm an cdv ct), osl⟩)
    (c : PySem.W.codeIn K cdv qual = true) (k : PySem.W.keepIn K (.ref f) = true) : Fun K x qual st f (PySem.W.fnOf x qual (qav st) (qat st) (qag st) .none kV doc pm an cdv ct) := ⟨⟨oc, od, kV, doc, pm, an, cdv, ct, osl, rfl, l, c⟩, k⟩
end
theorem qak {n : Nat} (h : n ≤ 1000) : n < sizeLine := Nat.lt_of_le_of_lt h (by decide)
section
variable {X : Cx}
theorem pv (i : Nat) {x : Str} {pos : Pos} (hN : X.N[i]? = some x := by rfl) (hv : Vis X.env.scope x := by first | exact Or.inl rfl | exact Or.inr (Or.inl rfl) | exact Or.inr (Or.inr rfl)) (hd : (x == ("__debug__" : Str)) = false := by decide)
    (hcd : (x == ("__classdict__" : Str)) = false := by decide) : PE X (.Name x pos) (tVar i) := pe_var hN hv hd hcd
end
theorem iteF {A B : Prop} (h : B) : if false = true then A else B := by
  rw [if_neg Bool.false_ne_true]
  exact h
theorem iteT {A B : Prop} (h : A) : if true = true then A else B := by
  rw [if_pos rfl]
  exact h
theorem ite2 {c A B : Prop} [Decidable c] (h1 : c → A) (h2 : ¬ c → B) : if c then A else B := by
  by_cases h : c
  · rw [if_pos h]
    exact h1 h
  · rw [if_neg h]
    exact h2 h
def Same (H H' : Hp) : Prop := ∀ b o, H b = some o → H' b = some o
theorem Same.refl (H : Hp) : Same H H := fun _ _ h => h
theorem Same.trans {H H1 H2 : Hp} (a : Same H H1) (b : Same H1 H2) : Same H H2 := fun c o h => b c o (a c o h)
theorem Same.free {H H' : Hp} (e : Same H H') {l : Addr} (h : H' l = Option.none) : H l = Option.none := by
  cases q : H l with
  | none => rfl
  | some o =>
    rw [e l o q] at h
    cases h
end L2
set_option maxHeartbeats 4000000
namespace L2
open PySem PySem.Spec PyProof.Rows
theorem qbE {β : Type} {x : Str} {c : β} : ∀ {l : List (Str × β)}, l.lookup x = some c → (x, c) ∈ l
  | [], q => by cases q
  | (k, v) :: r, q => by
    rw [List.lookup_cons] at q
    cases e : x == k with
    | true =>
      rw [e] at q
      have : x = k := by simpa using e
      cases q
      rw [this]
      exact List.mem_cons_self
    | false =>
      rw [e] at q
      exact List.mem_cons_of_mem _ (qbE q)
theorem qbK {β : Type} {x : Str} {c : β} : ∀ {l : List (Str × β)}, (x, c) ∈ l → ∃ c', l.lookup x = some c'
  | [], q => nomatch q
  | (k, v) :: r, q => by
    rw [List.lookup_cons]
    cases e : x == k with
    | true => exact ⟨v, rfl⟩
    | false =>
      rcases List.mem_cons.mp q with z | z
      · have : x = k := congrArg Prod.fst z
        rw [this] at e
        simp at e
      · exact qbK z
theorem qcj {env : Env} {f : Str × NameKind → List (Str × Addr) → Sem (ForInStep (List (Str × Addr)))} : ∀ (l : List (Str × NameKind)) (acc : List (Str × Addr)),
    (∀ x ∈ l, x.2 = .free → ∃ c, env.cells.lookup x.1 = some c ∧ ∀ r, f x r = pure (.yield ((x.1, c) :: r))) → (∀ x ∈ l, x.2 ≠ .free → ∀ r, f x r = pure (.yield r)) →
    ∃ cl, forIn l acc f = pure cl ∧ (∀ p ∈ acc, p ∈ cl) ∧ (∀ p ∈ cl, p ∈ acc ∨ env.cells.lookup p.1 = some p.2) ∧ ∀ x, (x, NameKind.free) ∈ l → ∃ c, (x, c) ∈ cl
  | [], acc, _, _ => ⟨acc, rfl, fun _ q => q, fun _ q => .inl q, fun _ q => nomatch q⟩
  | x :: l, acc, h1, h2 => by
    by_cases hx : x.2 = .free
    · obtain ⟨c, e, hf⟩ := h1 x List.mem_cons_self hx
      obtain ⟨cl, q1, q2, q3, q4⟩ := qcj l ((x.1, c) :: acc) (fun y hy => h1 y (List.mem_cons_of_mem _ hy)) fun y hy => h2 y (List.mem_cons_of_mem _ hy)
      refine ⟨cl, ?_, fun p hp => q2 p (List.mem_cons_of_mem _ hp), fun p hp => ?_, fun y hy => ?_⟩
      · rw [List.forIn_cons, hf, pure_bind]
        exact q1
      · rcases q3 p hp with z | z
        · rcases List.mem_cons.mp z with z | z
          · subst z; exact .inr e
          · exact .inl z
        · exact .inr z
      · rcases List.mem_cons.mp hy with z | z
        · exact ⟨c, by have := q2 _ (List.mem_cons_self (a := (x.1, c)) (l := acc)); rw [← z] at this; exact this⟩
        · exact q4 y z
    · obtain ⟨cl, q1, q2, q3, q4⟩ := qcj l acc (fun y hy => h1 y (List.mem_cons_of_mem _ hy)) fun y hy => h2 y (List.mem_cons_of_mem _ hy)
      refine ⟨cl, ?_, q2, q3, fun y hy => ?_⟩
      · rw [List.forIn_cons, h2 x List.mem_cons_self hx, pure_bind]
        exact q1
      · rcases List.mem_cons.mp hy with z | z
        · exact absurd (by rw [← z]) hx
        · exact q4 y z
theorem qen {scope : Scope} {env : Env} (h : ∀ x ∈ scope.names, x.2 = .free → ∃ c, env.cells.lookup x.1 = some c) :
    ∃ cl, closureFor scope env = pure cl ∧ (∀ x c, cl.lookup x = some c → env.cells.lookup x = some c) ∧ ∀ x, (x, NameKind.free) ∈ scope.names → ∃ c, cl.lookup x = some c := by
  have key : ∀ f : Str × NameKind → List (Str × Addr) → Sem (ForInStep (List (Str × Addr))), (∀ x ∈ scope.names, x.2 = .free → ∃ c, env.cells.lookup x.1 = some c ∧ ∀ r, f x r = pure (.yield ((x.1, c) :: r))) → (∀ x ∈ scope.names, x.2 ≠ .free → ∀ r, f x r = pure (.yield r)) →
      closureFor scope env = forIn scope.names [] f →
      ∃ cl, closureFor scope env = pure cl ∧ (∀ x c, cl.lookup x = some c → env.cells.lookup x = some c) ∧ ∀ x, (x, NameKind.free) ∈ scope.names → ∃ c, cl.lookup x = some c := by
    intro f h1 h2 e
    obtain ⟨cl, q1, _, q3, q4⟩ := qcj (env := env) (f := f) scope.names [] h1 h2
    refine ⟨cl, e.trans q1, fun x c z => ?_, fun x hx => ?_⟩
    · rcases q3 (x, c) (qbE z) with k | k
      · exact nomatch k
      · exact k
    · obtain ⟨c, z⟩ := q4 x hx
      exact qbK z
  refine key (fun x r => if x.2 == .free then (do let c ← cellOf env x.1; pure (.yield ((x.1, c) :: r))) else pure (.yield r)) (fun x hx hf => ?_) (fun x hx hf r => ?_) ?_
  · obtain ⟨c, e⟩ := h x hx hf
    refine ⟨c, e, fun r => ?_⟩
    have hk : (x.2 == NameKind.free) = true := by rw [hf]; rfl
    simp only [hk, if_true, cellOf, e, pure_bind]
  · have hk : (x.2 == NameKind.free) = false := by
      cases q : x.2 == NameKind.free with
      | false => rfl
      | true => exact absurd (by simpa using q) hf
    simp only [hk, Bool.false_eq_true, if_false]
  · simp only [closureFor]
    rw [bind_pure]
def qaX (X : Cx) (N' : List Str) (scope : Scope) (cl : List (Str × Addr)) (C : Addr) (s₂ : Shared) (H₂ : Hp) (fp : List Addr) : Cx :=
  { X with N := N', s₀ := s₂, H₀ := H₂, env := compEnvC scope cl C X.env, outer := X.stack, ex := fp, fn := fun _ => false, pn := [], xe := fun _ _ => False }
def qbq (own : Nat) (ix : List Nat) (σ : St) : St := List.replicate own none ++ ix.map fun j => (σ[j]?).join
def qbN (own : Nat) (ix : List Nat) (g : TG) (tt : TT) (te : TE) (J : It) (σ : St) (H : Hp) (Q : VK) : Prop :=
  ∃ W : Nat → Nat → List V → St → Hp → Prop, (∃ m, W 0 m [] (qbq own ix σ) H) ∧
    ∀ i m ys σ' H', W i m ys σ' H' → ys.length < sizeLine ∧
      ((J.stop i H' ∧ ∀ D, H' D = none → Q (.ref D) (upd H' D (.lst ys))) ∨
       (J.go i H' ∧ ∃ N : List V → St → Hp → Prop, (∀ zs σ2 H2, N zs σ2 H2 → ∃ m', m' < m ∧ W (i + 1) m' zs σ2 H2) ∧ ∀ x H2, J.yld i H' x H2 → g x σ' H2 fun σ2 H3 => tt σ2 H3 fun b H4 =>
          if b = true then te σ2 H4 fun v H5 => N (ys ++ [v]) σ2 H5 else N ys σ2 H4))
def qe8 (own : Nat) (ix : List Nat) (wi : TI) (g : TG) (tt : TT) (te : TE) : TE := fun σ H Q => wi σ H fun J H1 => qbN own ix g tt te J σ H1 Q
def qe7 (ifs : List Expr) (env : Env) : Sem Bool :=
  forIn ifs true fun c r => if r = true then do let ok ← isTrue c env (eval c env); pure (ForInStep.yield ok) else pure (ForInStep.yield r)
def PTs (X : Cx) (ifs : List Expr) (t : TT) : Prop :=
  ∀ (pins : List (Addr × Obj)) (s : Shared) (σ : St) (H : Hp) (Q : Bool → Hp → Prop), Inv X pins σ H s → t σ H Q → wpAny (model X.prog X.w) X.A (qe7 ifs X.env) (TP X pins σ Q) X.xe s
def tYes : TT := fun _ H Q => Q true H
theorem qa6 {X : Cx} : PTs X [] tYes := fun _ _ _ H _ I h => wpAny_tests_nil ⟨H, I, h⟩
theorem qbw {X : Cx} {c : Expr} {t : TT} (h : PT X c t) : PTs X [c] t := fun pins s σ H Q I q => wpAny_tests_one (h pins s σ H Q I q)
theorem comp_turns {prog : Program} {w : World} {A : Around} {R : Result → Shared → Prop} {s : Shared} {elt tg iter : Expr} {ifs : List Expr} {scope : Scope} {pos : Pos} {it acc : Value} {env : Env} (J : Nat → Shared → Prop)
    (turn : ∀ n s, J n s → wpAny (model prog w) A (pyNext it) (fun r s1 => match r with
      | none => R (.ok .next) s1
      | some v => wpAny (model prog w) A (letOwnedTupleGo tg it v) (fun _ s2 => wpAny (model prog w) A (assign tg env v) (fun _ s3 => wpAny (model prog w) A (qe7 ifs env) (fun ok s4 =>
          if ok = true then wpAny (model prog w) A (eval elt env) (fun x s5 => wpAny (model prog w) A (call (.builtin "list.append") [acc, x]) (fun _ s6 => ∃ m, m < n ∧ J m s6) (fun _ _ => False) s5) (fun _ _ => False) s4
          else ∃ m, m < n ∧ J m s4) (fun _ _ => False) s3) (fun _ _ => False) s2) (fun _ _ => False) s1) (fun _ _ => False) s)
    (n : Nat) (h : J n s) : codeAny (model prog w) A (.compLoop (.ListComp elt [⟨tg, iter, ifs, 0⟩] scope pos) 0 it acc env) R s := by
  refine codeAny_loop rfl J (fun n s hI => ?_) n h
  show wpAny (model prog w) A ((compTurn (.ListComp elt [⟨tg, iter, ifs, 0⟩] scope pos) 0 it acc env).onRaise (fun z => do noteFrame z env; theTreesLotGoes z)) _ _ s
  refine wpAny_noted ?_
  rw [compTurn_list]
  refine wpAny_bind (wpAny_standAt (wpAny_bind (wpAny_mono (turn n s hI) (fun r s1 q1 => ?_) fun _ _ z => z.elim)))
  cases r with
  | none => exact wpAny_pure q1
  | some v =>
    refine wpAny_bind (wpAny_mono q1 (fun _ s2 q2 => ?_) fun _ _ z => z.elim)
    refine wpAny_bind (wpAny_mono q2 (fun _ s3 q3 => ?_) fun _ _ z => z.elim)
    refine wpAny_bind (wpAny_mono q3 (fun ok s4 q4 => ?_) fun _ _ z => z.elim)
    cases ok with
    | false => exact wpAny_pure ⟨rfl, q4⟩
    | true =>
      refine wpAny_bind (wpAny_bind (wpAny_mono q4 (fun x s5 q5 => ?_) fun _ _ z => z.elim))
      exact wpAny_bind (wpAny_mono q5 (fun _ s6 q6 => wpAny_pure (wpAny_pure ⟨rfl, q6⟩)) fun _ _ z => z.elim)
section
variable {fs ex : List Addr} {H H1 : Hp} {h h1 : Heap} {D : Addr} {o : HO}
theorem Un.track (u : Un fs ex H H1 h h1) (hD : h.objs.size ≤ D) (n0 : H D = none) : Un fs ex H (upd H1 D o) h h1 where
  keep := u.keep
  slot := u.slot
  free := fun b ob q n hx => by rw [qai (Nat.ne_of_lt (Nat.lt_of_lt_of_le (Heap.lt_size q) hD))]; exact u.free b ob q n hx
  there := u.there
  tups := fun b xs q => by rw [qai (qao q n0)]; exact u.tups b xs q
  frzs := fun b ob xs q => by rw [qai (qao q n0)]; exact u.frzs b ob xs q
  tbls := fun b ps q => by rw [qai (qao q n0)]; exact u.tbls b ps q
theorem HOk.track {P : Program} {w : World} (x : HOk P w H h) (n0 : H D = none) (new : ObjOk P w (upd H D o) h D o) : HOk P w (upd H D o) h := fun a u e => by
  by_cases z : a = D
  · subst z
    rw [qab] at e
    cases e
    exact new
  · rw [qai z] at e
    exact (x a u e).stay (fun _ _ _ q => q) (fun b q => by rw [qai (qao q n0)]; exact q) fun b xs q => by rw [qai (qao q n0)]; exact q
end
abbrev lobj (its : List Value) (n : Nat) : Obj := { cls := .type "list", data := .seq its.toArray n }
theorem Inv.letgo {X : Cx} {pins : List (Addr × Obj)} {σ : St} {H : Hp} {s : Shared} {C : Addr} {h' : Heap} (I : Inv X pins σ H s) (f : FpOk X pins H C) (hs : Heap.SameBut C s.heap h') : Inv X pins σ H { s with heap := h' } :=
  I.turned (t' := s.toks) (it := C) (fun b o hb e => (hs.2 b hb).trans e) f.1 f.2.1 f.2.2.2.1 f.2.2.2.2.1 f.2.2.2.2.2
theorem qcq {scope : Scope} {env : Env} {x : Str} {k : NameKind} (h : (relabel scope env).names.lookup x = some k) : ∃ k0, (x, k0) ∈ scope.names ∧ (k0 = k ∨ (k0 = .free ∧ k = .cell)) := by
  have m := qbE h
  obtain ⟨⟨n, k0⟩, h1, h2⟩ := List.mem_map.mp (show (x, k) ∈ scope.names.map _ from m)
  dsimp only at h2
  by_cases c : (k0 == NameKind.free && env.scope.kind == .function && env.kindOf n == some .cell) = true
  · rw [if_pos c] at h2
    obtain ⟨rfl, rfl⟩ := Prod.mk.inj h2
    refine ⟨k0, h1, .inr ⟨?_, rfl⟩⟩
    rw [Bool.and_eq_true, Bool.and_eq_true] at c
    simpa using c.1.1
  · rw [if_neg c] at h2
    obtain ⟨rfl, rfl⟩ := Prod.mk.inj h2
    exact ⟨k0, h1, .inl rfl⟩
theorem relabel_free {scope : Scope} {env : Env} {x : Str} (h : scope.names.lookup x = some .free) : (relabel scope env).names.lookup x = some .free ∨ (relabel scope env).names.lookup x = some .cell := by
  have all : ∀ (l : List (Str × NameKind)), l.lookup x = some .free →
      (l.map fun (n, k) => if (k == NameKind.free && env.scope.kind == .function && env.kindOf n == some .cell) then (n, NameKind.cell) else (n, k)).lookup x = some .free ∨
      (l.map fun (n, k) => if (k == NameKind.free && env.scope.kind == .function && env.kindOf n == some .cell) then (n, NameKind.cell) else (n, k)).lookup x = some .cell := by
    intro l
    induction l with
    | nil => intro q; cases q
    | cons y r ih =>
      obtain ⟨n, k⟩ := y
      intro q
      rw [List.lookup_cons] at q
      rw [List.map_cons]
      cases hx : x == n with
      | true =>
        rw [hx] at q
        cases q
        dsimp only
        split
        · right; rw [List.lookup_cons, hx]
        · left; rw [List.lookup_cons, hx]
      | false =>
        rw [hx] at q
        dsimp only
        split
        · rw [List.lookup_cons, hx]; exact ih q
        · rw [List.lookup_cons, hx]; exact ih q
  exact all scope.names h
section
variable {X : Cx} {elt tg iter : Expr} {ifs : List Expr} {scope : Scope} {pos : Pos} {g : TG} {tt : TT} {te : TE} {N' own frees : List Str} {ix : List Nat} {pins : List (Addr × Obj)} {σ : St} {H2 : Hp} {s2 : Shared}
  {it : Addr} {fp : List Addr} {tn : Nat → Heap → Prop} {J : It} {cl : List (Str × Addr)} {E : Value → Shared → Prop}
structure CompScope (X : Cx) (scope : Scope) (own frees : List Str) (ix : List Nat) : Prop where
  kind : scope.kind = .function
  nocell : ∀ y ∈ scope.names, y.2 ≠ .cell
  loc : ∀ y ∈ scope.names, y.2 = .local → scope.names.lookup y.1 = some .local
  fr : ∀ y ∈ scope.names, y.2 = .free → X.env.scope.names.lookup y.1 = some .cell ∨ X.env.scope.names.lookup y.1 = some .free
  ixs : ix.map (fun j => X.N[j]?) = frees.map some
  isf : ∀ x ∈ frees, scope.names.lookup x = some .free
theorem comp_ok (S : CompScope X scope own frees ix) (I : Inv X pins σ H2 s2) (hcl1 : ∀ x c, cl.lookup x = some c → X.env.cells.lookup x = some c) (hcl2 : ∀ x, (x, NameKind.free) ∈ scope.names → ∃ c, cl.lookup x = some c)
    (T : Turn X.prog X.w X.K tg J fp it tn) (st : tn 0 s2.heap) (f2 : ∀ b ∈ fp, FpOk X pins H2 b) {C : Addr} (hC : s2.heap.objs.size ≤ C) : (qaX X N' scope cl C s2 H2 fp).Ok := by
  have lt : ∀ b ∈ fp, b < s2.heap.objs.size := fun b hb => by
    obtain ⟨o, e, _⟩ := T.obj 0 _ st b hb
    exact Heap.lt_size e
  refine ⟨I.ok.mod, S.kind, I.ok.glob, I.ok.blt, hC, fun x y c h1 h2 => I.ok.inj x y c (hcl1 x c h1) (hcl1 y c h2), fun x hx => ?_, (fun x c q => nomatch q), I.ok.hd, I.ok.frames, .inl rfl, fun b hb => ?_, I.bs, Nat.le_trans I.ok.bsz I.sz, fun b o e hb => ?_, fun b hb z => ?_, I.stack, I.stkFree⟩
  · have hx' : (relabel scope X.env).names.lookup x = some .cell ∨ (relabel scope X.env).names.lookup x = some .free := hx
    have fin : (x, NameKind.free) ∈ scope.names := by
      rcases hx' with q | q
      · obtain ⟨k0, m, z | ⟨z, _⟩⟩ := qcq q
        · exact absurd z (S.nocell _ m)
        · rw [← z]; exact m
      · obtain ⟨k0, m, z | ⟨_, z⟩⟩ := qcq q
        · rw [← z]; exact m
        · cases z
    exact hcl2 x fin
  · refine ⟨Nat.ne_of_lt (Nat.lt_of_lt_of_le (lt b hb) hC), fun x c e => (f2 b hb).2.2.2.2.1 x c (hcl1 x c e)⟩
  · have q := (f2 b hb).2.2.2.1
    rcases q with q | q
    · exact I.ok.noex b o e q
    · exact absurd (Nat.lt_of_lt_of_le (Nat.lt_of_lt_of_le (Heap.lt_size e) I.ok.bsz) q) (Nat.lt_irrefl _)
  · rcases List.mem_cons.mp (I.stkSub b z) with q | q
    · exact (f2 b hb).2.1 q
    · exact (f2 b hb).2.2.1 q
theorem qcD (hc : X.calm = true) (S : CompScope X scope own frees ix) (I : Inv X pins σ H2 s2) (hcl1 : ∀ x c, cl.lookup x = some c → X.env.cells.lookup x = some c) (hcl2 : ∀ x, (x, NameKind.free) ∈ scope.names → ∃ c, cl.lookup x = some c)
    (T : Turn X.prog X.w X.K tg J fp it tn) (st : tn 0 s2.heap) (f2 : ∀ b ∈ fp, FpOk X pins H2 b)
    (hg : ∀ C, PG (qaX X (own ++ frees) scope cl C s2 H2 fp) tg g) (ht : ∀ C, PTs (qaX X (own ++ frees) scope cl C s2 H2 fp) ifs tt) (he : ∀ C, PE (qaX X (own ++ frees) scope cl C s2 H2 fp) elt te)
    {Q : VK} {W : Nat → Nat → List V → St → Hp → Prop} (w0 : ∃ m, W 0 m [] (qbq own.length ix σ) H2)
    (turn : ∀ i m ys σ' H', W i m ys σ' H' → ys.length < sizeLine ∧
      ((J.stop i H' ∧ ∀ D, H' D = none → Q (.ref D) (upd H' D (.lst ys))) ∨
       (J.go i H' ∧ ∃ N : List V → St → Hp → Prop, (∀ zs σ2 H2, N zs σ2 H2 → ∃ m', m' < m ∧ W (i + 1) m' zs σ2 H2) ∧ ∀ x H2, J.yld i H' x H2 → g x σ' H2 fun σ2 H3 => tt σ2 H3 fun b H4 =>
          if b = true then te σ2 H4 fun v H5 => N (ys ++ [v]) σ2 H5 else N ys σ2 H4)))
    {RR : Value → Addr → Result → Shared → Prop}
    (hRR : ∀ D C H' s' m, Inv X pins σ H' s' → FpOk X pins H' C → s'.heap.Ns C m → Q (.ref D) H' → RR (.ref D) C (.ok .next) s') :
    wpAny (model X.prog X.w) X.A (newList []) (fun acc s3 => wpAny (model X.prog X.w) X.A (newFunctionEnv scope X.env.globals cl [] X.env.qual none .none (some X.env)) (fun cenv s4 =>
      codeAny (model X.prog X.w) X.A (.compStart (.ListComp elt [⟨tg, iter, ifs, 0⟩] scope pos) 0 (.ref it) acc { cenv with scope := relabel scope X.env }) (RR acc cenv.locals) s4) E s3) E s2 := by
  obtain ⟨m0, w0⟩ := w0
  refine wpAny_newObj_type (wpAny_newFunctionEnv S.nocell (by intro y hy; simp at hy) (fun h1 ns1 sb1 => ?_) S.kind)
  dsimp only at ns1 sb1 ⊢
  generalize eH : s2.heap.push { cls := .type "list", dict := none, data := .seq ([] : List Value).toArray } = G at ns1 sb1 ⊢
  have szG : G.objs.size = s2.heap.objs.size + 1 := by rw [← eH, Heap.size_push]
  have hC : s2.heap.objs.size ≤ G.objs.size := by rw [szG]; exact Nat.le_succ _
  have hDC : s2.heap.objs.size ≠ G.objs.size := by rw [szG]; exact Nat.ne_of_lt (Nat.lt_succ_self _)
  have below : ∀ b, b < s2.heap.objs.size → b ≠ G.objs.size ∧ b ≠ s2.heap.objs.size := fun b hb => ⟨Nat.ne_of_lt (Nat.lt_of_lt_of_le hb hC), Nat.ne_of_lt hb⟩
  have old : ∀ b o, s2.heap.get? b = some o → h1.get? b = some o := fun b o e => sb1.extBut b o (below b (Heap.lt_size e)).1 (Heap.get?_push_of_some _ (eH ▸ Heap.get?_push_of_some _ e))
  have accD : h1.get? s2.heap.objs.size = some (lobj [] 0) := sb1.extBut _ _ hDC (Heap.get?_push_of_some _ (eH ▸ Heap.get?_push_size _ rfl))
  have ltf : ∀ b ∈ fp, b < s2.heap.objs.size := fun b hb => by
    obtain ⟨o, e, _⟩ := T.obj 0 _ st b hb
    exact Heap.lt_size e
  have okX : (qaX X (own ++ frees) scope cl G.objs.size s2 H2 fp).Ok := comp_ok S I hcl1 hcl2 T st f2 hC
  have ltc : ∀ x c, cl.lookup x = some c → c < s2.heap.objs.size := fun x c e => by
    obtain ⟨v, q⟩ := I.cell x c (hcl1 x c e)
    exact q.lt
  have notfs : ∀ b, s2.heap.objs.size ≤ b → b ∉ frs X.stack := fun b hb z => by
    rcases List.mem_cons.mp (I.stkSub b z) with q | q
    · exact absurd (Nat.lt_of_lt_of_le I.lt (by rw [← q]; exact hb)) (Nat.lt_irrefl _)
    · exact I.nofs hb q
  have lenix : ix.length = frees.length := by have := congrArg List.length S.ixs; simpa using this
  have I0 : Inv (qaX X (own ++ frees) scope cl G.objs.size s2 H2 fp) [(s2.heap.objs.size, lobj [] 0)] (qbq own.length ix σ) H2 { s2 with heap := h1, toks := s2.toks + ([] : List (Str × Value)).length } := by
    obtain ⟨m2, n2, l2⟩ := id I.loc
    refine ⟨okX, rfl, I.bare, Un.kept old, ⟨_, ns1, fun i x v e1 e2 e3 => ?_⟩, fun x c e => ?_, I.hok.fresh hC, fun x c e => I.freeC x c (hcl1 x c e), fun p hp => ?_, I.hok.kept old, ?_⟩
    · have e1 : (own ++ frees)[i]? = some x := e1
      by_cases hi : i < own.length
      · unfold qbq at e2
        rw [List.getElem?_append_left (by simpa using hi), List.getElem?_replicate] at e2
        split at e2 <;> cases e2
      · have hi' : own.length ≤ i := Nat.le_of_not_lt hi
        unfold qbq at e2
        rw [List.getElem?_append_right (by simpa using hi'), List.length_replicate, List.getElem?_map] at e2
        rw [List.getElem?_append_right hi'] at e1
        cases ej : ix[i - own.length]? with
        | none => rw [ej] at e2; cases e2
        | some j =>
          rw [ej] at e2
          have e2' : (σ[j]?).join = some v := Option.some.inj e2
          have ev : σ[j]? = some (some v) := by
            cases q : σ[j]? with
            | none => rw [q] at e2'; cases e2'
            | some y => rw [q] at e2'; exact congrArg some e2'
          have eN : X.N[j]? = some x := by
            have q := congrArg (fun l => l[i - own.length]?) S.ixs
            simp only [List.getElem?_map, ej, e1, Option.map_some] at q
            exact Option.some.inj q
          have xf : x ∈ frees := List.mem_of_getElem? e1
          have xm : (x, NameKind.free) ∈ scope.names := qbE (S.isf x xf)
          have vis : Vis X.env.scope x := by
            rcases S.fr _ xm rfl with q | q
            · exact .inr (.inl q)
            · exact .inr (.inr q)
          obtain ⟨u, r, lk⟩ := l2 j x v eN ev vis
          refine ⟨u, r, ?_⟩
          rcases lk with ⟨k, _⟩ | ⟨_, c, ec, z⟩
          · have k' : X.env.scope.names.lookup x = some .local := k
            rcases S.fr _ xm rfl with q | q
            · rw [k'] at q; cases q
            · rw [k'] at q; cases q
          · obtain ⟨c', ec'⟩ := hcl2 x xm
            have : c = c' := Option.some.inj (ec.symm.trans (hcl1 x c' ec'))
            subst this
            refine .inr ⟨?_, c, ec', z.keeps old⟩
            rcases relabel_free (env := X.env) (S.isf x xf) with q | q
            · exact .inr q
            · exact .inl q
    · obtain ⟨v, z⟩ := I.cell x c (hcl1 x c e)
      exact ⟨v, z.keeps old⟩
    · have hp' : p = (s2.heap.objs.size, lobj [] 0) := by simpa [qaX] using hp
      subst hp'
      exact ⟨accD, I.hok.fresh (Nat.le_refl _), hDC, notfs _ (Nat.le_refl _), fun v q => nomatch q⟩
    · show (qbq own.length ix σ).length = (own ++ frees).length
      unfold qbq
      rw [List.length_append, List.length_replicate, List.length_map, List.length_append, lenix]
  have st1 : tn 0 h1 := T.keep 0 _ _ st fun b hb o e => old b o e
  have stat : ∀ {H' : Hp} {pl : List (Addr × Obj)}, (∀ b ∈ fp, H' b = none) → (∀ p ∈ pl, s2.heap.objs.size ≤ p.1) → ∀ b ∈ fp, FpOk (qaX X (own ++ frees) scope cl G.objs.size s2 H2 fp) pl H' b := fun {H' pl} hn hp b hb =>
    ⟨hn b hb, (below b (ltf b hb)).1, fun z => okX.exfs b hb z, .inl hb, fun x c e => (f2 b hb).2.2.2.2.1 x c (hcl1 x c e), fun p q z => by
      have q' : p ∈ pl := by simpa [qaX] using q
      have := hp p q'
      rw [z] at this
      exact absurd (Nat.lt_of_lt_of_le (ltf b hb) this) (Nat.lt_irrefl _)⟩
  have loop : ∀ s3 : Shared, s3 = { s2 with heap := h1, toks := s2.toks + ([] : List (Str × Value)).length } →
      codeAny (model X.prog X.w) X.A (.compLoop (.ListComp elt [⟨tg, iter, ifs, 0⟩] scope pos) 0 (.ref it) (.ref s2.heap.objs.size) (compEnvC scope cl G.objs.size X.env)) (RR (.ref s2.heap.objs.size) G.objs.size) s3 := by
    rintro s3 rfl
    refine comp_turns (fun n s' => ∃ i ys σ' H' its k, Inv (qaX X (own ++ frees) scope cl G.objs.size s2 H2 fp) [(s2.heap.objs.size, lobj its k)] σ' H' s' ∧ tn i s'.heap ∧ (∀ b ∈ fp, H' b = none) ∧ Vals ys its ∧ W i n ys σ' H') ?_ m0
      ⟨0, [], _, H2, [], 0, I0, st1, fun b hb => (f2 b hb).1, .nil, w0⟩
    rintro n s4 ⟨i, ys, σ4, H4, its, k, I4, st4, fr4, rv, w4⟩
    obtain ⟨hz, alt⟩ := turn i n ys σ4 H4 w4
    have big : ∀ p ∈ [(s2.heap.objs.size, lobj its k)], s2.heap.objs.size ≤ p.1 := fun p hp => by
      have : p = (s2.heap.objs.size, lobj its k) := by simpa using hp
      rw [this]; exact Nat.le_refl _
    rcases alt with ⟨stop, fin⟩ | ⟨go, NN, hNN, step⟩
    · refine wpAny_mono (T.done (qaX X (own ++ frees) scope cl G.objs.size s2 H2 fp) rfl rfl rfl hc i _ s4 σ4 H4 (fun _ _ => False) I4 (stat fr4 big) st4 stop) (fun r s5 q5 => ?_) fun _ _ z => z
      obtain ⟨hr, I5⟩ := q5
      subst hr
      have pD := I5.pin (s2.heap.objs.size, lobj its k) (List.mem_append_right _ List.mem_cons_self)
      obtain ⟨m5, n5, _⟩ := id I5.loc
      have okD : HOk X.prog X.w (upd H4 s2.heap.objs.size (.lst ys)) s5.heap := HOk.track I5.hok pD.2.1 ⟨Nat.le_of_lt hz, its, k, rv, pD.1⟩
      have un : Un (frs X.stack) fp H2 (upd H4 s2.heap.objs.size (.lst ys)) s2.heap s5.heap := Un.track I5.base (Nat.le_refl _) (I.hok.fresh (Nat.le_refl _))
      have I6 : Inv X pins σ (upd H4 s2.heap.objs.size (.lst ys)) s5 := I.call' (ch := fp) I5.os un okD I5.bare fun b hb => ⟨(f2 b hb).2.2.2.1, (f2 b hb).2.1, (f2 b hb).2.2.2.2.1, (f2 b hb).2.2.2.2.2⟩
      refine hRR _ _ _ _ m5 I6 ?_ n5 (fin _ pD.2.1)
      refine ⟨?_, ?_, ?_, .inr (Nat.le_trans I.sz hC), fun x c e z => ?_, fun p hp z => ?_⟩
      · rw [qai (Ne.symm hDC)]
        exact I5.free
      · exact Nat.ne_of_gt (Nat.lt_of_lt_of_le I.lt hC)
      · exact I.nofs hC
      · obtain ⟨v, q⟩ := I.cell x c e
        exact absurd (Nat.lt_of_lt_of_le q.lt (by rw [z]; exact hC)) (Nat.lt_irrefl _)
      · exact absurd (Nat.lt_of_lt_of_le (Heap.lt_size (I.pin p hp).1) (by rw [z]; exact hC)) (Nat.lt_irrefl _)
    · refine wpAny_mono (T.item (qaX X (own ++ frees) scope cl G.objs.size s2 H2 fp) rfl rfl rfl hc i _ s4 σ4 H4 (fun _ _ => False) I4 (stat fr4 big) st4 go) (fun r s5 q5 => ?_) fun _ _ z => z
      obtain ⟨u, hr, q5⟩ := q5
      subst hr
      refine wpAny_mono q5 (fun _ s6 q6 => ?_) fun _ _ z => z
      obtain ⟨x, H6, I6, r6, y6, st6, fr6⟩ := q6
      have I6' := I6.pinned (stat fr6 big) (T.obj _ _ st6)
      refine wpAny_mono (hg _ _ s6 σ4 H6 x u _ I6' r6 (step x H6 y6)) (fun _ s7 q7 => ?_) fun _ _ z => z
      obtain ⟨σ7, H7, I7, q7⟩ := q7
      refine wpAny_mono (ht _ _ s7 σ7 H7 _ I7 q7) (fun ok s8 q8 => ?_) fun _ _ z => z
      obtain ⟨H8, I8, q8⟩ := q8
      cases ok with
      | false =>
        rw [if_neg Bool.false_ne_true] at q8 ⊢
        obtain ⟨m', hm, w8⟩ := hNN _ _ _ q8
        refine ⟨m', hm, i + 1, ys, σ7, H8, its, k, I8.unpinned, T.keep _ _ _ st6 fun b hb o e => (I8.pin (b, o) (List.mem_append_right _ (List.mem_append_right _ (qbe hb e)))).1, fun b hb => ?_, rv, w8⟩
        obtain ⟨o, e, d⟩ := T.obj _ _ st6 b hb
        exact (I8.pin (b, o) (List.mem_append_right _ (List.mem_append_right _ (qbe hb e)))).2.1
      | true =>
        rw [if_pos rfl] at q8 ⊢
        refine wpAny_mono (he _ _ s8 σ7 H8 _ I8 q8) (fun v s9 q9 => ?_) fun _ _ z => z
        obtain ⟨y, H9, I9, ry, q9⟩ := q9
        obtain ⟨m', hm, w9⟩ := hNN _ _ _ q9
        have pD := I9.pin (s2.heap.objs.size, lobj its k) (List.mem_append_right _ (List.mem_append_left _ List.mem_cons_self))
        have lenv := rv.length
        refine wpAny_list_append_plain (items := its.toArray) ⟨k, pD.1⟩ (fun h' hp hs => ?_) (by rw [List.size_toArray]; omega)
        obtain ⟨k', e'⟩ := hp
        have ne : ∀ b ∈ fp, b ≠ s2.heap.objs.size := fun b hb => (below b (ltf b hb)).2
        have I10 : Inv (qaX X (own ++ frees) scope cl G.objs.size s2 H2 fp) (qcl fp s6.heap) σ7 H9 s9 := I9.pins_of fun p hp => I9.pin p (List.mem_append_right _ (List.mem_append_right _ hp))
        have I11 : Inv (qaX X (own ++ frees) scope cl G.objs.size s2 H2 fp) (qcl fp s6.heap) σ7 H9 { s9 with heap := h', toks := s9.toks } :=
          I10.turned (it := s2.heap.objs.size) (fun b o hb e => (hs.2 b hb).trans e) pD.2.1 pD.2.2.1 (.inr (Nat.le_refl _)) (fun x c e z => absurd (ltc x c e) (by rw [z]; exact Nat.lt_irrefl _)) fun p hp z => by
            have hp' : p ∈ qcl fp s6.heap := by simpa [qaX] using hp
            exact ne p.1 (qdi hp').1 z
        have e'' : h'.get? s2.heap.objs.size = some (lobj (its ++ [v]) k') := by rw [e']; simp
        have I12 : Inv (qaX X (own ++ frees) scope cl G.objs.size s2 H2 fp) [(s2.heap.objs.size, lobj (its ++ [v]) k')] σ7 H9 { s9 with heap := h', toks := s9.toks } := I11.pins_of fun p hp => by
          have : p = (s2.heap.objs.size, lobj (its ++ [v]) k') := by simpa using hp
          subst this
          exact ⟨e'', pD.2.1, pD.2.2.1, pD.2.2.2.1, fun v q => nomatch q⟩
        refine ⟨m', hm, i + 1, ys ++ [y], σ7, H9, its ++ [v], k', I12, T.keep _ _ _ st6 fun b hb o e => (hs.2 b (ne b hb)).trans (I9.pin (b, o) (List.mem_append_right _ (List.mem_append_right _ (qbe hb e)))).1, fun b hb => ?_, rv.append (.cons ry .nil), w9⟩
        obtain ⟨o, e, d⟩ := T.obj _ _ st6 b hb
        exact (I9.pin (b, o) (List.mem_append_right _ (List.mem_append_right _ (qbe hb e)))).2.1
  exact codeAny_compStart_list (loop _ rfl) (T.self _ 0 _ _ _ st1 (loop _ rfl))
variable {wi : TI}
theorem qa0 (hc : X.calm = true) (S : CompScope X scope own frees ix) (hi : PI X tg iter wi)
    (hg : ∀ cl C s2 H2 fp, PG (qaX X (own ++ frees) scope cl C s2 H2 fp) tg g) (ht : ∀ cl C s2 H2 fp, PTs (qaX X (own ++ frees) scope cl C s2 H2 fp) ifs tt) (he : ∀ cl C s2 H2 fp, PE (qaX X (own ++ frees) scope cl C s2 H2 fp) elt te)
    (hs : ∀ x, foldedSetIterable iter X.env x = pure x := by intro _; rfl) :
    PE X (.ListComp elt [⟨tg, iter, ifs, 0⟩] scope pos) (qe8 own.length ix wi g tt te) := by
  intro pins s σ H Q I h
  obtain ⟨cl, hcl, hcl1, hcl2⟩ := qen (scope := scope) (env := X.env) fun x hx hf => I.ok.has x.1 (S.fr x hx hf)
  rw [eval_ListComp]
  refine wpAny_comprehension_free (use := none) rfl hs hcl S.kind S.loc ?_
  refine thn (hi pins s σ H _ I h) fun v s1 h1 => thn h1 fun itv s2 h2 => ?_
  obtain ⟨it, fp, tn, J, H2, e, I2, T, st2, f2, W, w0, turn⟩ := h2
  subst e
  refine qcD (Q := Q) (RR := fun acc C => compPost (model X.prog X.w) X.A X.xe none (EP X pins σ Q) acc C) hc S I2 hcl1 hcl2 T st2 f2 (fun C => hg cl C s2 H2 fp) (fun C => ht cl C s2 H2 fp) (fun C => he cl C s2 H2 fp) w0 turn ?_
  intro D C H' s' m I' fC nC q
  exact ⟨m, nC, fun h' hs' => ⟨.ref D, H', I'.letgo fC hs', rfl, q⟩⟩
theorem qcb {i : Nat} {y : Str} {py spos : Pos} (hc : X.calm = true) (hN : X.N.Nodup) (hiN : X.N[i]? = some y) (hy : Loc X.env.scope y) (S : CompScope X scope own frees ix) (hi : PI X tg iter wi)
    (hg : ∀ cl C s2 H2 fp, PG (qaX X (own ++ frees) scope cl C s2 H2 fp) tg g) (ht : ∀ cl C s2 H2 fp, PTs (qaX X (own ++ frees) scope cl C s2 H2 fp) ifs tt) (he : ∀ cl C s2 H2 fp, PE (qaX X (own ++ frees) scope cl C s2 H2 fp) elt te)
    (hf : X.fn y = true ∨ X.env.scope.names.lookup y = some .local := by first | exact .inl rfl | exact .inr rfl | assumption)
    (hsw : swapsWith (.ListComp elt [⟨tg, iter, ifs, 0⟩] scope pos) (some (.Name y py)) spos.line X.env = pure true := by with_unfolding_all rfl)
    (hs : ∀ x, foldedSetIterable iter X.env x = pure x := by intro _; rfl) :
    PS X (.Assign [.Name y py] (.ListComp elt [⟨tg, iter, ifs, 0⟩] scope pos) spos) (tAsg (qe8 own.length ix wi g tt te) (qaS i)) := by
  intro pins s σ H D I h
  obtain ⟨cl, hcl, hcl1, hcl2⟩ := qen (scope := scope) (env := X.env) fun x hx hf => I.ok.has x.1 (S.fr x hx hf)
  rw [exec_Assign_Name_used _ _ _ _ hsw]
  refine wpAny_bind (wpAny_standAt (wpAny_bind ?_))
  show wpAny (model X.prog X.w) X.A (do let _ ← comprehension (.ListComp elt [⟨tg, iter, ifs, 0⟩] scope pos) scope X.env _ (newList []) false (eval iter X.env) (some (assign (.Name y py) X.env))) _ _ s
  refine wpAny_bind (wpAny_mono (wpAny_comprehension_free (use := some (assign (.Name y py) X.env)) (Q := fun _ s' => SP X pins D .next s') rfl hs hcl S.kind S.loc ?_) (fun _ s' q => wpAny_pure (wpAny_pure q)) fun _ _ z => z)
  refine thn (hi pins s σ H _ I h) fun v s1 h1 => thn h1 fun itv s2 h2 => ?_
  obtain ⟨it, fp, tn, J, H2, e, I2, T, st2, f2, W, w0, turn⟩ := h2
  subst e
  refine qcD (Q := fun v H' => qaS i v σ H' D.nx) (RR := fun acc C => compPost (model X.prog X.w) X.A X.xe (some (assign (.Name y py) X.env)) (fun _ s' => SP X pins D .next s') acc C) hc S I2 hcl1 hcl2 T st2 f2 (fun C => hg cl C s2 H2 fp) (fun C => ht cl C s2 H2 fp) (fun C => he cl C s2 H2 fp) w0 turn ?_
  intro L C H' s' m I' fC nC q
  show wpAny (model X.prog X.w) X.A (assign (.Name y py) X.env (.ref L)) _ _ _
  refine wpAny_assign_Name (qde (v := .ref L) I' hN hiN hy rfl (fun s3 I3 hch => ?_) hf)
  obtain ⟨a, sb, ha⟩ := hch
  have nCa : C ≠ a := by
    rcases ha with z | z
    · rw [z]; exact fC.2.1
    · exact fun q => fC.2.2.2.2.1 y a z q.symm
  refine ⟨m, nC.sameBut sb nCa, fun h' hs' => ?_⟩
  exact ⟨_, H', I3.letgo fC hs', q⟩
end
theorem qaO {K : PySem.W.Frag} {a : Addr} {xs : List V} {own : Nat} {ix : List Nat} {g : TG} {tt : TT} {te : TE} {σ : St} {H : Hp} {Q : VK} (Pv : Nat → List V → St → Hp → Prop) (hz : xs.length < sizeLine) (h0 : Pv 0 [] (qbq own ix σ) H)
    (hl : ∀ i ys σ' H', i ≤ xs.length → Pv i ys σ' H' → SqL K H' a xs ∧ ys.length ≤ i)
    (hs : ∀ i x ys σ' H', xs[i]? = some x → Pv i ys σ' H' → g x σ' H' fun σ2 H3 => tt σ2 H3 fun b H4 => if b = true then te σ2 H4 fun v H5 => Pv (i + 1) (ys ++ [v]) σ2 H5 else Pv (i + 1) ys σ2 H4)
    (hd : ∀ ys σ' H', Pv xs.length ys σ' H' → ∀ D, H' D = none → Q (.ref D) (upd H' D (.lst ys))) :
    qbN own ix g tt te (Itl K a) σ H Q := by
  refine ⟨fun i m ys σ H => m = xs.length - i ∧ i ≤ xs.length ∧ Pv i ys σ H, ⟨xs.length, by simp, Nat.zero_le _, h0⟩, ?_⟩
  rintro i m ys σ H ⟨rfl, hi, p⟩
  obtain ⟨q, hy⟩ := hl i ys σ H hi p
  refine ⟨by omega, ?_⟩
  by_cases hlt : i < xs.length
  · refine .inr ⟨⟨xs, xs[i], q, by simp [hlt]⟩, Pv (i + 1), fun zs σ' H' p' => ⟨xs.length - (i + 1), by omega, rfl, hlt, p'⟩, fun x H' y => ?_⟩
    obtain ⟨e, y⟩ := y
    subst e
    exact hs i x ys σ _ (y xs q) p
  · have e : i = xs.length := by omega
    subst e
    exact .inl ⟨⟨xs, q, Nat.le_refl _⟩, hd ys σ H p⟩
end L2
namespace L2
open PySem PySem.Spec PyProof.Rows
theorem ObjOk.at {P : Program} {w : World} {H : Hp} {h : Heap} {a : Addr} {o : HO} (x : ObjOk P w H h a o) : ∃ u, h.get? a = some u := by
  cases o with
  | lst xs => obtain ⟨_, _, _, _, e⟩ := x; exact ⟨_, e⟩
  | tup xs => obtain ⟨_, _, _, o, e, _⟩ := x; exact ⟨_, e⟩
  | dK kvs => obtain ⟨_, _, _, _, o, _, _, e, _⟩ := x; exact ⟨_, e⟩
  | dT kvs => obtain ⟨_, _, _, _, o, _, _, e, _⟩ := x; exact ⟨_, e⟩
  | set S n => obtain ⟨o, _, _, _, e, _⟩ := x; exact ⟨_, e⟩
  | ins C dx fs => obtain ⟨_, _, _, e, _⟩ := x; exact ⟨_, e⟩
  | own y => exact x
  | xd fs => obtain ⟨_, ⟨_, _, _, e, _⟩, _⟩ := x; exact ⟨_, e⟩
  | rng lo hi => obtain ⟨_, _, _, e⟩ := x; exact ⟨_, e⟩
  | frz ob u => obtain ⟨e, _⟩ := x; exact ⟨_, e⟩
  | tbl ps => exact ⟨_, x⟩
  | met f y => exact ⟨_, x⟩
  | ext φ => exact x.2.1
end L2
namespace L2
open PySem PySem.Spec PyProof.Rows
section
variable {X : Cx} {pins : List (Addr × Obj)} {σ : St} {H : Hp} {s : Shared} {D : Addr} {o : HO}
theorem Inv.track (I : Inv X pins σ H s) (h0 : X.s₀.heap.get? D = none) (hn : H D = none) (hL : D ≠ X.env.locals) (hc : ∀ x c, X.env.cells.lookup x = some c → c ≠ D) (hp : ∀ p ∈ X.pn ++ pins, p.1 ≠ D)
    (new : ObjOk X.prog X.w (upd H D o) s.heap D o) : Inv X pins σ (upd H D o) s := by
  refine ⟨I.ok, I.os, I.bare, ⟨I.base.keep, I.base.slot, fun b ob q n hx => ?_, I.base.there, fun b xs q => ?_, fun b ob xs q => ?_, fun b ps q => ?_⟩, I.loc, I.cell, ?_, fun x c e => ?_, fun p z => ?_, HOk.track I.hok hn new, I.len⟩
  · rw [qai (fun z => by rw [z, h0] at q; cases q)]
    exact I.base.free b ob q n hx
  · have r := I.base.tups b xs q
    rw [qai (fun z => by rw [z, hn] at r; cases r)]
    exact r
  · have r := I.base.frzs b ob xs q
    rw [qai (fun z => by rw [z, hn] at r; cases r)]
    exact r
  · obtain ⟨more, r⟩ := I.base.tbls b ps q
    exact ⟨more, by rw [qai (fun z => by rw [z, hn] at r; cases r)]; exact r⟩
  · rw [qai (Ne.symm hL)]; exact I.free
  · rw [qai (hc x c e)]; exact I.freeC x c e
  · obtain ⟨q1, q2, q3, q4, q5⟩ := I.pin p z
    exact ⟨q1, by rw [qai (hp p z)]; exact q2, q3, q4, q5⟩
end
mutual
inductive DIn (H : Hp) : V → PySem.W.Dat → Prop
  | non : DIn H .non .none
  | int (i) : DIn H (.int i) (.int i)
  | str (x) : DIn H (.str x) (.str x)
  | tup {a xs ds} : H a = some (.tup xs) → DAll H xs ds → DIn H (.ref a) (.tuple ds)
  | lst {a xs ds} : H a = some (.lst xs) → DAll H xs ds → DIn H (.ref a) (.list ds)
inductive DAll (H : Hp) : List V → List PySem.W.Dat → Prop
  | nil : DAll H [] []
  | cons {x d xs ds} : DIn H x d → DAll H xs ds → DAll H (x :: xs) (d :: ds)
end
section
variable {P : Program} {w : World} {H : Hp} {h : Heap}
mutual
theorem qbu (ok : HOk P w H h) : ∀ {v : V} {d : PySem.W.Dat} {u : Value} (n : Nat), DIn H v d → RelV v u → PySem.W.kqdOk n d = true → ∃ as, Reads h u (PySem.W.kqdP d) as
  | _, _, _, _, .non, r, _ => by cases r; exact ⟨_, Reads.none⟩
  | _, _, _, _, .int i, r, _ => by obtain ⟨t, rfl⟩ := r; exact ⟨_, Reads.int i t⟩
  | _, _, _, _, .str x, r, _ => by obtain ⟨t, rfl⟩ := r; exact ⟨_, Reads.str x t⟩
  | _, _, _, 0, .tup _ _, _, hk => by simp [PySem.W.kqdOk] at hk
  | _, _, _, 0, .lst _ _, _, hk => by simp [PySem.W.kqdOk] at hk
  | _, _, _, n + 1, .tup (a := a) e q, r, hk => by
    cases r
    obtain ⟨_, its, rv, o, e1, e2, k, e3⟩ := ok a _ e
    obtain ⟨as, z⟩ := qbR ok n q rv (by simpa [PySem.W.kqdOk] using hk)
    rw [PySem.W.kqdP]
    exact ⟨as, reads_tuple_at e1 e2 e3 (by simpa using z)⟩
  | _, _, _, n + 1, .lst (a := a) e q, r, hk => by
    cases r
    obtain ⟨_, its, k, rv, e1⟩ := ok a _ e
    obtain ⟨as, z⟩ := qbR ok n q rv (by simpa [PySem.W.kqdOk] using hk)
    rw [PySem.W.kqdP]
    exact ⟨_, reads_list_at e1 rfl rfl (by simpa using z)⟩
theorem qbR (ok : HOk P w H h) : ∀ {vs : List V} {ds : List PySem.W.Dat} {us : List Value} (n : Nat), DAll H vs ds → Vals vs us → (∀ d ∈ ds, PySem.W.kqdOk n d = true) → ∃ as, ReadsAll h us (PySem.W.kqdPs ds) as
  | _, _, _, _, .nil, r, _ => by cases r; exact ⟨_, ReadsAll.nil⟩
  | _, _, _, n, .cons q qs, r, hk => by
    cases r with
    | cons r1 r2 =>
      obtain ⟨as, z⟩ := qbu ok n q r1 (hk _ (.head _))
      obtain ⟨bs, y⟩ := qbR ok n qs r2 fun d hd => hk d (.tail _ hd)
      rw [PySem.W.kqdPs]
      exact ⟨_, ReadsAll.cons z y⟩
end
end
theorem qed {d e : PySem.W.Dat} {n k : Nat} (h1 : PySem.W.kqdOk n d = true) (h2 : PySem.W.kqdOk k e = true) [Decidable (d = e)] : PyData.eqv (PySem.W.kqdP d) (PySem.W.kqdP e) = decide (d = e) := by
  have q := PySem.W.kqd_eqv n d e k h1 h2
  by_cases z : d = e
  · rw [decide_eq_true z]; exact q.mpr z
  · rw [decide_eq_false z]; exact Bool.eq_false_iff.mpr fun x => z (q.mp x)
theorem qbB {d : PySem.W.Dat} (h : PySem.W.kqdOk 9 d = true) : SeqAt.shaped (PySem.W.kqdP d) = true := by
  have q := PySem.W.kqd_lay 9 d h
  unfold SeqAt.shaped
  rw [q.1, Bool.true_and]
  exact decide_eq_true (Nat.le_trans q.2 (by decide))
section
variable {X : Cx}
open Classical in
def rEqD (neg : Bool) : R2 := fun x y H Q => ∃ d e, DIn H x d ∧ DIn H y e ∧ PySem.W.kqdOk 9 d = true ∧ PySem.W.kqdOk 9 e = true ∧ Q (.bl (if neg = true then !decide (d = e) else decide (d = e))) H
open Classical in
theorem op_eqD (hu : X.A.units + 64 < cLine) : OpR X (compareOp .Eq) (rEqD false) := by
  intro pins s σ H x y v u Q I rx ry h
  obtain ⟨d, e, h1, h2, k1, k2, q⟩ := h
  obtain ⟨as, r1⟩ := qbu I.hok 9 h1 rx k1
  obtain ⟨bs, r2⟩ := qbu I.hok 9 h2 ry k2
  exact eq_dataH r1 r2 (qbB k1) (qbB k2) hu (qaH I q (by rw [qed k1 k2]; simp))
open Classical in
theorem op_neD (hu : X.A.units + 64 < cLine) : OpR X (compareOp .NotEq) (rEqD true) := by
  intro pins s σ H x y v u Q I rx ry h
  obtain ⟨d, e, h1, h2, k1, k2, q⟩ := h
  obtain ⟨as, r1⟩ := qbu I.hok 9 h1 rx k1
  obtain ⟨bs, r2⟩ := qbu I.hok 9 h2 ry k2
  exact ne_dataH r1 r2 (qbB k1) (qbB k2) hu (qaH I q (by rw [qed k1 k2]; simp))
def CDivL (i j : Int) : Prop := 0 < j ∧ j < 18446744073709551616
theorem op_fdivL : OpR X (binaryOp .FloorDiv) (rI CDivL fun i j => .int (i / j)) := opI fun i j _ _ _ _ _ hc q => by
  have h1 : (0 : Int) < j := hc.1
  have h2 : j < 18446744073709551616 := hc.2
  refine floordiv_int (by omega) ?_ (.inl (PyProof.noPylong_of_log2 ?_))
  · rw [Int.fdiv_eq_ediv_of_nonneg i (by omega)]
    exact q
  · have h3 : j.natAbs < 2 ^ 64 := by omega
    exact Nat.lt_of_lt_of_le ((Nat.log2_lt (by omega)).mpr h3) (by decide)
theorem call_isinst : qbU X (.builtin "isinstance") (fun xs H Q => ∃ x c t b, xs = [x, c] ∧ TyOf X.K H x t ∧ (∃ cv, (∀ u, RelV c u → u = cv) ∧ PySem.W.kitOne X.K t cv = some b) ∧ Q (.bl b) H) := by
  intro pins s σ H xs us Q I r h
  obtain ⟨x, c, t, b, rfl, ty, ⟨cv, hcv, e⟩, q⟩ := h
  obtain ⟨u, w', rfl, r1, r2⟩ := vals2 r
  obtain rfl := hcv _ r2
  exact isinst_ok I r1 ty e fun tk => ⟨.bl b, H, I.tok _, rfl, q⟩
theorem call_all (hc : X.calm = true) : qbU X (.builtin "all") (fun xs H Q => ∃ (p : Addr) (bs : List Bool), xs = [.ref p] ∧ SqL X.K H p (bs.map V.bl) ∧ Q (.bl (bs.all id)) H) := by
  intro pins s σ H xs us Q I r h
  obtain ⟨p, bs, rfl, hp, q⟩ := h
  obtain ⟨u, rfl, rx⟩ := qcv r
  cases rx
  obtain ⟨its, rv, pl, hz⟩ := I.list hp
  have hh := I.ok.hd hc
  refine call_all_walk (wpAny_pyIter_list pl.isList ?_)
  have lp : p < s.heap.objs.size := by
    obtain ⟨o, e, _⟩ := pl.isList
    exact Heap.lt_size e
  have atB : ∀ (i : Nat) (v : Value), its.toArray[i]? = some v → v = .bool (bs.getD i false) := fun i v e => by
    have e' : its[i]? = some v := by simpa using e
    cases z : bs[i]? with
    | none =>
      have h1 := rv.length
      rw [List.length_map] at h1
      have h2 := (List.getElem?_eq_some_iff.mp e').1
      have h3 := List.getElem?_eq_none_iff.mp z
      omega
    | some b =>
      obtain ⟨u, e2, r2⟩ := rv.get (i := i) (x := .bl b) (by rw [List.getElem?_map, z]; rfl)
      rw [e'] at e2
      cases e2
      cases r2
      rw [List.getD_eq_getElem?_getD, z]
      rfl
  refine ⟨s.heap.objs.size, _, _, _, _, _, fun i => bs.getD i false, rfl, Walks.list (by simpa using hh) s.heap.objs.size p (Nat.ne_of_lt lp) its.toArray, ⟨⟨_, Heap.get?_push_size _ rfl, rfl, rfl⟩, pl.isList.push _⟩, fun i v s' Q' E' e hq => ?_, fun h' tk k => ?_⟩
  · rw [atB i v e]
    exact wpAny_truthy_bool hq
  · have ev : (List.range its.toArray.size).all (fun i => bs.getD i false) = bs.all id := by
      have hl : its.toArray.size = bs.length := by rw [List.size_toArray, ← rv.length, List.length_map]
      rw [hl]
      rw [Bool.eq_iff_iff]
      simp only [List.all_eq_true, List.mem_range, id]
      constructor
      · intro z x hx
        obtain ⟨i, hi, e⟩ := List.mem_iff_getElem.mp hx
        have := z i hi
        rw [List.getD_eq_getElem?_getD, List.getElem?_eq_getElem hi, e] at this
        exact this
      · intro z i hi
        rw [List.getD_eq_getElem?_getD, List.getElem?_eq_getElem hi]
        exact z _ (List.getElem_mem hi)
    rw [ev]
    exact ⟨.bl (bs.all id), H, I.kept fun b o e => k b o (by simpa using Nat.ne_of_lt (Heap.lt_size e)) (Heap.get?_push_of_some _ e), rfl, q⟩
end
end L2
namespace Bk
open PySem
inductive Kd
  | body | case | shelf | grid | text | head | picture | aside | note | leaf | no
  deriving DecidableEq
def Kd.s : Kd → Str
  | .body => Str.ofString "body"
  | .case => Str.ofString "case"
  | .shelf => Str.ofString "shelf"
  | .grid => Str.ofString "grid"
  | .text => Str.ofString "text"
  | .head => Str.ofString "head"
  | .picture => Str.ofString "picture"
  | .aside => Str.ofString "aside"
  | .note => Str.ofString "note"
  | .leaf => Str.ofString "leaf"
  | .no => Str.ofString ""
theorem Kd.inj (a b : Kd) : (a.s = b.s) = (a = b) := by
  cases a <;> cases b <;> first | exact propext ⟨fun _ => rfl, fun _ => rfl⟩ | exact propext ⟨fun h => absurd h (by decide +kernel), fun h => by cases h⟩
inductive So
  | word | page | note | sign
  deriving DecidableEq
def So.s : So → Str
  | .word => Str.ofString "word"
  | .page => Str.ofString "page"
  | .note => Str.ofString "note"
  | .sign => Str.ofString "sign"
inductive Th
  | int (n : Int) | tri (s : So) (x : Sum Str Int) (t : Int)
structure Nd where
  e : Int
  k : Kd
  nm : Str
  mks : List Str
  st : List Th
def wordSigns : List Nat := [97, 98, 99, 100, 101, 102, 103, 104, 105, 106, 107, 108, 109, 110, 111, 112, 113, 114, 115, 116, 117, 118, 119, 120, 121, 122,
  65, 66, 67, 68, 69, 70, 71, 72, 73, 74, 75, 76, 77, 78, 79, 80, 81, 82, 83, 84, 85, 86, 87, 88, 89, 90, 48, 49, 50, 51, 52, 53, 54, 55, 56, 57, 46, 44, 45, 59, 58, 39, 40, 41, 33, 63]
def qdz (c : Nat) : Prop := 97 ≤ c ∧ c ≤ 122
def Word (w : Str) : Prop := 1 ≤ w.length ∧ w.length ≤ 20 ∧ ∀ c ∈ w.cps.toList, c ∈ wordSigns
def Name (n : Str) : Prop := 1 ≤ n.length ∧ n.length ≤ 8 ∧ ∀ c ∈ n.cps.toList, qdz c
def isNote : Th → Bool
  | .tri .note _ _ => true
  | _ => false
def PcOk : Th → Prop
  | .tri .word (.inl w) t => Word w ∧ 0 ≤ t ∧ t ≤ 3
  | .tri .page (.inl n) t => Name n ∧ 0 ≤ t ∧ t ≤ 3
  | .tri .note (.inr k) t => 0 ≤ k ∧ k ≤ 60 ∧ t = 0
  | _ => False
def noteNum : Th → Option Int
  | .tri .note (.inr k) _ => some k
  | _ => none
def qaU (l : List Th) : List Int := l.filterMap noteNum
def nums (n : Nat) : List Int := (List.range n).map fun (i : Nat) => (i : Int)
theorem qcc (n : Nat) : nums (n + 1) = nums n ++ [(n : Int)] := by unfold nums; rw [List.range_succ, List.map_append]; rfl
structure Pieces (n : Nat) (l : List Th) : Prop where
  ok : ∀ x ∈ l, PcOk x
  ne : ∃ x r, l = x :: r ∧ isNote x = false
  nn : qaU l = nums n
  le : l.length ≤ 60
def mayHold : Kd → Kd → Bool
  | .body, .case | .body, .shelf | .body, .grid | .body, .text | .body, .head | .body, .picture | .body, .aside => true
  | .case, .case | .case, .shelf | .case, .grid | .case, .text | .case, .head | .case, .picture | .case, .aside => true
  | .shelf, .case | .shelf, .shelf | .shelf, .grid | .shelf, .text | .shelf, .picture => true
  | .grid, .case | .grid, .shelf | .grid, .grid | .grid, .text | .grid, .picture => true
  | .text, .note | .head, .note => true
  | .aside, .case | .aside, .shelf | .aside, .grid | .aside, .text | .aside, .head | .aside, .picture => true
  | _, _ => false
def neverEmpty : Kd → Bool
  | .body | .shelf | .grid | .aside => true
  | _ => false
def ofPieces : Kd → Bool
  | .text | .head | .note => true
  | _ => false
def Nexts : List Kd → Prop
  | [] => True
  | .aside :: .text :: r => Nexts r
  | .aside :: _ => False
  | _ :: r => Nexts r
def Holds (k : Kd) (ks : List Kd) (st : List Th) : Prop := (∀ c ∈ ks, mayHold k c = true) ∧ (neverEmpty k = true → ks ≠ []) ∧ Nexts ks ∧ (ofPieces k = true → qaU st = nums ks.length)
def qcx (l : List Str) : Prop := l.length ≤ 4 ∧ (∀ m ∈ l, Name m) ∧ l.Pairwise fun a b => a.cps.toList < b.cps.toList
def Stuff : Kd → List Th → Prop
  | .picture, l => ∃ a b : Int, l = [.int a, .int b] ∧ 1 ≤ a ∧ a ≤ 2000 ∧ 1 ≤ b ∧ b ≤ 2000
  | .text, l | .head, l | .note, l => (∀ x ∈ l, PcOk x) ∧ (∃ x r, l = x :: r ∧ isNote x = false) ∧ l.length ≤ 60
  | _, l => l = []
def noName : Str := Str.ofString ""
structure Form (d : Nd) : Prop where
  nm : d.nm = noName ∨ Name d.nm
  mks : qcx d.mks
  st : Stuff d.k d.st
inductive Forest : Nat → Nat → Nat → List Nd → List Kd → Prop
  | nil {e i lv : Nat} : Forest e i lv [] []
  | cons {e i lv : Nat} {d : Nd} {sub rest : List Nd} {ks ks' : List Kd} : d.e = (e : Int) → lv ≤ 6 → d.k ≠ .body → Forest i (i + 1) (lv + 1) sub ks → Holds d.k ks d.st → Forest e (i + 1 + sub.length) lv rest ks' → Forest e i lv (d :: (sub ++ rest)) (d.k :: ks')
theorem Forest.append {e lv : Nat} {a b : List Nd} {ks ks' : List Kd} {i : Nat} (x : Forest e i lv a ks) : Forest e (i + a.length) lv b ks' → Forest e i lv (a ++ b) (ks ++ ks') := by
  induction x with
  | nil => intro y; exact y
  | @cons e i lv d sub rest ks ks1 h1 h2 h3 f1 h4 f2 ih1 ih2 =>
    intro y
    have y' : Forest e (i + 1 + sub.length + rest.length) lv b ks' := by
      have : i + (d :: (sub ++ rest)).length = i + 1 + sub.length + rest.length := by simp; omega
      rw [← this]; exact y
    have := ih2 y'
    rw [List.cons_append, List.append_assoc, List.cons_append]
    exact .cons h1 h2 h3 f1 h4 this
theorem Forest.one {e i lv : Nat} {d : Nd} {sub : List Nd} {ks : List Kd} (h1 : d.e = (e : Int)) (h2 : lv ≤ 6) (h3 : d.k ≠ .body) (f : Forest i (i + 1) (lv + 1) sub ks) (h4 : Holds d.k ks d.st) : Forest e i lv (d :: sub) [d.k] := by
  have := Forest.cons (rest := []) h1 h2 h3 f h4 .nil
  rwa [List.append_nil] at this
theorem Forest.has {e i lv : Nat} {l : List Nd} {ks : List Kd} (x : Forest e i lv l ks) : ∀ k ∈ ks, ∃ d ∈ l, d.e = (e : Int) ∧ d.k = k := by
  induction x with
  | nil => intro k hk; cases hk
  | @cons e i lv d sub rest ks ks1 h1 h2 h3 f1 h4 f2 ih1 ih2 =>
    intro k hk
    rcases List.mem_cons.mp hk with rfl | hk
    · exact ⟨d, List.mem_cons_self, h1, rfl⟩
    · obtain ⟨d', m, r⟩ := ih2 k hk
      exact ⟨d', List.mem_cons_of_mem _ (List.mem_append_right _ m), r⟩
def ItemKs (ke : Kd) (ks : List Kd) : Prop := (∃ k, ks = [k] ∧ k ≠ .aside ∧ mayHold ke k = true) ∨ (ks = [.aside, .text] ∧ mayHold ke .aside = true ∧ mayHold ke .text = true)
theorem Nexts.append : ∀ {a b : List Kd}, Nexts a → Nexts b → Nexts (a ++ b)
  | [], b, _, h => h
  | [.aside], b, h, _ => by cases h
  | .aside :: k :: r, b, h, h' => by
    cases k <;> first | (exact Nexts.append (a := r) h h') | cases h
  | .body :: r, b, h, h' => Nexts.append (a := r) h h'
  | .case :: r, b, h, h' => Nexts.append (a := r) h h'
  | .shelf :: r, b, h, h' => Nexts.append (a := r) h h'
  | .grid :: r, b, h, h' => Nexts.append (a := r) h h'
  | .text :: r, b, h, h' => Nexts.append (a := r) h h'
  | .head :: r, b, h, h' => Nexts.append (a := r) h h'
  | .picture :: r, b, h, h' => Nexts.append (a := r) h h'
  | .note :: r, b, h, h' => Nexts.append (a := r) h h'
  | .leaf :: r, b, h, h' => Nexts.append (a := r) h h'
  | .no :: r, b, h, h' => Nexts.append (a := r) h h'
theorem ItemKs.nexts {ke : Kd} {ks : List Kd} (h : ItemKs ke ks) : Nexts ks := by
  rcases h with ⟨k, rfl, n, _⟩ | ⟨rfl, _⟩
  · cases k <;> first | trivial | exact absurd rfl n
  · trivial
theorem ItemKs.may {ke : Kd} {ks : List Kd} (h : ItemKs ke ks) : ∀ k ∈ ks, mayHold ke k = true := by
  rcases h with ⟨k, rfl, _, m⟩ | ⟨rfl, m1, m2⟩
  · intro k' hk
    have : k' = k := by simpa using hk
    rw [this]; exact m
  · intro k' hk
    rcases List.mem_cons.mp hk with rfl | hk
    · exact m1
    · have : k' = .text := by simpa using hk
      rw [this]; exact m2
theorem ItemKs.ne {ke : Kd} {ks : List Kd} (h : ItemKs ke ks) : ks ≠ [] := by
  rcases h with ⟨k, rfl, _⟩ | ⟨rfl, _⟩ <;> simp
theorem ItemKs.block {ke : Kd} {ks : List Kd} (h : ItemKs ke ks) : ∃ k ∈ ks, k ≠ .aside := by
  rcases h with ⟨k, rfl, n, _⟩ | ⟨rfl, _⟩
  · exact ⟨k, by simp, n⟩
  · exact ⟨.text, by simp, by decide⟩
def Names (l : List Nd) : Prop := (l.filter fun d => d.nm ≠ noName).map (·.nm) |>.Nodup
structure Book (l : List Nd) : Prop where
  tree : ∃ d sub ks, l = d :: sub ∧ d.e = -1 ∧ d.k = .body ∧ Forest 0 1 1 sub ks ∧ Holds .body ks d.st
  form : ∀ d ∈ l, Form d
  names : Names l
def cap (R lv : Nat) : Nat := R + (if 4 ≤ lv then 2 else if lv = 3 then 12 else if lv = 2 then 21 else 30)
end Bk
namespace L2
open PySem
theorem qac {H : Hp} {p : Addr} (h : H p = none) (o : HO) : Same H (upd H p o) := fun b u q => by rw [qai (qao q h)]; exact q
def KeepN (N : Addr → Prop) (H H' : Hp) : Prop := ∀ b o, N b → H b = some o → H' b = some o
theorem KeepN.trans {N : Addr → Prop} {H H1 H2 : Hp} (a : KeepN N H H1) (b : KeepN N H1 H2) : KeepN N H H2 := fun c o n h => b c o n (a c o n h)
theorem KeepN.mono {N N' : Addr → Prop} {H H1 : Hp} (a : KeepN N H H1) (h : ∀ b, N' b → N b) : KeepN N' H H1 := fun c o n e => a c o (h c n) e
theorem Same.keep {N : Addr → Prop} {H H' : Hp} (s : Same H H') : KeepN N H H' := fun b o _ e => s b o e
theorem KeepN.refl {N : Addr → Prop} {H : Hp} : KeepN N H H := fun _ _ _ e => e
end L2
namespace Bk
open PySem L2
def thV : Sum Str Int → V
  | .inl x => .str x
  | .inr k => .int k
def ItAt (N : Addr → Prop) (H : Hp) (v : V) : Th → Prop
  | .int n => v = .int n
  | .tri s x t => ∃ a, v = .ref a ∧ N a ∧ H a = some (.tup [.str s.s, thV x, .int t])
theorem ItAt.keep {N N' : Addr → Prop} {H H' : Hp} {v : V} {x : Th} (h : ItAt N H v x) (k : KeepN N H H') (sub : ∀ b, N b → (H b).isSome = true → N' b) : ItAt N' H' v x := by
  cases x with
  | int n => exact h
  | tri s x t =>
    obtain ⟨a, e, n, g⟩ := h
    exact ⟨a, e, sub a n (by rw [g]; rfl), k _ _ n g⟩
def StAt (N : Addr → Prop) (H : Hp) (s : Addr) (l : List Th) : Prop := N s ∧ ∃ vs, H s = some (.lst vs) ∧ Paired (ItAt N H) vs l
structure NdAt (N : Addr → Prop) (H : Hp) (a : Addr) (d : Nd) : Prop where
  na : N a
  ex : ∃ m s, H a = some (.tup [.int d.e, .str d.k.s, .str d.nm, .ref m, .ref s]) ∧ N m ∧ H m = some (.lst (d.mks.map V.str)) ∧ StAt N H s d.st
theorem StAt.keep {N N' : Addr → Prop} {H H' : Hp} {s : Addr} {l : List Th} (h : StAt N H s l) (k : KeepN N H H') (sub : ∀ b, N b → (H b).isSome = true → N' b) : StAt N' H' s l := by
  obtain ⟨n, vs, g, p⟩ := h
  exact ⟨sub s n (by rw [g]; rfl), vs, k _ _ n g, p.mono fun v x q => q.keep k sub⟩
theorem NdAt.keep {N N' : Addr → Prop} {H H' : Hp} {a : Addr} {d : Nd} (h : NdAt N H a d) (k : KeepN N H H') (sub : ∀ b, N b → (H b).isSome = true → N' b) : NdAt N' H' a d := by
  obtain ⟨na, m, s, g, nm, gm, st⟩ := h
  exact ⟨sub a na (by rw [g]; rfl), m, s, k _ _ na g, sub m nm (by rw [gm]; rfl), k _ _ nm gm, st.keep k sub⟩
abbrev NdsAt (N : Addr → Prop) (H : Hp) (as : List Addr) (ds : List Nd) : Prop := Paired (NdAt N H) as ds
theorem NdsAt.keep {N N' : Addr → Prop} {H H' : Hp} {as : List Addr} {ds : List Nd} (h : NdsAt N H as ds) (k : KeepN N H H') (sub : ∀ b, N b → (H b).isSome = true → N' b) : NdsAt N' H' as ds := h.mono fun a d q => q.keep k sub
theorem NdsAt.get {N : Addr → Prop} {H : Hp} {as : List Addr} {ds : List Nd} (h : NdsAt N H as ds) {i : Nat} {d : Nd} (e : ds[i]? = some d) : ∃ a, as[i]? = some a ∧ NdAt N H a d := by
  induction h generalizing i with
  | nil => cases e
  | @cons a b l1 l2 q t ih =>
    cases i with
    | zero => cases e; exact ⟨a, rfl, q⟩
    | succ i => exact ih (by simpa using e)
theorem NdsAt.at {N : Addr → Prop} {H : Hp} {as : List Addr} {ds : List Nd} (h : NdsAt N H as ds) {i : Nat} {a : Addr} (e : as[i]? = some a) : ∃ d, ds[i]? = some d ∧ NdAt N H a d := by
  induction h generalizing i with
  | nil => cases e
  | @cons a b l1 l2 q t ih =>
    cases i with
    | zero => cases e; exact ⟨b, rfl, q⟩
    | succ i => exact ih (by simpa using e)
theorem NdsAt.append {N : Addr → Prop} {H : Hp} {as bs : List Addr} {ds es : List Nd} (p : NdsAt N H as ds) (h : NdsAt N H bs es) : NdsAt N H (as ++ bs) (ds ++ es) := by
  induction p with
  | nil => exact h
  | cons q t ih => exact .cons q ih
def qaY (N : Addr → Prop) (H : Hp) (p : Addr) (ds : List Nd) : Prop := ∃ as, H p = some (.lst (as.map V.ref)) ∧ NdsAt N H as ds
theorem qaz {as : List Addr} {i : Nat} {a : Addr} (e : as[i]? = some a) : atI (as.map V.ref) ((i : Nat) : Int) = some (.ref a) := qcX (by rw [List.getElem?_map, e]; rfl)
end Bk
namespace L2
open PySem PySem.Spec PyProof.Rows
theorem b_enumerate : bootBuiltins "enumerate" = some (.type "enumerate") := by decide +kernel
section
variable {X : Cx} {pins : List (Addr × Obj)} {σ : St} {H : Hp} {s : Shared} {h' : Heap} {fp : List Addr}
theorem Inv.moved {t' : Nat} (I : Inv X pins σ H s) (hf : ∀ b ∈ fp, FpOk X pins H b) (k : ∀ b o, b ∉ fp → s.heap.get? b = some o → h'.get? b = some o) : Inv X pins σ H { s with heap := h', toks := t' } := by
  refine I.step (g' := s.gens) (d' := s.drawn) (ch := fp) (fun b hb => ?_) (fun b o _ _ hc e _ => k b o hc e) (fun b o _ _ hc e _ => ⟨o.slots, k b o hc e⟩) (fun _ _ _ _ n => n) (fun b o hc e => ⟨o, k b o hc e⟩) (fun _ _ q => q) (fun _ _ _ q => q) (fun b ps q => ⟨#[], by rw [q]; simp⟩) (fun m hn => ?_) (fun a u q => ?_) I.bare
  · obtain ⟨_, f1, _, f3, f4, f5⟩ := hf b hb
    exact ⟨f3, f1, f4, f5⟩
  · obtain ⟨o, es, ep, e, r⟩ := hn
    exact ⟨o, es, ep, k _ _ (fun z => (hf _ z).2.1 rfl) e, r⟩
  · refine (I.hok a u q).stay (fun b v hb e => k b v (fun z => ?_) e) (fun _ z => z) fun _ _ z => z
    have := (hf b z).1
    rcases hb with rfl | hb
    · rw [q] at this; cases this
    · rw [hb] at this; cases this
end
def Ite (K : PySem.W.Frag) (a : Addr) : It :=
  ⟨fun i H => ∃ xs x, SqL K H a xs ∧ xs[i]? = some x, fun i H x H' => ∃ T y, H T = none ∧ x = .ref T ∧ H' = upd H T (.tup [.int (i : Nat), y]) ∧ ∀ xs, SqL K H a xs → xs[i]? = some y, fun i H => ∃ xs, SqL K H a xs ∧ xs.length ≤ i⟩
theorem turn_enum {P : Program} {w : World} {K : PySem.W.Frag} {elts : List Expr} {k1 : Nat} {tp : Pos} (a e it : Addr) (hei : e ≠ it) : Turn P w K (.Tuple elts k1 tp) (Ite K a) [e, it] e (fun i h => (∃ old, IsEnum h e it ((i : Nat) : Int) old) ∧ h.IsListIter it a i) where
  mem := by simp
  obj := fun i h st b hb => by
    obtain ⟨⟨old, x⟩, o, e1, c, d⟩ := st
    rcases List.mem_cons.mp hb with rfl | hb
    · exact ⟨_, x, fun v z => by cases z⟩
    · have : b = it := by simpa using hb
      subst this
      exact ⟨o, e1, fun v z => by rw [d] at z; cases z⟩
  keep := fun i h h' st k => by
    obtain ⟨⟨old, x⟩, y⟩ := st
    exact ⟨⟨old, k e (by simp) _ x⟩, y.at fun o z => k it (by simp) o z⟩
  item := by
    intro X hP hw hK hc i pins s σ H E I hf st hg
    subst hP hw hK
    obtain ⟨xs, x, hq, hx⟩ := hg
    obtain ⟨⟨old, st1⟩, st2⟩ := st
    obtain ⟨its, rv, p, hz⟩ := I.list hq
    obtain ⟨u, hu, ru⟩ := rv.get hx
    refine wpAny_pyNext_enum_item st1 st2 p.isList (x := u) (by simpa using hu) hei fun h' ho hit' hT hsz hk => ?_
    refine ⟨_, rfl, wpAny_letOwnedTupleGo_enum ho fun h2 he2 sb => ?_⟩
    have k2 : ∀ b o, b ∉ [e, it] → s.heap.get? b = some o → h2.get? b = some o := fun b o hb z => (sb.2 b (fun q => hb (by simp [q]))).trans (hk b o (fun q => hb (by simp [q])) (fun q => hb (by simp [q])) z)
    have elt : e < s.heap.objs.size := Heap.lt_size st1
    have ilt : it < s.heap.objs.size := by obtain ⟨o, z, _⟩ := st2; exact Heap.lt_size z
    have gT : h2.get? s.heap.objs.size = some { cls := .type "tuple", data := .seq #[.int i s.toks, u] } := (sb.2 _ (Nat.ne_of_gt elt)).trans hT
    have I1 : Inv X pins σ H { s with heap := h2, toks := s.toks + 1 } := I.moved hf k2
    have hn : H s.heap.objs.size = none := I.hok.fresh (Nat.le_refl _)
    refine ⟨.ref s.heap.objs.size, upd H s.heap.objs.size (.tup [.int (i : Nat), x]), I1.track ?_ hn (Nat.ne_of_gt I.lt) (fun y c ec z => ?_) (fun q hq z => ?_) ?_, rfl, ⟨s.heap.objs.size, x, hn, rfl, rfl, fun ys hy => by rw [I.list_inj hy hq]; exact hx⟩, ⟨⟨u, ?_⟩, hit'.at fun o z => (sb.2 it (Ne.symm hei)).trans z⟩, fun b hb => ?_⟩
    · cases z : X.s₀.heap.get? s.heap.objs.size with
      | none => rfl
      | some u => exact absurd (Nat.lt_of_lt_of_le (Heap.lt_size z) I.sz) (Nat.lt_irrefl _)
    · obtain ⟨v, q⟩ := I.cell y c ec
      exact absurd q.lt (by rw [z]; exact Nat.lt_irrefl _)
    · exact absurd (Heap.lt_size (I.pin q hq).1) (by rw [z]; exact Nat.lt_irrefl _)
    · exact ⟨by show 2 ≤ sizeLine; decide, [.int i s.toks, u], .cons ⟨_, rfl⟩ (.cons ru .nil), _, gT, rfl, _, rfl⟩
    · simpa using he2
    · rw [qai (fun z => by
        have := hb
        rw [z] at this
        rcases List.mem_cons.mp this with q | q
        · exact absurd elt (by rw [← q]; exact Nat.lt_irrefl _)
        · have q' : s.heap.objs.size = it := by simpa using q
          exact absurd ilt (by rw [← q']; exact Nat.lt_irrefl _))]
      exact (hf b hb).1
  done := by
    intro X hP hw hK hc i pins s σ H E I hf st hg
    subst hP hw hK
    obtain ⟨xs, hq, hx⟩ := hg
    obtain ⟨⟨old, st1⟩, st2⟩ := st
    obtain ⟨its, rv, p, hz⟩ := I.list hq
    have hl := rv.length
    exact wpAny_pyNext_enum_end (I.ok.hd hc) st1 st2 p.isList (by simp; omega) fun h' eb => ⟨rfl, I.moved (t' := s.toks) hf fun b o hb z => eb b o (fun q => hb (by simp [q])) z⟩
  self := fun _ _ _ _ _ st h => by
    obtain ⟨⟨old, x⟩, _⟩ := st
    exact wpAny_pyIter_enum x h
section
variable {X : Cx} {tg : Expr}
def iEnum (K : PySem.W.Frag) (ta : TA) : TI := fun σ H R => ta σ H fun vs H1 => ∃ a, vs = [.ref a] ∧ (∃ xs, SqL K H1 a xs) ∧ R (Ite K a) H1
theorem qdu {a : Expr} {ta : TA} {p pos tp : Pos} {elts : List Expr} {k1 : Nat} (hg : Gl X "enumerate") (hm : X.mg "enumerate" = none) (ha : PA X [a] ta) (hs : starEach [a] X.env = [(false, eval a X.env)] := by rfl) : PI X (.Tuple elts k1 tp) (.Call (.Name "enumerate" p) [a] [] pos) (iEnum X.K ta) := by
  intro pins s σ H R I h
  refine Call_ (qck I hg hm b_enumerate (PyProof.Rows.callWith_type1 (thn (ha pos pins s σ H _ I h) fun us s1 ⟨vs, H1, I1, r1, q1⟩ => ?_) hs rfl))
  obtain ⟨l, e, ⟨xs, hq⟩, q⟩ := q1
  subst e
  cases r1 with
  | cons r rr =>
    cases rr
    cases r
    obtain ⟨its, rv, pl, hz⟩ := I1.list hq
    refine call_enumerate_list pl.isList fun h' he hit hsz kp => ?_
    refine wpAny_pyIter_enum he ?_
    have I2 : Inv X pins σ H1 { s1 with heap := h' } := I1.kept (t' := s1.toks) kp
    refine ⟨s1.heap.objs.size + 1, [s1.heap.objs.size + 1, s1.heap.objs.size], _, _, H1, rfl, I2, turn_enum l _ _ (Nat.ne_of_gt (Nat.lt_succ_self _)), ⟨⟨_, by simpa using he⟩, hit⟩, fun b hb => ?_, q⟩
    rcases List.mem_cons.mp hb with rfl | hb
    · exact I1.fpOk (Nat.le_succ _) (I1.hok.fresh (Nat.le_succ _))
    · have : b = s1.heap.objs.size := by simpa using hb
      subst this
      exact I1.fpOk (Nat.le_refl _) (I1.hok.fresh (Nat.le_refl _))
end
end L2
namespace L2
open PySem PySem.Spec
section
variable {κ : Type} [DecidableEq κ]
def one1 (l : List κ) (v : κ) : List κ := if v ∈ l then l else l ++ [v]
def met (val : Nat → κ) (i : Nat) : List κ := ((List.range i).map val).foldl one1 []
theorem qcR (val : Nat → κ) (i : Nat) : met val (i + 1) = one1 (met val i) (val i) := by
  unfold met
  rw [List.range_succ, List.map_append, List.foldl_append]
  rfl
theorem qeG (val : Nat → κ) : ∀ i, (met val i).length ≤ i
  | 0 => Nat.le_refl _
  | i + 1 => by
    rw [qcR]
    unfold one1
    have := qeG val i
    split
    · omega
    · rw [List.length_append, List.length_singleton]; omega
theorem qep (l : List κ) (v k : κ) : decide (k ∈ one1 l v) = (decide (k ∈ l) || decide (k = v)) := by
  unfold one1
  by_cases z : v ∈ l
  · rw [if_pos z]
    by_cases e : k = v
    · subst e; simp [z]
    · simp [e]
  · rw [if_neg z]
    simp
theorem qc4 (l : List κ) (v : κ) : (one1 l v).length = if decide (v ∈ l) = true then l.length else l.length + 1 := by
  unfold one1
  by_cases z : v ∈ l
  · simp [z]
  · simp [z]
theorem qdF {prog : Program} {w : World} {knd : KeyKind prog w κ} {h : Heap} {a : Addr} {S S' : κ → Bool} {n n' : Nat} (x : h.SetOf knd a S n) (e : ∀ k, S k = S' k) (en : n = n') : h.SetOf knd a S' n' := by
  obtain rfl : S = S' := funext e
  exact en ▸ x
end
section
variable {prog : Program} {w : World} {A : Around} {E : Value → Shared → Prop} {s : Shared} {κ : Type} [DecidableEq κ] {knd : KeyKind prog w κ}
abbrev qa9 (led : Bool) : Obj := { cls := .type "set", dict := none, data := .set #[] 0 (.fresh 0 0 led) }
end
end L2
namespace L2
open PySem
def NotPlain (w : World) (h : Heap) (a : Addr) : Prop := ∃ o es ep t, h.get? a = some o ∧ o.data = .set es ep t ∧ (t.plain = false ∨ es.size = 0) ∧ t.led = !(w.params.followText "set-order")
theorem stand_led (t : SetTable) (n : Nat) : (t.orStandIn n).led = t.led := by
  unfold SetTable.orStandIn
  split <;> rfl
theorem lay_led (t : SetTable) (es : Array (Int × Value)) (h : Int) (x : Value) : (layNew t es h x).2.1.led = t.led := by
  unfold layNew
  split
  · exact stand_led _ _
  · rfl
theorem relay_led (t : SetTable) (es : Array (Int × Value)) (n : Nat) : (relayAll t es n).2.1.led = t.led := by
  unfold relayAll
  cases e : t.relaid (es.map (·.1)) n with
  | none => rfl
  | some r =>
    obtain ⟨t', order⟩ := r
    dsimp only
    split
    · unfold SetTable.relaid SetTable.laid at e
      cases e1 : SetTable.layClean (SetTable.sizeAbove n - 1) (es.map (·.1)) with
      | none => rw [e1] at e; cases e
      | some ow =>
        rw [e1] at e
        cases e
        rfl
    · rfl
theorem relay_plain (t : SetTable) (es : Array (Int × Value)) (n : Nat) (h : t.plain = false) : (relayAll t es n).2.1.plain = false := by
  unfold relayAll
  cases e : t.relaid (es.map (·.1)) n with
  | none => rfl
  | some r =>
    obtain ⟨t', order⟩ := r
    dsimp only
    split
    · unfold SetTable.relaid SetTable.laid at e
      cases e1 : SetTable.layClean (SetTable.sizeAbove n - 1) (es.map (·.1)) with
      | none => rw [e1] at e; cases e
      | some ow =>
        rw [e1] at e
        cases e
        exact h
    · rfl
section
variable {prog : Program} {w : World} {A : Around} {E : Value → Shared → Prop} {s : Shared} {κ : Type} [DecidableEq κ] {knd : KeyKind prog w κ}
theorem qdR {g : Bool → Sem Unit} (hg : ∀ (b : Bool) (s1 : Shared) (Q1 : Unit → Shared → Prop), Q1 () s1 → wpAny (model prog w) A (g b) Q1 E s1) {a : Addr} {o : Obj} {es : Array (Int × Value)} {ep : Nat} {t : SetTable} (ho : s.heap.get? a = some o) (hex : o.ExactSet)
    (hd : o.data = .set es ep t) {es1 : Array (Int × Value)} {t2 : SetTable} {S' : κ → Bool} (hel : ElemsOf knd es1.toList) (hme : ∀ k', S' k' = true ↔ ∃ e ∈ es1.toList, knd.is k' e.2 = true) (hb : es1.size < scanBound) (hf : t2.fits es1.size = true) (hp2 : t2.plain = false) (hl2 : t2.led = !(w.params.followText "set-order"))
    {dm : Bool} {R : Option Bool → Shared → Prop} (fin : ∀ h', Heap.SameBut a s.heap h' → h'.SetOf knd a S' es1.size → NotPlain w h' a → R (some true) { s with heap := h' }) :
    wpAny (model prog w) A (do
      storeSet a es1 t2
      if (!dm && t2.tooFull) = true then do
          g (relayAll t2 es1 (SetTable.grown es1.size)).2.2
          storeSet a (relayAll t2 es1 (SetTable.grown es1.size)).1 (relayAll t2 es1 (SetTable.grown es1.size)).2.1
          pure (some true)
        else pure (some true)) R E s := by
  obtain ⟨g1, x1⟩ := SetOf_store (knd := knd) ho hex hd hel hme hb hf
  have b1 := Heap.SameBut.update s.heap a (Obj.putSet es1 t2)
  refine wpAny_bind (wpAny_storeSet_of ho hd ?_ (fits_of_scanBound hb))
  by_cases full : (!dm && t2.tooFull) = true
  · rw [if_pos full]
    have pm := relayAll_perm t2 es1 (SetTable.grown es1.size)
    have ft := relayAll_fits t2 es1 (SetTable.grown es1.size)
    have pl := relay_plain t2 es1 (SetTable.grown es1.size) hp2
    have ld := relay_led t2 es1 (SetTable.grown es1.size)
    generalize relayAll t2 es1 (SetTable.grown es1.size) = Z at pm ft pl ld ⊢
    obtain ⟨es2, t3, gv⟩ := Z
    dsimp only at pm ft pl ld ⊢
    have sz : es2.size = es1.size := by simpa using pm.length_eq
    have hb2 : es2.size < scanBound := by omega
    refine wpAny_bind (hg gv _ _ ?_)
    refine wpAny_bind (wpAny_storeSet_of g1 rfl ?_ (fits_of_scanBound hb2))
    obtain ⟨g2, x2⟩ := SetOf_store (knd := knd) (S' := S') g1 hex rfl (hel.perm pm) (fun k' => (hme k').trans ⟨fun z => ⟨z.choose, pm.mem_iff.mpr z.choose_spec.1, z.choose_spec.2⟩, fun z => ⟨z.choose, pm.mem_iff.mp z.choose_spec.1, z.choose_spec.2⟩⟩) hb2 ft
    rw [sz] at x2
    exact wpAny_pure (fin _ (b1.trans (Heap.SameBut.update _ a _)) x2 ⟨_, _, _, _, g2, rfl, .inl pl, ld.trans hl2⟩)
  · rw [if_neg full]
    exact wpAny_pure (fin _ b1 x1 ⟨_, _, _, _, g1, rfl, .inl hp2, hl2⟩)
theorem set_add {a : Addr} {S : κ → Bool} {n : Nat} {k : κ} {x : Str} {tk : Tok} {Q : Bool → Shared → Prop} (hkey : knd.is k (.str x tk) = true) (hS : s.heap.SetOf knd a S n) (hP : NotPlain w s.heap a) (room : n + 1 < scanBound)
    (fin : ∀ h', Heap.SameBut a s.heap h' → h'.SetOf knd a (fun k' => S k' || decide (k' = k)) (if S k then n else n + 1) → NotPlain w h' a → Q (!S k) { s with heap := h' }) :
    wpAny (model prog w) A (setAddHashed a (.str x tk) (knd.hash k)) Q E s := by
  obtain ⟨o, es, ep, t, ho, hex, hd, hel, hme, hb, hf, hn⟩ := hS
  unfold setAddHashed setAddHashedIn
  refine wpAny_holding (wpAny_bind (wpAny_setState_of ho hd hf ?_))
  dsimp only
  rw [byScan_of (x := .str x tk) rfl hb hel, if_pos rfl]
  unfold setAddByScan
  refine wpAny_bind (wpAny_bind (wpAny_rule (wpAny_bind (wpAny_setScan_of hkey ho hd hf hel ?_))))
  cases there : List.findIdx? (fun e => knd.is k e.2) es.toList with
  | some j =>
    dsimp only
    obtain ⟨hj, hpj, _⟩ := List.findIdx?_eq_some_iff_getElem.mp there
    have yes : S k = true := (hme k).mpr ⟨_, List.getElem_mem hj, hpj⟩
    refine wpAny_pure (wpAny_pure ?_)
    have q := fin s.heap (Heap.SameBut.refl a s.heap) ⟨o, es, ep, t, ho, hex, hd, hel, fun k' => ?_, hb, hf, by rw [if_pos yes]; exact hn⟩ hP
    · rw [yes] at q
      exact q
    · rw [← hme k', Bool.or_eq_true, decide_eq_true_eq]
      constructor
      · rintro (z | rfl)
        · exact z
        · exact yes
      · exact .inl
  | none =>
    dsimp only
    have no : S k = false := Bool.eq_false_iff.mpr fun z => by
      obtain ⟨e, he, hp⟩ := (hme k).mp z
      exact absurd hp (by rw [List.findIdx?_eq_none_iff.mp there e he]; exact Bool.false_ne_true)
    have pm := layNew_perm t es (knd.hash k) (.str x tk)
    have ft := layNew_fits t es (knd.hash k) (.str x tk)
    have ld := lay_led t es (knd.hash k) (.str x tk)
    have ld0 : t.led = !(w.params.followText "set-order") := by
      obtain ⟨o', es', ep', t', e1, e2, _, e3⟩ := hP
      rw [ho] at e1
      cases e1
      rw [hd] at e2
      cases e2
      exact e3
    rw [ld0] at ld
    generalize layNew t es (knd.hash k) (.str x tk) = Z at pm ft ld ⊢
    obtain ⟨es1, t1, dm, gv⟩ := Z
    dsimp only at pm ft ld ⊢
    rw [Array.toList_push] at pm
    have sz : es1.size = n + 1 := by
      have := pm.length_eq
      rw [List.length_append, Array.length_toList, Array.length_toList, hn] at this
      exact this
    have quiet : ∀ (b : Bool) (s1 : Shared) (Q1 : Unit → Shared → Prop), Q1 () s1 → wpAny (model prog w) A (match b with | true => rule "set.scan.the-table-gave-way" | false => pure ()) Q1 E s1 := fun b s1 Q1 q => by
      cases b with
      | true => exact wpAny_rule q
      | false => exact wpAny_pure q
    have last : ∀ h', Heap.SameBut a s.heap h' → h'.SetOf knd a (fun k' => S k' || decide (k' = k)) es1.size → NotPlain w h' a → Q true { s with heap := h' } := fun h' sb x' np => by
      have q := fin h' sb
      rw [no, if_neg Bool.false_ne_true, ← sz] at q
      exact q x' np
    refine wpAny_bind (quiet _ _ _ ?_)
    have el1 : ElemsOf knd es1.toList := (hel.push hkey rfl).perm pm
    have me1 := fun k' => mem_push_iff hkey hme pm k'
    have hb1 : es1.size < scanBound := by omega
    cases pl : t1.plain with
    | true =>
      rw [if_pos rfl, hashByValue_scannable 8 (x := .str x tk) rfl]
      refine wpAny_bind (wpAny_pure ?_)
      refine qdR quiet ho hex hd el1 me1 hb1 (t2 := { t1 with plain := false }) (SetTable.fits_plain_off ft) rfl ld fun h' sb x' np => ?_
      exact wpAny_pure (last h' sb x' np)
    | false =>
      rw [if_neg Bool.false_ne_true]
      refine wpAny_bind (wpAny_pure ?_)
      refine qdR quiet ho hex hd el1 me1 hb1 (t2 := t1) ft pl ld fun h' sb x' np => ?_
      exact wpAny_pure (last h' sb x' np)
end
end L2
namespace L2
open PySem PySem.Spec
theorem NotPlain.at {w : World} {h h' : Heap} {a : Addr} (x : NotPlain w h a) (k : ∀ o, h.get? a = some o → h'.get? a = some o) : NotPlain w h' a := by
  obtain ⟨o, es, ep, t, e, r⟩ := x
  exact ⟨o, es, ep, t, k _ e, r⟩
section
variable {prog : Program} {w : World} {A : Around} {E : Value → Shared → Prop} {s : Shared}
theorem set_new (a : Value) {Q1 : Value → Shared → Prop} (q : Q1 (.ref s.heap.objs.size) { s with heap := s.heap.push (qa9 (!(w.params.followText "set-order"))) }) :
    codeAny (model prog w) A (.call (.builtin "set.__new__") ⟨[.type "set", a], []⟩) (wants Q1 E) s := by
  refine codeAny_of_tree ?_
  show wpAny _ A.in1 (checkBuiltinCall "set.__new__" ⟨[.type "set", a], []⟩ >>= fun _ => again (.builtin "set.__new__" ⟨[.type "set", a], []⟩)) _ _ s
  refine wpAny_bind (wpAny_of_eq (F.newCall_set_1 a) (wpAny_pure ⟨plainId_quiet F.plain_set_new _, codeAny_builtin F.entry_set_new ?_⟩))
  rw [Around.under_plainId F.plain_set_new _]
  unfold Builtin.«set.__new__» Builtin.Frozenset.newClass
  have e1 := sub_set_self
  obtain ⟨h0, g0, d0, t0, o0⟩ := s
  dsimp only
  wp_walk
  refine wpAny_askSetting (wpAny_pure ?_)
  dsimp only
  simp only [newObj]
  exact wpAny_bind (wpAny_alloc (wpAny_pure (wpAny_pure q)))
end
section
variable {prog : Program} {w : World} {A : Around} {R : Result → Shared → Prop} {J : Addr} {fp wr : List Addr} {G : Array GenState → Array GenState → Prop} {n : Nat} {P : Nat → Value → Prop} {St : Nat → Shared → Prop} {κ : Type} [DecidableEq κ] {knd : KeyKind prog w κ}
theorem upd_loopS (W : WalksS prog w A.in1 J fp wr G n P St) (S : Addr) (nS : S ∉ fp) (val : Nat → κ) (hv : ∀ i v, P i v → ∃ x t, v = .str x t ∧ knd.is (val i) (.str x t) = true) (hb : n + 1 < scanBound) :
    ∀ (k i : Nat) (s : Shared), n - i = k → i ≤ n → St i s → s.heap.SetOf knd S (fun q => decide (q ∈ met val i)) (met val i).length → NotPlain w s.heap S →
      (∀ s', Moved (S :: wr) G s s' → s'.heap.SetOf knd S (fun q => decide (q ∈ met val n)) (met val n).length → NotPlain w s'.heap S → R (.ok (.ret .none)) s') →
      codeAny (model prog w) A (.builtin "set.update.loop" ⟨[.ref S, .ref J], []⟩) R s := by
  have nSw : S ∉ wr := fun q => nS (W.sub _ q)
  have sub : ∀ b ∈ wr, b ∈ S :: wr := fun b q => List.mem_cons_of_mem _ q
  intro k
  induction k with
  | zero =>
    intro i s hk hi st x np fin
    obtain rfl : i = n := by omega
    refine codeAny_builtin PyProof.Rows.F.entry_set_update_loop ?_
    rw [Around.under_plainId PyProof.Rows.F.plain_set_update_loop _]
    show wpAny (model prog w) A.in1 (pyNext (.ref J) >>= _) _ _ s
    refine wpAny_bind (W.done s _ _ st fun s1 mv => ?_)
    show wpAny (model prog w) A.in1 (ret Value.none) _ _ s1
    refine wpAny_pure (fin s1 (mv.mono sub) ?_ (np.at fun o e => mv.heap S _ nSw e))
    obtain ⟨o, es, ep, tb, ho, r⟩ := x
    exact ⟨o, es, ep, tb, mv.heap S _ nSw ho, r⟩
  | succ k ih =>
    intro i s hk hi st x np fin
    have lt : i < n := by omega
    refine codeAny_builtin PyProof.Rows.F.entry_set_update_loop ?_
    rw [Around.under_plainId PyProof.Rows.F.plain_set_update_loop _]
    show wpAny (model prog w) A.in1 (pyNext (.ref J) >>= _) _ _ s
    refine wpAny_bind (W.item i s _ _ lt st fun v s1 hP st1 mv => ?_)
    obtain ⟨tx, tt, rfl, kv⟩ := hv i v hP
    have np1 : NotPlain w s1.heap S := np.at fun o e => mv.heap S _ nSw e
    have x1 : s1.heap.SetOf knd S (fun q => decide (q ∈ met val i)) (met val i).length := by
      obtain ⟨o, es, ep, tb, ho, r⟩ := x
      exact ⟨o, es, ep, tb, mv.heap S _ nSw ho, r⟩
    show wpAny (model prog w) A.in1 (holding [Value.str tx tt] (setAdd S (Value.str tx tt)) >>= _) _ _ s1
    refine wpAny_bind (wpAny_holding ?_)
    unfold setAdd
    refine wpAny_holding ?_
    refine wpAny_bind (knd.pyHash kv ?_)
    have room : (met val i).length + 1 < scanBound := by have := qeG val i; omega
    refine set_add (knd := knd) (s := { s1 with toks := s1.toks + 1 }) kv x1 np1 room fun h' sb x2 np2 => ?_
    have x3 : h'.SetOf knd S (fun q => decide (q ∈ met val (i + 1))) (met val (i + 1)).length :=
      qdF x2 (fun q => by rw [qcR, qep]) (by rw [qcR, qc4])
    refine wpAny_pure ⟨plainId_quiet PyProof.Rows.F.plain_set_update_loop _, ih (i + 1) _ (by omega) lt (W.frame _ s1 _ _ st1 (Nat.le_succ _) fun b hb o e => ?_) x3 np2 fun s2 mv2 x4 np4 => ?_⟩
    · rw [sb.2 b (fun z : b = S => nS (by rw [← z]; exact hb))]; exact e
    · refine fin s2 (Moved.trans W.gtrans ((mv.mono sub).then_heap (Nat.le_succ _) fun b o hb e => ?_) mv2) x4 np4
      rw [sb.2 b (fun z : b = S => hb (by rw [z]; exact List.mem_cons_self))]; exact e
end
section
variable {prog : Program} {w : World} {A : Around} {E : Value → Shared → Prop} {s : Shared} {κ : Type} [DecidableEq κ] {knd : KeyKind prog w κ}
theorem set_fromS {l : Addr} {its : Array Value} {val : Nat → κ} {Q : Value → Shared → Prop} (hh : A.handled = none) (hl : s.heap.IsList l its) (hv : ∀ (i : Nat) (v : Value), its[i]? = some v → ∃ x t, v = .str x t ∧ knd.is (val i) (.str x t) = true)
    (hb : its.size + 1 < scanBound)
    (fin : ∀ (h' : Heap) (tk : Nat), h'.SetOf knd s.heap.objs.size (fun q => decide (q ∈ met val its.size)) (met val its.size).length → NotPlain w h' s.heap.objs.size → (∀ b o, b < s.heap.objs.size → s.heap.get? b = some o → h'.get? b = some o) →
      Q (.ref s.heap.objs.size) { s with heap := h', toks := tk }) :
    wpAny (model prog w) A (call (.type "set") [.ref l]) Q E s := by
  obtain ⟨c1, c2, m1⟩ := F.called_set.mro
  have m2 := F.called_set.made
  have m3 := F.called_set.sub
  refine wpAny_call (codeAny_of_tree ?_)
  show wpAny (model prog w) _ (callAny (.type "set") _) _ _ _
  refine wpAny_pure ⟨Code.quiet_builtin _ (by decide +kernel), codeAny_builtin F.entry_type_call ?_⟩
  rw [Around.under_plain (weight_type_call_type "set" [.ref l] []) rfl]
  have m4 := F.called_set.notType
  have m5 := F.called_set.canCreate
  have m6 := F.typeCall_set_1 (.ref l)
  repeat (any_goals (first | assumption | wp_step))
  refine codeAny_mono (set_new (.ref l) (E := E) (Q1 := fun ob s1 => ∃ led : Bool, ob = .ref s.heap.objs.size ∧ s1 = { s with heap := s.heap.push (qa9 led) } ∧ led = !(w.params.followText "set-order")) ⟨_, rfl, rfl, rfl⟩) fun r s1 hr => ?_
  rcases r with e | fl
  · exact hr
  rcases fl with _ | _ | _ | ob <;> first | exact hr.elim | skip
  obtain ⟨led, rfl, rfl, hled⟩ := hr
  have gS : (s.heap.push (qa9 led)).get? s.heap.objs.size = some (qa9 led) := Heap.get?_push_size _ rfl
  have tS : Shared.TypeIs { s with heap := s.heap.push (qa9 led) } (.ref s.heap.objs.size) "set" := ⟨_, gS, rfl⟩
  have q1 := F.called_set.init.lookup
  have q2 := F.called_set.init.bind (.ref s.heap.objs.size)
  repeat (any_goals (first | assumption | wp_step))
  refine codeAny_mono (codeAny_call_builtin (R := wants (fun r s2 => r = .none ∧ ∃ h' tk, s2 = { s with heap := h', toks := tk } ∧ h'.SetOf knd s.heap.objs.size (fun q => decide (q ∈ met val its.size)) (met val its.size).length ∧ NotPlain w h' s.heap.objs.size ∧
      (∀ b o, b < s.heap.objs.size → s.heap.get? b = some o → h'.get? b = some o)) E) F.called_set.init.plain F.entry_set_init (check_set_init_1 tS ?_)) fun r2 s2 hr2 => ?_
  · obtain ⟨ol, hol, hcl, nl, hdl⟩ := hl
    obtain ⟨z1, z2, z3, z4⟩ := ol
    simp only at hcl hdl
    subst hcl hdl
    have hol1 : (s.heap.push (qa9 led)).get? l = some ⟨.type "list", z2, .seq its nl, z4⟩ := Heap.get?_push_of_some _ hol
    have e1 := F.sub_list_set
    have e2 := F.sub_list_frozenset
    have e3 : (Value.type "list" == Value.type "dict") = false := by decide
    have il : (s.heap.push (qa9 led)).IsList l its := ⟨_, hol1, rfl, nl, rfl⟩
    unfold Builtin.«set.__init__» noKeywords Builtin.Frozenset.updateFrom
    generalize ePI : pyIter = PI
    wp_walk
    subst ePI
    refine wpAny_pyIter_list il ?_
    refine wpAny_bind (wpAny_runValue ?_)
    have lS : l < s.heap.objs.size := Heap.lt_size hol
    have h3 : A.in1.in1.in1.handled = none := by simp [hh]
    have nI : l ≠ (s.heap.push (qa9 led)).objs.size := by rw [Heap.size_push]; exact Nat.ne_of_lt (Nat.lt_succ_of_lt lS)
    have nS : s.heap.objs.size ∉ [(s.heap.push (qa9 led)).objs.size, l] := by
      rw [Heap.size_push]
      intro z
      rcases List.mem_cons.mp z with z | z
      · exact absurd z (Nat.ne_of_lt (Nat.lt_succ_self _))
      · rcases List.mem_cons.mp z with z | z
        · exact absurd z.symm (Nat.ne_of_lt lS)
        · cases z
    refine upd_loopS (knd := knd) ((Walks.list h3 _ l nI its).toS) s.heap.objs.size nS val hv hb (its.size - 0) 0 _ (by omega) (Nat.zero_le _) ⟨⟨_, Heap.get?_push_size _ rfl, rfl, rfl⟩, (il.push _)⟩ ?x0 ⟨_, _, _, _, Heap.get?_push_of_some _ gS, rfl, .inr rfl, hled⟩ ?xR
    case x0 =>
      exact qdF ((PyProof.Rows.setObjOf_fresh (knd := knd) led).setOf (Heap.get?_push_of_some _ gS) (by unfold scanBound; omega)) (fun q => by simp [met]) rfl
    case xR =>
      intro s' mv x np
      obtain ⟨h', g', d', tk', os'⟩ := s'
      obtain rfl : g' = s.gens := mv.gens
      obtain rfl : d' = s.drawn := mv.drawn
      obtain rfl : os' = s.os := mv.os
      show wpAny (model prog w) _ _ _ _ _
      refine wpAny_pure ?_
      show wpAny (model prog w) _ (ret Value.none) _ _ _
      refine wpAny_pure ⟨rfl, h', tk', rfl, x, np, fun b o hb e => ?_⟩
      refine mv.heap b o (fun z => ?_) (Heap.get?_push_of_some _ (Heap.get?_push_of_some _ e))
      rcases List.mem_cons.mp z with z | z
      · exact absurd z (Nat.ne_of_lt hb)
      · have z' : b = (s.heap.push (qa9 led)).objs.size := by simpa using z
        rw [Heap.size_push] at z'
        exact absurd z' (Nat.ne_of_lt (Nat.lt_succ_of_lt hb))
  · rcases r2 with e | fl2
    · exact hr2
    rcases fl2 with _ | _ | _ | r <;> first | exact hr2.elim | skip
    obtain ⟨rfl, h', tk, rfl, x, np, kp⟩ := hr2
    repeat (any_goals (first | assumption | wp_step))
    exact fin _ _ x np kp
end
end L2
namespace L2
open PySem
theorem sit_next : Slot "set_iterator" "__next__" "set_iterator.__next__" :=
  .of (owner := "set_iterator") (n := "__next__") (by rw [typeLookup_type, builtinLookup_eq_fast]; kernel_rfl) (by decide +kernel) (by decide +kernel) (by decide +kernel) (by first | exact .inl (by decide +kernel) | exact .inr (by decide +kernel)) (by rw [isSubtype_type]; kernel_rfl)
theorem sit_iter : Slot "set_iterator" "__iter__" "set_iterator.__iter__" :=
  .of (owner := "set_iterator") (n := "__iter__") (by rw [typeLookup_type, builtinLookup_eq_fast]; kernel_rfl) (by decide +kernel) (by decide +kernel) (by decide +kernel) (by first | exact .inl (by decide +kernel) | exact .inr (by decide +kernel)) (by rw [isSubtype_type]; kernel_rfl)
theorem ent_sit_next : entryFor table "set_iterator.__next__" = some Builtin.«set_iterator.__next__» := entryFor_of_tree (by kernel_rfl)
theorem ent_sit_iter : entryFor table "set_iterator.__iter__" = some Builtin.«dict_keyiterator.__iter__» :=
  entryFor_alias (id' := "dict_keyiterator.__iter__") (by kernel_rfl) (by first | rfl | decide +kernel) (by decide +kernel) (by kernel_rfl)
theorem ent_set_iter : entryFor table "set.__iter__" = some Builtin.«frozenset.__iter__» :=
  entryFor_alias (id' := "frozenset.__iter__") (by kernel_rfl) (by first | rfl | decide +kernel) (by decide +kernel) (by kernel_rfl)
theorem arg_sit_next (a : Value) : argsOk "set_iterator.__next__" ⟨[a], []⟩ := by unfold argsOk; kernel_rfl
theorem arg_sit_iter (a : Value) : argsOk "set_iterator.__iter__" ⟨[a], []⟩ := by unfold argsOk; kernel_rfl
def SIt (h : Heap) (it : Addr) (f : Value) (i : Nat) (d : Addr) (n ep : Nat) : Prop := h.get? it = some { cls := .type "set_iterator", data := .fields #[f, .int i 0, .ref d, .int n 0, .int ep 0] }
def SAt (h : Heap) (d : Addr) (es : Array (Int × Value)) (ep : Nat) (t : SetTable) : Prop := ∃ o, h.get? d = some o ∧ o.data = .set es ep t ∧ t.fits es.size = true
theorem qbS {α : Type} : ∀ (l : List α) (i : Nat) (h : i < l.length), List.Perm (l[i] :: l.eraseIdx i) l
  | x :: l, 0, h => List.Perm.refl _
  | x :: l, i + 1, h => by
    have hi : i < l.length := by simpa using h
    show List.Perm (l[i] :: x :: l.eraseIdx i) (x :: l)
    exact (List.Perm.swap _ _ _).trans (List.Perm.cons _ (qbS l i hi))
theorem qcp {α : Type} (next : Nat → Nat) : ∀ (fuel k : Nat) (left : List α) (out : Array α), left.length ≤ fuel → List.Perm (pickOrder.go next fuel k left out).toList (out.toList ++ left)
  | 0, k, left, out, h => by
    have : left = [] := List.length_eq_zero_iff.mp (by omega)
    subst this
    simp [pickOrder.go]
  | fuel + 1, k, left, out, h => by
    unfold pickOrder.go
    cases left with
    | nil => simp
    | cons y ys =>
      have hlt : next k % (y :: ys).length < (y :: ys).length := Nat.mod_lt _ (by simp)
      rw [List.getElem?_eq_getElem hlt]
      dsimp only
      refine (qcp next fuel (k + 1) _ _ (by rw [List.length_eraseIdx_of_lt hlt]; omega)).trans ?_
      rw [Array.toList_push, List.append_assoc]
      refine List.Perm.append_left _ ?_
      exact qbS _ _ hlt
theorem qcd {α : Type} (next : Nat → Nat) (xs : Array α) : List.Perm (pickOrder next xs).toList xs.toList := by
  have := qcp next xs.size 0 xs.toList #[] (by simp)
  simpa [pickOrder] using this
section
variable {prog : Program} {w : World} {A : Around} {E : Value → Shared → Prop} {s : Shared}
theorem choose_any {src : Source} {n : Nat} {Q : Nat → Shared → Prop} (hn : n ≠ 0) (q : ∀ k d', k < n → Q k { s with drawn := d' }) : wpAny (model prog w) A (choose src n) Q E s := fun Γ p hΓ => by
  show Sem.wp _ _ (Sem.choose _ _ Sem.pure) _ _ _ _
  rw [Sem.wp_choose]
  exact ⟨hn, q _ _ (Nat.mod_lt _ (Nat.pos_of_ne_zero hn))⟩
theorem qc7 {α : Type} : ∀ (n : Nat) (xs : List α) (s : Shared) (Q : List α → Shared → Prop), xs.length ≤ n → (∀ ys d', ys.Perm xs → Q ys { s with drawn := d' }) → wpAny (model prog w) A (drawOrder n xs) Q E s
  | 0, xs, s, Q, h, q => by
    have : xs = [] := List.length_eq_zero_iff.mp (by omega)
    subst this
    exact wpAny_pure (q [] s.drawn (List.Perm.refl _))
  | n + 1, [], s, Q, h, q => wpAny_pure (q [] s.drawn (List.Perm.refl _))
  | n + 1, x :: xs, s, Q, h, q => by
    unfold drawOrder
    refine wpAny_bind (choose_any (by simp) fun k d' hlt => ?_)
    rw [List.getElem?_eq_getElem hlt]
    dsimp only
    refine wpAny_bind (qc7 n _ _ _ (by rw [List.length_eraseIdx_of_lt hlt]; omega) fun ys d' pm => wpAny_pure ?_)
    exact q _ _ ((List.Perm.cons _ pm).trans (qbS _ _ hlt))
theorem qcF {it : Addr} {f : Value} {i d n ep : Nat} {Q : Option Value → Shared → Prop} (hit : SIt s.heap it f i d n ep)
    (h : wpAny (model prog w) A.in1 (Builtin.«set_iterator.__next__» ⟨[.ref it], []⟩) (fun fin s' => ∃ v, fin = .done (.ret v) ∧ Q (some v) s') (fun e s' => wpAny (model prog w) A (isInstance e (.type "StopIteration")) (fun b s2 => b = true ∧ Q none s2) E s') s) :
    wpAny (model prog w) A (pyNext (.ref it)) Q E s := by
  have hT : s.TypeIs (.ref it) "set_iterator" := ⟨_, hit, rfl⟩
  unfold pyNext
  refine wpAny_bind (wpAny_attempt (wpAny_callSpecial?_slot (name := Str.ofString "__next__") hT sit_next (wpAny_call_entry sit_next hT ent_sit_next ?_ (arg_sit_next _))))
  refine wpAny_mono h (fun fin s' q => ?_) fun e s' q => ?_
  · obtain ⟨v, rfl, q⟩ := q
    exact ⟨v, rfl, wpAny_pure q⟩
  · refine wpAny_bind (wpAny_mono q (fun b s2 z => ?_) fun _ _ z => z)
    obtain ⟨rfl, z⟩ := z
    exact wpAny_pure z
end
end L2
namespace L2
open PySem
section
variable {prog : Program} {w : World} {A : Around} {E : Value → Shared → Prop} {s : Shared}
theorem qcN {Q : Option Value → Shared → Prop} {R : PySem.Fin → Shared → Prop} (hh : A.handled = none) (s' : Shared) (hQ : ∀ h', (∀ b o, s'.heap.get? b = some o → h'.get? b = some o) → Q none { s' with heap := h' }) :
    wpAny (model prog w) A.in1 (newExc (.type "StopIteration") [] >>= raiseNew) R (fun e s' => wpAny (model prog w) A (isInstance e (.type "StopIteration")) (fun b s2 => b = true ∧ Q none s2) E s') s' := by
  refine wpAny_bind ?_
  simp only [newExc, newTuple]
  refine wpAny_bind (wpAny_newObj_type ?_ (by size_fits))
  refine wpAny_bind (m := firstArgMember _ _) (wpAny_of_eq (a := Value.none) (by first | rfl | (simp only [firstArgMember]; rfl)) ?_)
  refine wpAny_newObj_type ?_ (by size_fits)
  simp only [raiseNew]
  refine wpAny_bind (wpAny_handled ?_)
  rw [show A.in1.handled = none from hh]
  refine wpAny_bind (wpAny_pure (wpAny_throw ?_))
  refine wpAny_isInstance (T := "StopIteration") (b := true) ⟨_, Heap.get?_push_size _ rfl, rfl⟩ isSubtype_stop ?_
  exact ⟨rfl, hQ _ fun b o e => Heap.get?_push_of_some _ (Heap.get?_push_of_some _ e)⟩
theorem qby {it : Addr} {f : Value} {i d n ep : Nat} {es : Array (Int × Value)} {t : SetTable} {R : PySem.Fin → Shared → Prop} {Ex : Value → Shared → Prop} (hit : SIt s.heap it f i d n ep) (hs : SAt s.heap d es ep t) (hn : es.size = n)
    (h : wpAny (model prog w) A (match f with
      | .int slot _ => do
        match ← setNext d slot.toNat i ep with
        | some (x, next) => do
          setField (.ref it) 0 (rawInt next)
          setField (.ref it) 1 (rawInt ((i : Int) + 1))
          ret x
        | none => do setField (.ref it) 2 .none; (newExc (.type "StopIteration") [] >>= raiseNew)
      | first => do
        let some places ← seqItems? first | unsupported "internal:set_iterator"
        match places[i]? with
        | some (.int place _) => do
          let x ← setNextDrawn d place.toNat ep
          setField (.ref it) 1 (rawInt ((i : Int) + 1))
          ret x
        | some _ => unsupported "internal:set_iterator"
        | none => do setField (.ref it) 0 (rawInt 0); setField (.ref it) 2 .none; (newExc (.type "StopIteration") [] >>= raiseNew)) R Ex s) :
    wpAny (model prog w) A (Builtin.«set_iterator.__next__» ⟨[.ref it], []⟩) R Ex s := by
  obtain ⟨o, ho, hd, hf⟩ := hs
  unfold Builtin.«set_iterator.__next__»
  refine wpAny_bind (wpAny_pure ?_)
  refine wpAny_bind (wpAny_fieldsOf hit rfl ?_)
  dsimp only
  refine wpAny_bind (wpAny_setEntries_of ho hd hf ?_)
  rw [hn, if_neg (by simp)]
  cases f with
  | int slot tk => exact h
  | _ => exact h
end
end L2
namespace L2
open PySem
theorem SIt.turn {h : Heap} {it : Addr} {f : Value} {i d n ep : Nat} (x : SIt h it f i d n ep) : SIt (h.update it (Obj.mapFields (·.setIfInBounds 1 (rawInt ((i : Int) + 1))))) it f (i + 1) d n ep := by
  unfold SIt
  rw [Heap.get?_update_self _ x rfl]
  rfl
theorem SIt.slot {h : Heap} {it : Addr} {f : Value} {i d n ep : Nat} (x : SIt h it f i d n ep) (k : Nat) : SIt (h.update it (Obj.mapFields (·.setIfInBounds 0 (rawInt k)))) it (.int k 0) i d n ep := by
  unfold SIt
  rw [Heap.get?_update_self _ x rfl]
  rfl
theorem SIt.at {h h' : Heap} {it : Addr} {f : Value} {i d n ep : Nat} (x : SIt h it f i d n ep) (k : ∀ o, h.get? it = some o → h'.get? it = some o) : SIt h' it f i d n ep := k _ x
theorem SAt.at {h h' : Heap} {d : Addr} {es : Array (Int × Value)} {ep : Nat} {t : SetTable} (x : SAt h d es ep t) (k : ∀ o, h.get? d = some o → h'.get? d = some o) : SAt h' d es ep t := by
  obtain ⟨o, e, r⟩ := x
  exact ⟨o, k _ e, r⟩
theorem qaG {h : Heap} {it b : Addr} {f : Obj → Obj} {o : Obj} (hb : b ≠ it) (e : h.get? b = some o) : (h.update it f).get? b = some o := (Heap.get?_update_other _ _ (Ne.symm hb)).trans e
def TAt (h : Heap) (T : Addr) (pl : List Nat) : Prop := h.get? T = some { cls := .type "tuple", data := .seq (pl.map fun p : Nat => rawInt p).toArray }
def Eqg (a b : Array GenState) : Prop := b = a
section
variable {prog : Program} {w : World} {A : Around}
theorem qcm {it : Addr} {f : Value} {i d n ep : Nat} {s : Shared} {Q : Value → Shared → Prop} {E : Value → Shared → Prop} (x : SIt s.heap it f i d n ep) (q : Q (.ref it) s) : wpAny (model prog w) A (pyIter (.ref it)) Q E s := by
  have hT : s.TypeIs (.ref it) "set_iterator" := ⟨_, x, rfl⟩
  refine wpAny_pyIter_slot hT sit_iter (wpAny_call_entry sit_iter hT ent_sit_iter ?_ (arg_sit_iter _))
  show wpAny _ _ (ret (.ref it)) _ _ s
  exact wpAny_pure ⟨_, rfl, "set_iterator", _, hT, sit_next.lookup, q⟩
theorem qbx {it : Addr} {s : Shared} {h' : Heap} (k : ∀ b o, b ≠ it → s.heap.get? b = some o → h'.get? b = some o) : Moved [it] Eqg s { s with heap := h' } :=
  ⟨fun b o hb e => k b o (by simpa using hb) e, rfl, rfl, rfl, Nat.le_refl _⟩
theorem walk_drawn (hh : A.handled = none) {it d T : Addr} (n1 : d ≠ it) (n2 : T ≠ it) {es : Array (Int × Value)} {ep : Nat} {t : SetTable} {pl : List Nat} {ord : List (Int × Value)} (hl : ord.length = es.size) (hp : ∀ i, i < es.size → ∃ p e, pl[i]? = some p ∧ es[p]? = some e ∧ ord[i]? = some e) (hpl : pl.length = es.size) :
    WalksS prog w A it [it, d, T] [it] Eqg es.size (fun i v => ∃ e, ord[i]? = some e ∧ e.2 = v) (fun i s => SIt s.heap it (.ref T) i d es.size ep ∧ SAt s.heap d es ep t ∧ TAt s.heap T pl) where
  sub := fun b hb => by simp at hb; simp [hb]
  grefl := fun _ => rfl
  gtrans := fun _ _ _ h1 h2 => h2.trans h1
  frame := fun i s h' tk st _ k => ⟨st.1.at fun o e => k it (by simp) o e, st.2.1.at fun o e => k d (by simp) o e, k T (by simp) _ st.2.2⟩
  item := fun i s Q E hi st q => by
    obtain ⟨x1, x2, x3⟩ := st
    obtain ⟨p, e, e1, e2, e3⟩ := hp i hi
    refine qcF x1 (qby x1 x2 rfl ?_)
    refine wpAny_bind (wpAny_seqItems x3 rfl ?_)
    dsimp only
    have ep1 : ((pl.map fun p : Nat => rawInt p).toArray)[i]? = some (.int p 0) := by simp [e1, rawInt]
    rw [ep1]
    dsimp only
    obtain ⟨o, ho, hd, hf⟩ := id x2
    refine wpAny_bind ?_
    unfold setNextDrawn
    refine wpAny_bind (wpAny_setState_of ho hd hf ?_)
    dsimp only
    rw [if_neg (by simp), Int.toNat_natCast, e2]
    refine wpAny_pure ?_
    refine wpAny_bind (wpAny_setField x1 rfl (by simp) ?_)
    refine wpAny_pure ⟨_, rfl, q _ _ ⟨e, e3, rfl⟩ ⟨x1.turn, x2.at fun o z => qaG n1 z, qaG n2 x3⟩ (qbx fun b o hb z => qaG hb z)⟩
  done := fun s Q E st q => by
    obtain ⟨x1, x2, x3⟩ := st
    refine qcF x1 (qby x1 x2 rfl ?_)
    refine wpAny_bind (wpAny_seqItems x3 rfl ?_)
    dsimp only
    have ep1 : ((pl.map fun p : Nat => rawInt p).toArray)[es.size]? = none := by simp [hpl]
    rw [ep1]
    dsimp only
    refine wpAny_bind (wpAny_setField x1 rfl (by simp) ?_)
    refine wpAny_bind (wpAny_setField (x1.slot 0) rfl (by simp) ?_)
    refine qcN hh _ fun h' k => q _ (qbx fun b o hb z => k b o (qaG hb (qaG hb z)))
  self := fun i s Q E st q => qcm st.1 q
theorem walk_text (hh : A.handled = none) (hT : w.params.followText "set-order" = true) {it d : Addr} (n1 : d ≠ it) {es : Array (Int × Value)} {ep : Nat} {t : SetTable} :
    WalksS prog w A it [it, d] [it] Eqg es.size (fun i v => ∃ e, (pickOrder (w.params.setOrder d ep) es).toList[i]? = some e ∧ e.2 = v) (fun i s => (∃ k : Nat, SIt s.heap it (.int k 0) i d es.size ep) ∧ SAt s.heap d es ep t) where
  sub := fun b hb => by simp at hb; simp [hb]
  grefl := fun _ => rfl
  gtrans := fun _ _ _ h1 h2 => h2.trans h1
  frame := fun i s h' tk st _ k => ⟨st.1.imp fun _ z => z.at fun o e => k it (by simp) o e, st.2.at fun o e => k d (by simp) o e⟩
  item := fun i s Q E hi st q => by
    obtain ⟨⟨k, x1⟩, x2⟩ := st
    have sz : (pickOrder (w.params.setOrder d ep) es).size = es.size := by simpa using (qcd (w.params.setOrder d ep) es).length_eq
    have hi' : i < (pickOrder (w.params.setOrder d ep) es).size := by rw [sz]; exact hi
    refine qcF x1 (qby x1 x2 rfl ?_)
    dsimp only
    obtain ⟨o, ho, hd, hf⟩ := id x2
    refine wpAny_bind ?_
    unfold setNext setsByText
    refine wpAny_bind (wpAny_setState_of ho hd hf ?_)
    refine wpAny_bind (wpAny_bind (wpAny_askSetting (wpAny_pure ?_)))
    show wpAny _ _ (if (w.params.followText "set-order") = true then _ else _) _ _ _
    rw [if_pos hT, if_neg (by simp)]
    refine wpAny_bind ?_
    unfold setWalk setsByText
    refine wpAny_bind (wpAny_setState_of ho hd hf ?_)
    refine wpAny_bind (wpAny_bind (wpAny_askSetting (wpAny_pure ?_)))
    show wpAny _ _ (if (w.params.followText "set-order") = true then _ else _) _ _ _
    rw [if_pos hT]
    refine wpAny_bind (wpAny_askSetting (wpAny_pure ?_))
    refine wpAny_pure ?_
    have eg : (pickOrder ((model prog w).w.params.setOrder d ep) es)[i]? = some ((pickOrder (w.params.setOrder d ep) es)[i]) := Array.getElem?_eq_getElem hi'
    rw [eg]
    dsimp only [Option.map_some]
    refine wpAny_bind (wpAny_setField x1 rfl (by simp) ?_)
    refine wpAny_bind (wpAny_setField (x1.slot _) rfl (by simp) ?_)
    refine wpAny_pure ⟨_, rfl, q _ _ ⟨_, by rw [Array.getElem?_toList, Array.getElem?_eq_getElem hi'], rfl⟩ ⟨⟨_, (x1.slot _).turn⟩, x2.at fun o z => qaG n1 (qaG n1 z)⟩ (qbx fun b o hb z => qaG hb (qaG hb z))⟩
  done := fun s Q E st q => by
    obtain ⟨⟨k, x1⟩, x2⟩ := st
    have sz : (pickOrder (w.params.setOrder d ep) es).size = es.size := by simpa using (qcd (w.params.setOrder d ep) es).length_eq
    refine qcF x1 (qby x1 x2 rfl ?_)
    dsimp only
    obtain ⟨o, ho, hd, hf⟩ := id x2
    refine wpAny_bind ?_
    unfold setNext setsByText
    refine wpAny_bind (wpAny_setState_of ho hd hf ?_)
    refine wpAny_bind (wpAny_bind (wpAny_askSetting (wpAny_pure ?_)))
    show wpAny _ _ (if (w.params.followText "set-order") = true then _ else _) _ _ _
    rw [if_pos hT, if_neg (by simp)]
    refine wpAny_bind ?_
    unfold setWalk setsByText
    refine wpAny_bind (wpAny_setState_of ho hd hf ?_)
    refine wpAny_bind (wpAny_bind (wpAny_askSetting (wpAny_pure ?_)))
    show wpAny _ _ (if (w.params.followText "set-order") = true then _ else _) _ _ _
    rw [if_pos hT]
    refine wpAny_bind (wpAny_askSetting (wpAny_pure ?_))
    refine wpAny_pure ?_
    have eg : (pickOrder ((model prog w).w.params.setOrder d ep) es)[es.size]? = none := Array.getElem?_eq_none (by show (pickOrder (w.params.setOrder d ep) es).size ≤ es.size; omega)
    rw [eg]
    dsimp only [Option.map_none]
    refine wpAny_bind (wpAny_setField x1 rfl (by simp) ?_)
    refine qcN hh _ fun h' k => q _ (qbx fun b o hb z => k b o (qaG hb z))
  self := fun i s Q E st q => by
    obtain ⟨k, x1⟩ := st.1
    exact qcm x1 q
end
end L2
namespace L2
open PySem
theorem qc8 {xs : Array Nat} {j : Nat} (h : xs.size = 1) : SetTable.below xs j = if xs.getD 0 j < j then 1 else 0 := by
  unfold SetTable.below
  rw [h]
  show (if 0 < 1 then if xs.getD ((0 + 1) / 2) j < j then SetTable.below.go xs j 0 ((0 + 1) / 2 + 1) 1 else SetTable.below.go xs j 0 0 ((0 + 1) / 2) else 0) = _
  rw [if_pos (by decide)]
  rfl
section
variable {prog : Program} {w : World} {A : Around} {E : Value → Shared → Prop} {s : Shared}
theorem qcM (hT : w.params.followText "set-order" = false) {d : Addr} {es : Array (Int × Value)} {ep k i : Nat} {t : SetTable} (x : SAt s.heap d es ep t) (h1 : es.size ≤ 1) (hL : t.led = true) {Q : Option (Value × Nat) → Shared → Prop}
    (q : Q (match es[SetTable.below t.place k]?, t.place[SetTable.below t.place k]? with | some (_, x), some j => some (x, j + 1) | _, _ => none) s) : wpAny (model prog w) A (setNext d k i ep) Q E s := by
  obtain ⟨o, ho, hd, hf⟩ := x
  unfold setNext setsByText
  refine wpAny_bind (wpAny_setState_of ho hd hf ?_)
  refine wpAny_bind (wpAny_bind (wpAny_askSetting (wpAny_pure ?_)))
  show wpAny _ _ (if (w.params.followText "set-order") = true then _ else _) _ _ _
  rw [hT, if_neg Bool.false_ne_true]
  have e1 : (!t.plain && decide (es.size > 1)) = false := by rw [decide_eq_false (by omega), Bool.and_false]
  show wpAny _ _ (if (!t.plain && decide (es.size > 1)) = true then _ else _) _ _ _
  rw [e1, if_neg Bool.false_ne_true]
  refine wpAny_bind ?_
  show wpAny _ _ (if (!t.led && !es.isEmpty) = true then _ else _) _ _ _
  rw [hL, if_neg (by simp)]
  exact wpAny_pure (wpAny_pure q)
theorem walk_small (hh : A.handled = none) (hT : w.params.followText "set-order" = false) {it d : Addr} (n1 : d ≠ it) {es : Array (Int × Value)} {ep : Nat} {t : SetTable} (h1 : es.size ≤ 1) (hL : t.led = true) :
    WalksS prog w A it [it, d] [it] Eqg es.size (fun i v => ∃ e, es.toList[i]? = some e ∧ e.2 = v)
      (fun i s => ((i = 0 ∧ SIt s.heap it (.int ((0 : Nat) : Int) 0) 0 d es.size ep) ∨ (i = 1 ∧ ∃ j : Nat, t.place[0]? = some j ∧ SIt s.heap it (.int ((j + 1 : Nat) : Int) 0) 1 d es.size ep)) ∧ SAt s.heap d es ep t) where
  sub := fun b hb => by simp at hb; simp [hb]
  grefl := fun _ => rfl
  gtrans := fun _ _ _ h1 h2 => h2.trans h1
  frame := fun i s h' tk st _ k => by
    refine ⟨?_, st.2.at fun o e => k d (by simp) o e⟩
    rcases st.1 with ⟨z, x⟩ | ⟨z, j, zj, x⟩
    · exact .inl ⟨z, x.at fun o e => k it (by simp) o e⟩
    · exact .inr ⟨z, j, zj, x.at fun o e => k it (by simp) o e⟩
  item := fun i s Q E hi st q => by
    obtain ⟨st, x2⟩ := st
    have sz : es.size = 1 := by omega
    rcases st with ⟨rfl, x1⟩ | ⟨rfl, _⟩
    case inr => omega
    obtain ⟨o, ho, hd, hf⟩ := id x2
    have ps : t.place.size = 1 := by
      have := hf
      simp only [SetTable.fits, Bool.and_eq_true, beq_iff_eq] at this
      omega
    have b0 : SetTable.below t.place 0 = 0 := by rw [qc8 ps, if_neg (Nat.not_lt_zero _)]
    obtain ⟨e, ee⟩ : ∃ e, es[0]? = some e := ⟨es[0], by simp [sz]⟩
    obtain ⟨j, ej⟩ : ∃ j, t.place[0]? = some j := ⟨t.place[0], by simp [ps]⟩
    refine qcF x1 (qby x1 x2 rfl ?_)
    dsimp only
    refine wpAny_bind (qcM hT x2 h1 hL ?_)
    rw [Int.toNat_natCast, b0, ee, ej]
    dsimp only
    refine wpAny_bind (wpAny_setField x1 rfl (by simp) ?_)
    refine wpAny_bind (wpAny_setField (x1.slot _) rfl (by simp) ?_)
    refine wpAny_pure ⟨_, rfl, q _ _ ⟨e, by rw [Array.getElem?_toList, ee], rfl⟩ ⟨.inr ⟨rfl, j, ej, (x1.slot _).turn⟩, x2.at fun o z => qaG n1 (qaG n1 z)⟩ (qbx fun b o hb z => qaG hb (qaG hb z))⟩
  done := fun s Q E st q => by
    obtain ⟨st, x2⟩ := st
    obtain ⟨o, ho, hd, hf⟩ := id x2
    have ps : t.place.size = es.size := by
      have := hf
      simp only [SetTable.fits, Bool.and_eq_true, beq_iff_eq] at this
      omega
    have fin : ∀ (k : Nat), SIt s.heap it (.int (k : Int) 0) es.size d es.size ep → es[SetTable.below t.place k]? = none → wpAny (model prog w) A (pyNext (.ref it)) Q E s := fun k x1 en => by
      refine qcF x1 (qby x1 x2 rfl ?_)
      dsimp only
      refine wpAny_bind (qcM hT x2 h1 hL ?_)
      rw [Int.toNat_natCast, en]
      dsimp only
      refine wpAny_bind (wpAny_setField x1 rfl (by simp) ?_)
      refine qcN hh _ fun h' k => q _ (qbx fun b o hb z => k b o (qaG hb z))
    rcases st with ⟨z, x1⟩ | ⟨z, j, ej, x1⟩
    · have x1' : SIt s.heap it (.int ((0 : Nat) : Int) 0) es.size d es.size ep := by rw [z] at x1 ⊢; exact x1
      refine fin 0 x1' ?_
      rw [Array.getElem?_eq_none (by omega)]
    · have x1' : SIt s.heap it (.int ((j + 1 : Nat) : Int) 0) es.size d es.size ep := by rw [z] at x1 ⊢; exact x1
      refine fin (j + 1) x1' ?_
      have lt : t.place.getD 0 (j + 1) < j + 1 := by
        rw [Array.getD_eq_getD_getElem?, ej]
        exact Nat.lt_succ_self _
      rw [qc8 (by omega), if_pos lt, Array.getElem?_eq_none (by omega)]
  self := fun i s Q E st q => by
    rcases st.1 with ⟨_, x⟩ | ⟨_, _, _, x⟩ <;> exact qcm x q
theorem iter_set {d : Addr} {es : Array (Int × Value)} {ep : Nat} {t : SetTable} {o : Obj} (hh : A.handled = none) (ho : s.heap.get? d = some o) (hex : o.ExactSet) (hd : o.data = .set es ep t) (hf : t.fits es.size = true) (hb : es.size ≤ sizeLine)
    (hp : t.plain = false ∨ es.size = 0) (hL : t.led = !(w.params.followText "set-order")) {Q : Value → Shared → Prop}
    (q : ∀ (it : Addr) (fp : List Addr) (h' : Heap) (d' : Drawn) (ord : List (Int × Value)) (St : Nat → Shared → Prop), s.heap.objs.size ≤ it → it < h'.objs.size → (∀ b o, s.heap.get? b = some o → h'.get? b = some o) → (∀ b ∈ fp, b = d ∨ (s.heap.objs.size ≤ b ∧ b < h'.objs.size)) → ord.Perm es.toList →
      (∀ A' : Around, A'.handled = none → WalksS prog w A' it fp [it] Eqg es.size (fun i v => ∃ e, ord[i]? = some e ∧ e.2 = v) St) → St 0 { s with heap := h', drawn := d' } → Q (.ref it) { s with heap := h', drawn := d' }) :
    wpAny (model prog w) A (pyIter (.ref d)) Q E s := by
  have hT : s.TypeIs (.ref d) "set" := ⟨o, ho, hex.1⟩
  have dlt := Heap.lt_size ho
  have xd : SAt s.heap d es ep t := ⟨o, ho, hd, hf⟩
  refine wpAny_pyIter_slot hT F.slot_set_iter (wpAny_call_entry F.slot_set_iter hT ent_set_iter ?_ (F.args_set_iter_1 _))
  unfold Builtin.«frozenset.__iter__»
  refine wpAny_bind (wpAny_pure ?_)
  unfold Builtin.Frozenset.sizeOf setDrawn setsByText setEpoch
  refine wpAny_bind (wpAny_bind (wpAny_setEntries_of ho hd hf (wpAny_pure ?_)))
  refine wpAny_bind (wpAny_bind (wpAny_setState_of ho hd hf (wpAny_bind (wpAny_bind (wpAny_askSetting (wpAny_pure (wpAny_pure ?_)))))))
  show wpAny _ _ (if (!(w.params.followText "set-order") && (!t.plain && decide (es.size > 1))) = true then _ else _) _ _ _
  have push_lt : ∀ {h : Heap} {o1 : Obj}, h.objs.size < (h.push o1).objs.size := fun {h o1} => by rw [Heap.size_push]; exact Nat.lt_succ_self _
  by_cases dr : (!(w.params.followText "set-order") && (!t.plain && decide (es.size > 1))) = true
  · rw [if_pos dr]
    refine wpAny_bind (qc7 _ _ _ _ (by simp) fun pl d' pm => ?_)
    have pll : pl.length = es.size := by simpa using pm.length_eq
    refine wpAny_bind (wpAny_newObj_type ?_ ?zz)
    case zz => show (List.map _ pl).toArray.size ≤ sizeLine; rw [List.size_toArray, List.length_map]; omega
    refine wpAny_bind (wpAny_bind (wpAny_setState_of (s := { s with heap := _, drawn := d' }) (Heap.get?_push_of_some _ ho) hd hf (wpAny_pure ?_)))
    refine wpAny_bind (wpAny_newObj_type (wpAny_pure ⟨_, rfl, "set_iterator", _, ⟨_, Heap.get?_push_size _ rfl, rfl⟩, sit_next.lookup, ?_⟩))
    have inb : ∀ p ∈ pl, p < es.size := fun p hp => by simpa using pm.mem_iff.mp hp
    have e0 : (pl.map fun p => es.toList.getD p (0, .none)).Perm es.toList := by
      refine (pm.map _).trans (List.Perm.of_eq ?_)
      apply List.ext_getElem?
      intro i
      rw [List.getElem?_map]
      by_cases hi : i < es.size
      · rw [List.getElem?_range hi]
        simp [hi]
      · rw [List.getElem?_eq_none (by simpa using hi), List.getElem?_eq_none (by simpa using hi)]
        rfl
    rw [Heap.size_push]
    refine q (s.heap.objs.size + 1) [s.heap.objs.size + 1, d, s.heap.objs.size] _ d' (pl.map fun p => es.toList.getD p (0, .none)) (fun i s1 => SIt s1.heap (s.heap.objs.size + 1) (.ref s.heap.objs.size) i d es.size ep ∧ SAt s1.heap d es ep t ∧ TAt s1.heap s.heap.objs.size pl) (Nat.le_succ _) ?_ (fun b o e => Heap.get?_push_of_some _ (Heap.get?_push_of_some _ e)) (fun b hb => ?_) e0 (fun A' hA => ?_) ⟨?_, (xd.at fun o e => Heap.get?_push_of_some _ (Heap.get?_push_of_some _ e)), Heap.get?_push_of_some _ (Heap.get?_push_size _ rfl)⟩
    · rw [Heap.size_push, Heap.size_push]; exact Nat.lt_succ_self _
    · rcases List.mem_cons.mp hb with rfl | hb
      · exact .inr ⟨Nat.le_succ _, by rw [Heap.size_push, Heap.size_push]; exact Nat.lt_succ_self _⟩
      · rcases List.mem_cons.mp hb with rfl | hb
        · exact .inl rfl
        · have : b = s.heap.objs.size := by simpa using hb
          subst this
          exact .inr ⟨Nat.le_refl _, by rw [Heap.size_push, Heap.size_push]; exact Nat.lt_succ_of_lt (Nat.lt_succ_self _)⟩
    · refine walk_drawn hA (Nat.ne_of_lt (Nat.lt_succ_of_lt dlt)) (Nat.ne_of_lt (Nat.lt_succ_self _)) (by rw [List.length_map, pll]) (fun i hi => ?_) pll
      have hi' : i < pl.length := by omega
      have hp := inb pl[i] (List.getElem_mem hi')
      exact ⟨pl[i], es[pl[i]], by simp [hi'], by simp [hp], by simp [hi', hp]⟩
    · have ez : s.heap.objs.size + 1 = (s.heap.push { cls := .type "tuple", data := .seq (pl.map fun i : Nat => rawInt i).toArray }).objs.size := by rw [Heap.size_push]
      unfold SIt
      rw [ez]
      exact Heap.get?_push_size _ rfl
  · rw [if_neg dr]
    refine wpAny_bind (wpAny_pure ?_)
    refine wpAny_bind (wpAny_bind (wpAny_setState_of ho hd hf (wpAny_pure ?_)))
    refine wpAny_bind (wpAny_newObj_type (wpAny_pure ⟨_, rfl, "set_iterator", _, ⟨_, Heap.get?_push_size _ rfl, rfl⟩, sit_next.lookup, ?_⟩))
    have hfp : ∀ {h' : Heap}, h'.objs.size = s.heap.objs.size + 1 → ∀ b ∈ [s.heap.objs.size, d], b = d ∨ (s.heap.objs.size ≤ b ∧ b < h'.objs.size) := fun {h'} hz b hb => by
      rcases List.mem_cons.mp hb with rfl | hb
      · exact .inr ⟨Nat.le_refl _, by rw [hz]; exact Nat.lt_succ_self _⟩
      · exact .inl (by simpa using hb)
    cases hTx : w.params.followText "set-order" with
    | true =>
      refine q _ [s.heap.objs.size, d] _ s.drawn (pickOrder (w.params.setOrder d ep) es).toList (fun i s1 => (∃ k : Nat, SIt s1.heap s.heap.objs.size (.int k 0) i d es.size ep) ∧ SAt s1.heap d es ep t) (Nat.le_refl _) push_lt (fun b o e => Heap.get?_push_of_some _ e) (hfp (by rw [Heap.size_push])) (qcd _ _) (fun A' hA => walk_text hA hTx (Nat.ne_of_lt dlt)) ⟨⟨0, Heap.get?_push_size _ rfl⟩, xd.at fun o e => Heap.get?_push_of_some _ e⟩
    | false =>
      have h1 : es.size ≤ 1 := by
        rw [hTx] at dr
        rcases hp with hp | hp
        · rw [hp] at dr
          simp at dr
          omega
        · omega
      refine q _ [s.heap.objs.size, d] _ s.drawn es.toList _ (Nat.le_refl _) push_lt (fun b o e => Heap.get?_push_of_some _ e) (hfp (by rw [Heap.size_push])) (List.Perm.refl _) (fun A' hA => walk_small hA hTx (t := t) (ep := ep) (Nat.ne_of_lt dlt) h1 (by rw [hL, hTx]; rfl)) ⟨.inl ⟨rfl, Heap.get?_push_size _ rfl⟩, xd.at fun o e => Heap.get?_push_of_some _ e⟩
end
end L2
namespace L2
open PySem PyProof.Rows
section
variable {prog : Program} {w : World} {A : Around} {E : Value → Shared → Prop} {s : Shared}
theorem hint_set {r : Addr} {Q : Bool → Shared → Prop} (hT : s.TypeIs (.ref r) "set") (h : Q false s) : wpAny (model prog w) A (Builtin.List.listLengthHint (.ref r)) Q E s := by
  unfold Builtin.List.listLengthHint
  refine wpAny_bind (wpAny_specialOf hT PySem.F.slot_set_len.lookup ?_)
  generalize eid : ("set.__len__" : String) = nm
  wp_delta
  rw [show splitId nm = some ("set", "__len__") from by subst eid; decide +kernel]
  subst eid
  refine wpAny_bind (wpAny_isInstance (T := "set") (b := true) hT (by rw [isSubtype_type]; kernel_rfl) ?_)
  refine wpAny_ite_split (fun z => absurd z (by decide)) (fun _ => ?_)
  refine wpAny_ite_split (fun _ => ?_) (fun z => absurd (by decide +kernel) z)
  exact wpAny_bind (wpAny_typeOf hT (wpAny_pure h))
theorem set_collect {d : Addr} {es : Array (Int × Value)} {ep : Nat} {t : SetTable} {o : Obj} (hh : A.handled = none) (ho : s.heap.get? d = some o) (hex : o.ExactSet) (hd : o.data = .set es ep t) (hf : t.fits es.size = true) (hb : es.size ≤ sizeLine)
    (hp : t.plain = false ∨ es.size = 0) (hL : t.led = !(w.params.followText "set-order")) {R : List Value → Shared → Prop}
    (fin : ∀ (h' : Heap) (tk : Nat) (d' : Drawn) (ord : List (Int × Value)), (∀ b o, s.heap.get? b = some o → h'.get? b = some o) → ord.Perm es.toList → R (ord.map (·.2)) { s with heap := h', toks := tk, drawn := d' }) :
    wpAny (model prog w) A (collect (.ref d)) R E s := by
  have dlt := Heap.lt_size ho
  unfold collect
  refine wpAny_bind (wpAny_runValue (codeAny_builtin entry_proto_collect' ?_))
  rw [Around.under_plainId PySem.F.plain_proto_collect _]
  show wpAny _ A.in1 (newList [] >>= fun l => again (.builtin "list.__iadd__" ⟨[l, .ref d], []⟩)) _ _ s
  refine wpAny_bind (wpAny_newObj_type ?_)
  refine wpAny_pure ⟨plainId_quiet PySem.F.plain_list_iadd _, codeAny_builtin entry_list_iadd' ?_⟩
  rw [Around.under_plainId PySem.F.plain_list_iadd _]
  show wpAny _ A.in1 (Builtin.List.listExtendWith (.ref s.heap.objs.size) (.ref d) (.ref s.heap.objs.size)) _ _ { s with heap := s.heap.push { cls := .type "list", data := .seq ([] : List Value).toArray } }
  have g0 : (s.heap.push { cls := .type "list", data := .seq ([] : List Value).toArray }).get? s.heap.objs.size = some { cls := .type "list", data := .seq #[] } := Heap.get?_push_size _ rfl
  have hd1 : (s.heap.push { cls := .type "list", data := .seq ([] : List Value).toArray }).get? d = some o := Heap.get?_push_of_some _ ho
  have nSd : s.heap.objs.size ≠ d := Nat.ne_of_gt dlt
  unfold Builtin.List.listExtendWith
  have hT : Shared.TypeIs { s with heap := s.heap.push { cls := .type "list", data := .seq ([] : List Value).toArray } } (.ref d) "set" := ⟨o, hd1, hex.1⟩
  refine wpAny_bind (wpAny_typeOf hT ?_)
  have e1 : Builtin.List.listSameRef (.ref s.heap.objs.size) (.ref d) = false := by simp [Builtin.List.listSameRef, nSd]
  have e2 : (Value.type "set" == Value.type "list") = false := by decide
  have e3 : (Value.type "set" == Value.type "tuple") = false := by decide
  simp only [e1, e2, e3, Bool.or_false, Bool.false_eq_true, if_false]
  refine wpAny_bind (iter_set (A := A.in1) hh hd1 hex hd hf hb hp hL fun it fp h2 d2 ord St l1 l2 k2 hfp pm W st => ?_)
  have g2 := k2 _ _ g0
  have nSf : s.heap.objs.size ∉ fp := fun z => by
    rcases hfp _ z with e | ⟨e, _⟩
    · exact nSd e
    · rw [Heap.size_push] at e
      exact absurd e (Nat.not_succ_le_self _)
  have loop : ∀ (h3 : Heap) (c : Nat), St 0 { s with heap := h3, drawn := d2 } → (∀ b o, s.heap.get? b = some o → h3.get? b = some o) → h3.get? s.heap.objs.size = some { cls := .type "list", data := .seq #[] c } →
      codeAny (model prog w) A (.builtin "list.extend.loop" ⟨[.ref s.heap.objs.size, .ref it, .ref s.heap.objs.size], []⟩) (fun r s' => ∃ acc h' tk, r = .ok (.ret (.ref s.heap.objs.size)) ∧ s' = { s with heap := h', toks := tk, drawn := d2 } ∧
        (∀ b o, s.heap.get? b = some o → h'.get? b = some o) ∧ (∃ c', h'.get? s.heap.objs.size = some { cls := .type "list", dict := none, data := .seq acc c', slots := #[] }) ∧ acc.toList = ord.map (·.2)) { s with heap := h3, drawn := d2 } := by
    intro h3 c st3 k3 g3
    refine codeAny_extend_loopS (W A.in1 hh) hb s.heap.objs.size nSf _ es.size 0 _ #[] c rfl (Nat.zero_le _) st3 g3 (ItemsOf.nil _) fun s' acc c' mv g4 items => ?_
    obtain ⟨h', g', dd, tk', os'⟩ := s'
    obtain rfl : g' = s.gens := mv.gens
    obtain rfl : dd = d2 := mv.drawn
    obtain rfl : os' = s.os := mv.os
    refine ⟨acc, h', tk', rfl, rfl, fun b o e => mv.heap b o (fun z => ?_) (k3 b o e), ⟨c', g4⟩, ?_⟩
    · have lb := Heap.lt_size e
      rcases List.mem_cons.mp z with z | z
      · exact absurd lb (by rw [z]; exact Nat.lt_irrefl _)
      · have z' : b = it := by simpa using z
        rw [Heap.size_push] at l1
        exact absurd lb (by rw [z']; exact Nat.not_lt_of_le (Nat.le_of_succ_le l1))
    · have lo : ord.length = es.size := by simpa using pm.length_eq
      apply List.ext_getElem?
      intro j
      rw [List.getElem?_map]
      by_cases hj : j < acc.size
      · obtain ⟨e, z1, z2⟩ := items.2 j acc[j] (by simp [hj])
        rw [z1, Array.getElem?_toList, Array.getElem?_eq_getElem hj, ← z2]
        rfl
      · have ha : acc.size = es.size := items.1
        rw [List.getElem?_eq_none (by simpa using Nat.le_of_not_lt hj), List.getElem?_eq_none (by omega)]
        rfl
  refine wpAny_bind (wpAny_holding (hint_set ⟨o, k2 _ _ hd1, hex.1⟩ ?_))
  refine wpAny_ite_split (fun _ => ?_) (fun _ => ?_)
  · refine wpAny_bind (wpAny_rule (wpAny_bind ?_))
    show wpAny _ _ (updateSeq s.heap.objs.size (·.push .none) >>= fun _ => updateSeq s.heap.objs.size (·.pop)) _ _ _
    refine wpAny_bind (wpAny_updateSeq g2 rfl ?_)
    have g3 := Heap.get?_update_self (Obj.mapSeq (·.push Value.none)) g2 rfl
    refine wpAny_updateSeq (hz := by seq_fits) g3 rfl ?_
    have g4 := Heap.get?_update_self (Obj.mapSeq (·.pop)) g3 rfl
    refine wpAny_pure ⟨plainId_quiet PySem.F.plain_extend_loop _, codeAny_mono (loop _ _ ?_ (fun b o e => qaG ?_ (qaG ?_ (k2 _ _ (Heap.get?_push_of_some _ e)))) g4) fun r s' x => ?_⟩
    · exact (W A.in1 hh).frame 0 _ _ _ st (Nat.le_refl _) fun b hb o e => by
        have nb : b ≠ s.heap.objs.size := fun z => nSf (z ▸ hb)
        exact qaG nb (qaG nb e)
    · exact Nat.ne_of_lt (Heap.lt_size e)
    · exact Nat.ne_of_lt (Heap.lt_size e)
    · obtain ⟨acc, h', tk, rfl, rfl, k, ⟨c', g⟩, ea⟩ := x
      show wpAny _ A (load s.heap.objs.size >>= _) _ _ _
      refine wpAny_bind (wpAny_load g ?_)
      show wpAny _ _ (pure acc.toList) _ _ _
      rw [ea]
      exact wpAny_pure (fin h' tk d2 ord k pm)
  · refine wpAny_pure ⟨plainId_quiet PySem.F.plain_extend_loop _, codeAny_mono (loop _ _ st (fun b o e => k2 _ _ (Heap.get?_push_of_some _ e)) g2) fun r s' x => ?_⟩
    obtain ⟨acc, h', tk, rfl, rfl, k, ⟨c', g⟩, ea⟩ := x
    show wpAny _ A (load s.heap.objs.size >>= _) _ _ _
    refine wpAny_bind (wpAny_load g ?_)
    show wpAny _ _ (pure acc.toList) _ _ _
    rw [ea]
    exact wpAny_pure (fin h' tk d2 ord k pm)
theorem sorted_set {d : Addr} {es : Array (Int × Value)} {ep : Nat} {t : SetTable} {o : Obj} (hh : A.handled = none) (ho : s.heap.get? d = some o) (hex : o.ExactSet) (hd : o.data = .set es ep t) (hf : t.fits es.size = true) (hb : es.size < 64)
    (hp : t.plain = false ∨ es.size = 0) (hL : t.led = !(w.params.followText "set-order")) {ks : List Str} (hS : StrsAre (es.toList.map (·.2)) ks) {Q : Value → Shared → Prop}
    (fin : ∀ (D : Addr) (h' : Heap) (tk : Nat) (d' : Drawn) (out : List Value) (ss : List Str) (c : Nat), s.heap.get? D = none → (∀ b o, s.heap.get? b = some o → h'.get? b = some o) → h'.get? D = some { cls := .type "list", data := .seq out.toArray c } → StrsAre out ss → ss.Perm ks → sortedS ss = true → Q (.ref D) { s with heap := h', toks := tk, drawn := d' }) :
    wpAny (model prog w) A (call (.builtin "sorted") [.ref d]) Q E s := by
  have hb' : es.size ≤ sizeLine := by rw [sizeLine_eq]; omega
  refine Calls.call_function_entry kind_sorted plain_sorted entry_sorted (args_sorted1 _) ?_
  unfold Builtin.«sorted»
  refine wpAny_bind (m := checkCount "sorted" 1 1 _) (wpAny_pure ?_)
  refine wpAny_bind (set_collect (A := A.in1) hh ho hex hd hf hb' hp hL fun h1 tk d1 ord k1 pm => ?_)
  have ln : (ord.map (·.2)).length = es.size := by rw [List.length_map]; simpa using pm.length_eq
  refine wpAny_bind (wpAny_newList ?_ (by rw [ln]; exact hb'))
  have gD : (h1.push { cls := .type "list", data := .seq (ord.map (·.2)).toArray }).get? h1.objs.size = some (seqObj "list" (ord.map (·.2)).toArray 0) := Heap.get?_push_size _ rfl
  obtain ⟨ks', sk, pk⟩ : ∃ ks', StrsAre (ord.map (·.2)) ks' ∧ ks'.Perm ks := by
    refine ⟨(ord.map (·.2)).map strOf, strsAre_map _ fun v hv => ?_, ?_⟩
    · obtain ⟨e, he, rfl⟩ := List.mem_map.mp hv
      exact hS.all _ (List.mem_map.mpr ⟨e, pm.mem_iff.mp he, rfl⟩)
    · rw [← hS.strs]
      exact (pm.map _).map _
  refine wpAny_bind (wpAny_holding (wpAny_call_entry slot_list_sort ⟨_, gD, rfl⟩ entry_list_sort (list_sort_treeK strKind_oneLt gD sk.keysOf (fun v1 v2 rest e => keyKind_strs (by rw [← e]; exact sk)) (by rw [ln]; exact hb) fun st' a1 a2 => ⟨_, rfl, ?_⟩) (args_list_sort _)))
  obtain ⟨ss, h3, h4, h5⟩ := sorted_out_str sk a1 a2
  refine wpAny_pure ⟨_, rfl, ?_⟩
  obtain ⟨c, gc⟩ : ∃ c, (sortedHeap (h1.push { cls := .type "list", data := .seq (ord.map (·.2)).toArray }) h1.objs.size (ord.map (·.2)) ((arrOf st').map (·.2))).get? h1.objs.size = some (seqObj "list" ((arrOf st').map (·.2)) c) := by
    have := sortedHeap_at (out := (arrOf st').map (·.2)) gD
    exact this
  have lS : s.heap.get? h1.objs.size = none := by
    cases z : s.heap.get? h1.objs.size with
    | none => rfl
    | some o => exact absurd (Heap.lt_size (k1 _ _ z)) (Nat.lt_irrefl _)
  refine fin h1.objs.size _ tk d1 ((arrOf st').map (·.2)).toList ss c lS (fun b o e => ?_) ?_ h3 (h4.trans pk) h5
  · have lb := Heap.lt_size (k1 b o e)
    rw [sortedHeap_old (Nat.ne_of_lt lb) (by rw [Heap.size_push]; exact Nat.lt_succ_of_lt lb)]
    exact Heap.get?_push_of_some _ (k1 b o e)
  · rw [gc]
end
end L2
namespace L2
open PySem PySem.Spec PyProof.Rows
theorem Inv.dr {X : Cx} {pins : List (Addr × Obj)} {σ : St} {H : Hp} {s : Shared} (I : Inv X pins σ H s) (d' : Drawn) : Inv X pins σ H { s with drawn := d' } := ⟨I.ok, I.os, I.bare, I.base, I.loc, I.cell, I.free, I.freeC, I.pin, I.hok, I.len⟩
theorem dec_mem {κ : Type} [DecidableEq κ] {k : κ} {l : List κ} : decide (k ∈ l) = true ↔ k ∈ l := decide_eq_true_iff
def once (ks : List Str) : List Str := ks.foldl one1 []
theorem one1_nd {κ : Type} [DecidableEq κ] {l : List κ} {v : κ} (h : l.Nodup) : (one1 l v).Nodup := by
  unfold one1
  split
  · exact h
  · rename_i n
    rw [List.nodup_append]
    refine ⟨h, by simp, fun a ha b hb => ?_⟩
    have : b = v := by simpa using hb
    subst this
    exact fun z => n (z ▸ ha)
theorem qdM {κ : Type} [DecidableEq κ] : ∀ (ks l : List κ), l.Nodup → (ks.foldl one1 l).Nodup
  | [], l, h => h
  | k :: ks, l, h => qdM ks (one1 l k) (one1_nd h)
theorem qdh {κ : Type} [DecidableEq κ] (x : κ) : ∀ (ks l : List κ), x ∈ ks.foldl one1 l ↔ x ∈ l ∨ x ∈ ks
  | [], l => by simp
  | k :: ks, l => by
    rw [List.foldl_cons, qdh x ks]
    have : x ∈ one1 l k ↔ x ∈ l ∨ x = k := by
      have := qep l k x
      rw [Bool.eq_iff_iff] at this
      simpa using this
    rw [this, List.mem_cons, or_assoc]
theorem qd5 (ks : List Str) : (once ks).Nodup := qdM ks [] List.nodup_nil
theorem once_mem (ks : List Str) (x : Str) : x ∈ once ks ↔ x ∈ ks := by unfold once; rw [qdh]; simp
theorem qdo {κ ρ : Type} [DecidableEq κ] [DecidableEq ρ] (f : κ → ρ) (inj : ∀ a b, f a = f b → a = b) : ∀ (ks l : List κ), (ks.map f).foldl one1 (l.map f) = (ks.foldl one1 l).map f
  | [], l => rfl
  | k :: ks, l => by
    rw [List.map_cons, List.foldl_cons, List.foldl_cons, ← qdo f inj ks (one1 l k)]
    congr 1
    unfold one1
    by_cases z : k ∈ l
    · rw [if_pos z, if_pos (List.mem_map_of_mem z)]
    · rw [if_neg z, if_neg (fun q => by
        obtain ⟨a, ha, e⟩ := List.mem_map.mp q
        exact z (inj _ _ e ▸ ha))]
      simp
theorem qco {κ : Type} [DecidableEq κ] : ∀ (m l : List κ), m.Nodup → (∀ x ∈ m, x ∈ l) → l.length = m.length → l.Perm m
  | [], l, _, _, h => by
    have : l = [] := List.length_eq_zero_iff.mp h
    rw [this]
  | x :: m, l, nd, sub, h => by
    have hx := sub x List.mem_cons_self
    obtain ⟨nx, nm⟩ := List.nodup_cons.mp nd
    have p := List.perm_cons_erase hx
    refine p.trans (List.Perm.cons _ (qco m (l.erase x) nm (fun y hy => ?_) ?_))
    · exact (List.mem_erase_of_ne (fun z : y = x => nx (z ▸ hy))).mpr (sub y (List.mem_cons_of_mem _ hy))
    · rw [List.length_erase_of_mem hx, h]
      rfl
def setS (w : World) (d : Addr) (ks : List Str) : HO := .ext fun h => ∃ o es ep t, h.get? d = some o ∧ o.ExactSet ∧ o.data = .set es ep t ∧ t.fits es.size = true ∧ (t.plain = false ∨ es.size = 0) ∧ t.led = !(w.params.followText "set-order") ∧
  es.size < scanBound ∧ ∃ us, StrsAre (es.toList.map (·.2)) us ∧ us.Perm ks
section
variable {X : Cx}
theorem call_setS (hc : X.calm = true) : qbU X (.type "set") (fun xs H Q => ∃ (p : Addr) (ks : List Str), xs = [.ref p] ∧ SqL X.K H p (ks.map V.str) ∧ ks.length + 1 < scanBound ∧ ∀ d, H d = none → Q (.ref d) (upd H d (setS X.w d (once ks)))) := by
  intro pins s σ H xs us Q I r h
  obtain ⟨p, ks, rfl, hp, hb, q⟩ := h
  obtain ⟨u, rfl, rx⟩ := qcv r
  cases rx
  obtain ⟨its, rv, pl, hz⟩ := I.list hp
  have hlen : its.toArray.size = ks.length := by rw [List.size_toArray, ← rv.length, List.length_map]
  refine set_fromS (knd := qaT X.prog X.w) (val := fun i => Sum.inr (ks.getD i Str.empty)) (I.ok.hd hc) pl.isList (fun i v e => ?_) (by rw [hlen]; exact hb) fun h' tk x np kp => ?_
  · have e' : its[i]? = some v := by simpa using e
    have hi : i < ks.length := by rw [← hlen, List.size_toArray]; exact (List.getElem?_eq_some_iff.mp e').1
    obtain ⟨u, e2, r2⟩ := rv.get (i := i) (x := .str ks[i]) (by rw [List.getElem?_map, List.getElem?_eq_getElem hi]; rfl)
    rw [e'] at e2
    cases e2
    obtain ⟨t, rfl⟩ := r2
    have eg : ks.getD i Str.empty = ks[i] := by simp [hi]
    exact ⟨_, t, rfl, by rw [eg]; exact qbf _ _ _ _⟩
  · have em : met (fun i => (Sum.inr (ks.getD i Str.empty) : Key)) its.toArray.size = (once ks).map (Sum.inr : Str → Key) := by
      unfold met once
      rw [hlen, ← qdo (Sum.inr : Str → Key) (fun a b e => Sum.inr.inj e) ks []]
      congr 1
      apply List.ext_getElem?
      intro i
      rw [List.getElem?_map, List.getElem?_map]
      by_cases h : i < ks.length
      · rw [List.getElem?_range h, List.getElem?_eq_getElem h]
        simp [h]
      · rw [List.getElem?_eq_none (by simpa using Nat.le_of_not_lt h), List.getElem?_eq_none (Nat.le_of_not_lt h)]
        rfl
    rw [em] at x
    have keep : ∀ b o, s.heap.get? b = some o → h'.get? b = some o := fun b o e => kp b o (Heap.lt_size e) e
    have hn : H s.heap.objs.size = none := I.hok.fresh (Nat.le_refl _)
    refine ⟨.ref s.heap.objs.size, _, I.laid (o := setS X.w s.heap.objs.size (once ks)) keep (Nat.le_refl _) ?_, rfl, q _ hn⟩
    obtain ⟨o, es, ep, t, ho, hex, hd, hel, hmem, hsb, hf, hsz⟩ := x
    obtain ⟨o', es', ep', t', e1, e2, e3, e4⟩ := np
    rw [ho] at e1
    cases e1
    rw [hd] at e2
    cases e2
    have all : ∀ e ∈ es.toList, ∃ y tk, e.2 = .str y tk ∧ y ∈ once ks := fun e he => by
      obtain ⟨⟨k, hk, _⟩, _⟩ := hel e he
      have t0 := (hmem k).mpr ⟨e, he, hk⟩
      have this : k ∈ (once ks).map (Sum.inr : Str → Key) := dec_mem.mp t0
      obtain ⟨y, hy, rfl⟩ := List.mem_map.mp this
      rcases keyIs_shape (show keyIs (Sum.inr y) e.2 = true from hk) with ⟨i, t, z, _⟩ | ⟨z, t, zz, ez⟩
      · cases z
      · cases zz
        exact ⟨y, t, ez, hy⟩
    have stt : StrsAre (es.toList.map (·.2)) ((es.toList.map (·.2)).map strOf) := strsAre_map _ fun v hv => by
      obtain ⟨e, he, rfl⟩ := List.mem_map.mp hv
      obtain ⟨y, tk, e1, _⟩ := all e he
      exact ⟨y, tk, e1⟩
    refine ⟨⟨o, es, ep, t, ho, hex, hd, hf, e3, e4, hsb, _, stt, ?_⟩, ⟨o, ho⟩, fun g1 g2 y k => ?_⟩
    · refine qco _ _ (qd5 ks) (fun y hy => ?_) ?_
      · obtain ⟨e, he, hk⟩ := (hmem (Sum.inr y)).mp (dec_mem.mpr (List.mem_map_of_mem hy))
        rcases keyIs_shape (show keyIs (Sum.inr y) e.2 = true from hk) with ⟨i, t, z, _⟩ | ⟨z, t, zz, ez⟩
        · cases z
        · cases zz
          rw [List.map_map]
          exact List.mem_map.mpr ⟨e, he, by show strOf e.2 = y; rw [ez]; rfl⟩
      · rw [List.length_map, List.length_map, Array.length_toList, hsz, List.length_map]
    · obtain ⟨o1, es1, ep1, t1, z1, z2⟩ := y
      exact ⟨o1, es1, ep1, t1, k _ z1, z2⟩
theorem call_sortedS (hc : X.calm = true) (hex : X.ex = []) : qbU X (.builtin "sorted") (fun xs H Q => ∃ (d : Addr) (ks : List Str), xs = [.ref d] ∧ H d = some (setS X.w d ks) ∧ ks.length < 64 ∧ ∀ D ss, H D = none → ss.Perm ks → sortedS ss = true → Q (.ref D) (upd H D (.lst (ss.map V.str)))) := by
  intro pins s σ H xs us Q I r h
  obtain ⟨d, ks, rfl, hd, h64, q⟩ := h
  obtain ⟨u, rfl, rx⟩ := qcv r
  cases rx
  obtain ⟨⟨o, es, ep, t, ho, hexs, hdt, hf, hp, hL, hb, ks', st, pm⟩, _⟩ := I.hok d _ hd
  have ls : es.size = ks.length := by
    have h1 := st.length
    rw [List.length_map, Array.length_toList] at h1
    rw [h1, pm.length_eq]
  refine sorted_set (I.ok.hd hc) ho hexs hdt hf (by omega) hp hL st fun D h' tk d' out ss c hD kp hg hs ps so => ?_
  have HD : H D = none := by
    cases z : H D with
    | none => rfl
    | some v =>
      obtain ⟨o, e⟩ := (I.hok D v z).at
      rw [hD] at e
      cases e
  have pk := ps.trans pm
  have I2 := (I.kept (t' := tk) kp).dr d'
  have DL : D ≠ X.env.locals := fun z => by
    have := Heap.lt_size (Classical.choose_spec (let ⟨m, ⟨o, _, _, e, _⟩, _⟩ := I.loc; ⟨o, e⟩ : ∃ o, s.heap.get? X.env.locals = some o))
    obtain ⟨m, ⟨o, _, _, e, _⟩, _⟩ := I.loc
    rw [z, e] at hD
    cases hD
  refine ⟨.ref D, _, I2.track (o := .lst (ss.map V.str)) ?_ HD DL (fun z c e w' => ?_) (fun z hz w' => ?_) ?_, rfl, q D ss HD pk so⟩
  · cases z : X.s₀.heap.get? D with
    | none => rfl
    | some o =>
      obtain ⟨o', e⟩ := I.base.there D o z (by rw [hex]; simp)
      rw [hD] at e
      cases e
  · obtain ⟨v, o, e1, _⟩ := I.cell z c e
    rw [w', hD] at e1
    cases e1
  · have e := (I.pin z hz).1
    rw [w', hD] at e
    cases e
  · have vs : ∀ {out : List Value} {ss : List Str}, StrsAre out ss → Vals (ss.map V.str) out := fun {out ss} h => by
      induction h with
      | nil => exact .nil
      | cons x t _ ih => exact .cons ⟨t, rfl⟩ ih
    refine ⟨?_, out, c, vs hs, hg⟩
    rw [List.length_map, pk.length_eq]
    exact Nat.le_of_lt (qak (by omega))
end
end L2
namespace L2
open PySem PySem.Spec PyProof.Rows
structure Fx (P : Program) (w : World) (K : PySem.W.Frag) (mg : Str → Option Value) (base : Heap) (CX : CXT) (k : Nat) (x : Str) (ps : List Str) (sp : Sp) : Prop where
  ex : ∃ f fd, FnOk P w K mg base CX k f fd ps sp ∧ Binds K fd ps [] ∧ PySem.W.keepIn K (.ref f) = true ∧ mg x = some (.ref f)
section
variable {X : Cx} {CX : CXT} {k : Nat} {ps : List Str} {sp : Sp} {E : XK} {x : Str} {p pos : Pos} {e : Expr} {es : List Expr} {t : TA}
theorem qar (F : Fx X.prog X.w X.K X.mg X.base CX k x ps sp) (hr : Room k X.A) (hg : Gl X x) (hx : qcI CX X E) (ha : PA X (e :: es) t) (hdb : (x == ("__debug__" : Str)) = false := by decide)
    (he : starEach (e :: es) X.env = (false, eval e X.env) :: starEach es X.env := by rfl) (hpl : (backTo pos (starEach es X.env)).any (·.1) = false := by rfl) : PE X (.Call (.Name x p) (e :: es) [] pos) (qeC sp [] E t) := by
  obtain ⟨f, fd, G, b, kp, m⟩ := F.ex
  exact pe_call G hr hg m kp b .nil hx ha hdb he hpl
end
theorem CompScope.plain {X : Cx} {scope : Scope} {own : List Str} (h1 : scope.kind = .function) (h2 : ∀ y ∈ scope.names, y.2 ≠ .cell) (h3 : ∀ y ∈ scope.names, y.2 = .local → scope.names.lookup y.1 = some .local) (h4 : ∀ y ∈ scope.names, y.2 ≠ .free) : CompScope X scope own [] [] :=
  ⟨h1, h2, h3, fun y hy hf => absurd hf (h4 y hy), rfl, fun _ z => nomatch z⟩
theorem qb1 {names : List (Str × NameKind)} {a : Str} (h : names.lookup a = some .cell) : ∀ x ∈ [a], names.lookup x = some .cell ∨ names.lookup x = some .free := fun x hx => by
  have : x = a := by simpa using hx
  rw [this]; exact .inl h
theorem qcg {names : List (Str × NameKind)} {a b : Str} (h : names.lookup a = some .cell) (h' : names.lookup b = some .cell) : ∀ x ∈ [a, b], names.lookup x = some .cell ∨ names.lookup x = some .free := fun x hx => by
  rcases List.mem_cons.mp hx with rfl | hx
  · exact .inl h
  · exact qb1 h' x hx
theorem CompScope.frees {X : Cx} {scope : Scope} {own fr : List Str} {ix : List Nat} (h1 : scope.kind = .function) (h2 : ∀ y ∈ scope.names, y.2 ≠ .cell) (h3 : ∀ y ∈ scope.names, y.2 = .local → scope.names.lookup y.1 = some .local)
    (h4 : ∀ y ∈ scope.names, y.2 = .free → y.1 ∈ fr) (h5 : ix.map (fun j => X.N[j]?) = fr.map some) (h6 : ∀ x ∈ fr, scope.names.lookup x = some .free) (h7 : ∀ x ∈ fr, X.env.scope.names.lookup x = some .cell ∨ X.env.scope.names.lookup x = some .free) : CompScope X scope own fr ix :=
  ⟨h1, h2, h3, fun y hy hf => h7 _ (h4 y hy hf), h5, h6⟩
theorem qbz {lo : Int} {n own : Nat} {ix : List Nat} {g : TG} {tt : TT} {te : TE} {σ : St} {H : Hp} {Q : VK} (Pv : Nat → List V → St → Hp → Prop) (hz : n < sizeLine) (h0 : Pv 0 [] (qbq own ix σ) H)
    (hl : ∀ i ys σ' H', i ≤ n → Pv i ys σ' H' → ys.length ≤ i)
    (hs : ∀ i ys σ' H', i < n → Pv i ys σ' H' → g (.int (lo + i)) σ' H' fun σ2 H3 => tt σ2 H3 fun b H4 => if b = true then te σ2 H4 fun v H5 => Pv (i + 1) (ys ++ [v]) σ2 H5 else Pv (i + 1) ys σ2 H4)
    (hd : ∀ ys σ' H', Pv n ys σ' H' → ∀ D, H' D = none → Q (.ref D) (upd H' D (.lst ys))) : qbN own ix g tt te (Itr lo n) σ H Q := by
  refine ⟨fun i m ys σ H => m = n - i ∧ i ≤ n ∧ Pv i ys σ H, ⟨n, by simp, Nat.zero_le _, h0⟩, ?_⟩
  rintro i m ys σ H ⟨rfl, hi, p⟩
  have hy := hl i ys σ H hi p
  refine ⟨by omega, ?_⟩
  by_cases hlt : i < n
  · refine .inr ⟨hlt, Pv (i + 1), fun zs σ' H' p' => ⟨n - (i + 1), by omega, rfl, hlt, p'⟩, fun x H' y => ?_⟩
    obtain ⟨e, y⟩ := y
    subst e y
    exact hs i ys σ _ hlt p
  · have e : i = n := by omega
    subst e
    exact .inl ⟨Nat.le_refl _, hd ys σ H p⟩
theorem qc9 {K : PySem.W.Frag} {a : Addr} {xs : List V} {own : Nat} {ix : List Nat} {g : TG} {tt : TT} {te : TE} {σ : St} {H : Hp} {Q : VK} (Pv : Nat → List V → St → Hp → Prop) (hz : xs.length < sizeLine) (h0 : Pv 0 [] (qbq own ix σ) H)
    (hl : ∀ i ys σ' H', i ≤ xs.length → Pv i ys σ' H' → SqL K H' a xs ∧ ys.length ≤ i)
    (hs : ∀ i x ys σ' H' T, xs[i]? = some x → H' T = none → Pv i ys σ' H' → g (.ref T) σ' (upd H' T (.tup [.int (i : Nat), x])) fun σ2 H3 => tt σ2 H3 fun b H4 => if b = true then te σ2 H4 fun v H5 => Pv (i + 1) (ys ++ [v]) σ2 H5 else Pv (i + 1) ys σ2 H4)
    (hd : ∀ ys σ' H', Pv xs.length ys σ' H' → ∀ D, H' D = none → Q (.ref D) (upd H' D (.lst ys))) : qbN own ix g tt te (Ite K a) σ H Q := by
  refine ⟨fun i m ys σ H => m = xs.length - i ∧ i ≤ xs.length ∧ Pv i ys σ H, ⟨xs.length, by simp, Nat.zero_le _, h0⟩, ?_⟩
  rintro i m ys σ H ⟨rfl, hi, p⟩
  obtain ⟨q, hy⟩ := hl i ys σ H hi p
  refine ⟨by omega, ?_⟩
  by_cases hlt : i < xs.length
  · refine .inr ⟨⟨xs, xs[i], q, by simp [hlt]⟩, Pv (i + 1), fun zs σ' H' p' => ⟨xs.length - (i + 1), by omega, rfl, hlt, p'⟩, fun x H' y => ?_⟩
    obtain ⟨T, z, hT, e1, e2, y⟩ := y
    subst e1 e2
    exact hs i z ys σ _ T (y xs q) hT p
  · have e : i = xs.length := by omega
    subst e
    exact .inl ⟨⟨xs, q, Nat.le_refl _⟩, hd ys σ H p⟩
def rEqP (neg : Bool) : R2 := fun x y H Q => ∃ d e, DIn H x d ∧ DIn H y e ∧ PySem.W.kqdOk 9 d = true ∧ PySem.W.kqdOk 9 e = true ∧ (d = e → Q (.bl (!neg)) H) ∧ (d ≠ e → Q (.bl neg) H)
section
variable {X : Cx}
open Classical in
theorem qdV (hu : X.A.units + 64 < cLine) : OpR X (compareOp .Eq) (rEqP false) := by
  intro pins s σ H x y v u Q I rx ry h
  obtain ⟨d, e, h1, h2, k1, k2, q1, q2⟩ := h
  refine op_eqD hu pins s σ H x y v u Q I rx ry ⟨d, e, h1, h2, k1, k2, ?_⟩
  rw [if_neg Bool.false_ne_true]
  by_cases z : d = e
  · rw [decide_eq_true z]; exact q1 z
  · rw [decide_eq_false z]; exact q2 z
open Classical in
theorem qea (hu : X.A.units + 64 < cLine) : OpR X (compareOp .NotEq) (rEqP true) := by
  intro pins s σ H x y v u Q I rx ry h
  obtain ⟨d, e, h1, h2, k1, k2, q1, q2⟩ := h
  refine op_neD hu pins s σ H x y v u Q I rx ry ⟨d, e, h1, h2, k1, k2, ?_⟩
  rw [if_pos rfl]
  by_cases z : d = e
  · rw [decide_eq_true z]; exact q1 z
  · rw [decide_eq_false z]; exact q2 z
end
theorem qe4 {H : Hp} : ∀ (nms : List Str), DAll H (nms.map V.str) (nms.map PySem.W.Dat.str)
  | [] => .nil
  | x :: l => .cons (.str x) (qe4 l)
def rSlS : V → Option Int → Option Int → Hp → VK → Prop := fun x lo hi H Q => ∃ z, x = .str z ∧ z.length ≤ sizeLine ∧ Q (.str (Txt.slice z lo hi)) H
section
variable {X : Cx}
theorem sl_str : SlR X rSlS := by
  intro pins s σ H x v vl vu lo hi sl Q I rx hs pl pu h
  obtain ⟨z, rfl, hz, q⟩ := h
  obtain ⟨t, rfl⟩ := rx
  cases pl with
  | none =>
    cases pu with
    | none => exact ⟨"str", _, PySem.F.slot_str_getitem.lookup, typeIs_str _ _ _, wpAny_getItem_str_slice (l := none) (u := none) (st := none) hs rfl (post_val_or_str ⟨Nat.le_trans (Txt.slice_le z _ _) hz, fun t' k => ⟨.str (Txt.slice z none none), H, I.tok k, ⟨t', rfl⟩, q⟩⟩)⟩
    | int j u => exact ⟨"str", _, PySem.F.slot_str_getitem.lookup, typeIs_str _ _ _, wpAny_getItem_str_slice (l := none) (u := some (j, u)) (st := none) hs rfl (post_val_or_str ⟨Nat.le_trans (Txt.slice_le z _ _) hz, fun t' k => ⟨.str (Txt.slice z none (some j)), H, I.tok k, ⟨t', rfl⟩, q⟩⟩)⟩
  | int i u =>
    cases pu with
    | none => exact ⟨"str", _, PySem.F.slot_str_getitem.lookup, typeIs_str _ _ _, wpAny_getItem_str_slice (l := some (i, u)) (u := none) (st := none) hs rfl (post_val_or_str ⟨Nat.le_trans (Txt.slice_le z _ _) hz, fun t' k => ⟨.str (Txt.slice z (some i) none), H, I.tok k, ⟨t', rfl⟩, q⟩⟩)⟩
    | int j u' => exact ⟨"str", _, PySem.F.slot_str_getitem.lookup, typeIs_str _ _ _, wpAny_getItem_str_slice (l := some (i, u)) (u := some (j, u')) (st := none) hs rfl (post_val_or_str ⟨Nat.le_trans (Txt.slice_le z _ _) hz, fun t' k => ⟨.str (Txt.slice z (some i) (some j)), H, I.tok k, ⟨t', rfl⟩, q⟩⟩)⟩
theorem slice_to {x : Str} {j : Int} (h0 : 0 ≤ j) (h1 : j ≤ x.length) : Txt.slice x none (some j) = ⟨(x.cps.toList.take j.toNat).toArray⟩ := by
  have := beq_iff_eq.mp (slice_closes_to (x := x) (j := j) ⟨h0, h1⟩)
  rw [this]
  simp
theorem slice_from {x : Str} {j : Int} (h0 : 0 ≤ j) (h1 : j ≤ x.length) : Txt.slice x (some j) none = ⟨(x.cps.toList.drop j.toNat).toArray⟩ := by
  have := beq_iff_eq.mp (slice_closes_from (x := x) (i := j) ⟨h0, h1⟩)
  rw [this, List.take_of_length_le]
  rw [List.length_drop]
  omega
end
end L2
namespace Gen
open PySem L2 Bk
theorem b_isinstance : bootBuiltins "isinstance" = some (.builtin "isinstance") := by decide +kernel
theorem b_len : bootBuiltins "len" = some (.builtin "len") := by decide +kernel
theorem b_all : bootBuiltins "all" = some (.builtin "all") := by decide +kernel
theorem b_sorted : bootBuiltins "sorted" = some (.builtin "sorted") := by decide +kernel
theorem b_int : bootBuiltins "int" = some (.type "int") := by decide +kernel
theorem b_bool : bootBuiltins "bool" = some (.type "bool") := by decide +kernel
theorem b_list : bootBuiltins "list" = some (.type "list") := by decide +kernel
theorem b_set : bootBuiltins "set" = some (.type "set") := by decide +kernel
structure Bn (mg : Str → Option Value) : Prop where
  isinstance : mg "isinstance" = none
  len : mg "len" = none
  range : mg "range" = none
  sorted : mg "sorted" = none
  int : mg "int" = none
  bool : mg "bool" = none
  list : mg "list" = none
  tuple : mg "tuple" = none
  str : mg "str" = none
  set : mg "set" = none
  enumerate : mg "enumerate" = none
  all : mg "all" = none
  ver : mg "ValueError" = none
def StOk (H : Hp) (st : Addr) : Prop := ∃ x y : Int, H st = some (.lst [.int x, .int y]) ∧ 0 ≤ y ∧ y < 4294967296
abbrev Keep1 (st : Addr) (H H' : Hp) : Prop := KeepN (fun b => b ≠ st) H H'
abbrev qbL (st p : Addr) (H H' : Hp) : Prop := KeepN (fun b => b ≠ st ∧ b ≠ p) H H'
theorem Keep1.two {st p : Addr} {H H' : Hp} (k : Keep1 st H H') : qbL st p H H' := k.mono fun _ n => n.1
theorem StOk.same {H H' : Hp} {st : Addr} (h : StOk H st) (s : Same H H') : StOk H' st := by
  obtain ⟨x, y, e, z⟩ := h
  exact ⟨x, y, s _ _ e, z⟩
theorem StOk.some {H : Hp} {st : Addr} (h : StOk H st) : ∃ o, H st = some o := by
  obtain ⟨x, y, e, z⟩ := h
  exact ⟨_, e⟩
theorem qah {H : Hp} {a b : Addr} (h : ∃ o, H a = some o) (n : H b = none) : b ≠ a := by
  obtain ⟨o, e⟩ := h
  exact Ne.symm (qao e n)
def qcV (K : PySem.W.Frag) : Sp := fun vs H Q _ => ∃ (a : Addr) (ns : List Int) (k : Int), vs = [.ref a, .int k] ∧ SqL K H a (ns.map V.int) ∧ 0 ≤ k ∧ k ≤ 100 ∧ ∀ (st : Addr) (H' : Hp), H st = none → StOk H' st → Same H H' → Q (.ref st) H'
def spTake : Sp := fun vs H Q _ => ∃ (st : Addr) (m : Int), vs = [.ref st, .int m] ∧ StOk H st ∧ 0 < m ∧ m ≤ 1000000000000 ∧ ∀ (r : Int) (H' : Hp), 0 ≤ r → r < m → StOk H' st → Keep1 st H H' → Q (.int r) H'
def spWord : Sp := fun vs H Q _ => ∃ (st : Addr) (m : Int), vs = [.ref st, .int m] ∧ StOk H st ∧ 1 ≤ m ∧ m ≤ 20 ∧ ∀ (x : Str) (H' : Hp), Word x → (x.length : Int) ≤ m → StOk H' st → Keep1 st H H' → Q (.str x) H'
def spName : Sp := fun vs H Q _ => ∃ (st : Addr) (n : Int), vs = [.ref st, .int n] ∧ StOk H st ∧ 0 ≤ n ∧ n ≤ 1000 ∧ ∀ (x : Str) (H' : Hp), Name x → StOk H' st → Keep1 st H H' → Q (.str x) H'
def qeu (H : Hp) : Addr → Prop := fun b => H b = none
def spPieces : Sp := fun vs H Q _ => ∃ (st p : Addr) (n : Nat) (nms : List Str), vs = [.ref st, .int n, .ref p] ∧ StOk H st ∧ n ≤ 2 ∧ p ≠ st ∧ H p = some (.lst (nms.map V.str)) ∧ nms ≠ [] ∧ nms.length ≤ 1000 ∧ (∀ x ∈ nms, Name x) ∧
  ∀ (s : Addr) (its : List Th) (H' : Hp), Pieces n its → StAt (qeu H) H' s its → StOk H' st → Keep1 st H H' → Q (.ref s) H'
def New (H0 : Hp) (p : Addr) : Addr → Prop := fun b => H0 b = none ∧ b ≠ p
structure Gs (H0 : Hp) (st p : Addr) (H : Hp) (ds : List Nd) : Prop where
  so : StOk H st
  s0 : ∃ o, H0 st = some o
  p0 : H0 p = none
  old : Keep1 st H0 H
  bk : qaY (New H0 p) H p ds
section
variable {H0 H H' : Hp} {st p : Addr} {ds : List Nd}
theorem Gs.pne (g : Gs H0 st p H ds) : p ≠ st := by
  obtain ⟨o, e⟩ := g.s0
  exact Ne.symm (qao e g.p0)
theorem Gs.nst (g : Gs H0 st p H ds) {b : Addr} (h : New H0 p b) : b ≠ st := by
  obtain ⟨o, e⟩ := g.s0
  exact Ne.symm (qao e h.1)
theorem Gs.psome (g : Gs H0 st p H ds) : ∃ o, H p = some o := by
  obtain ⟨as, e, _⟩ := g.bk
  exact ⟨_, e⟩
theorem Gs.fresh (g : Gs H0 st p H ds) {b : Addr} (h : H b = none) : New H0 p b := by
  refine ⟨?_, qah g.psome h⟩
  cases e : H0 b with
  | none => rfl
  | some o =>
    have := g.old b o (qah g.so.some h) e
    rw [h] at this
    cases this
theorem Gs.keep1 (g : Gs H0 st p H ds) (k : Keep1 st H H') (so : StOk H' st) : Gs H0 st p H' ds := by
  obtain ⟨as, e, q⟩ := g.bk
  exact ⟨so, g.s0, g.p0, g.old.trans k, as, k _ _ g.pne e, q.keep (k.mono fun b n => g.nst n) fun _ n _ => n⟩
theorem Gs.same (g : Gs H0 st p H ds) (s : Same H H') : Gs H0 st p H' ds := g.keep1 s.keep (g.so.same s)
theorem Gs.push (g : Gs H0 st p H ds) {as : List Addr} {a : Addr} {d : Nd} (e : H p = some (.lst (as.map V.ref))) (q : NdsAt (New H0 p) H as ds) (x : NdAt (New H0 p) H a d) : Gs H0 st p (upd H p (.lst (as.map V.ref ++ [.ref a]))) (ds ++ [d]) := by
  have k : KeepN (New H0 p) H (upd H p (.lst (as.map V.ref ++ [.ref a]))) := fun b o n e => by rw [qai n.2]; exact e
  refine ⟨?_, g.s0, g.p0, fun b o n e => ?_, as ++ [a], by rw [qab]; simp, (q.keep k fun _ n _ => n).append (.cons (x.keep k fun _ n _ => n) .nil)⟩
  · obtain ⟨x, y, z, w⟩ := g.so
    exact ⟨x, y, by rw [qai (Ne.symm g.pne)]; exact z, w⟩
  · rw [qai (fun z => by rw [z, g.p0] at e; cases e)]
    exact g.old b o n e
end
def NmOk (ds : List Nd) (x : Str) : Prop := x = noName ∨ (Name x ∧ ∀ c ∈ ds, c.nm ≠ x)
def qdA (ds : List Nd) : Prop := ∀ d ∈ ds, d.nm = noName ∨ Name d.nm
def spOwn : Sp := fun vs H Q _ => ∃ (H0 : Hp) (p st : Addr) (ds : List Nd), vs = [.ref p, .ref st] ∧ Gs H0 st p H ds ∧ ds.length ≤ 200 ∧
  ∀ (l m : Addr) (nm : Str) (mks : List Str) (H' : Hp), H l = none → H m = none → H' l = some (.lst [.str nm, .ref m]) → H' m = some (.lst (mks.map V.str)) → qcx mks → NmOk ds nm → StOk H' st → Keep1 st H H' → Q (.ref l) H'
def spAdd : Sp := fun vs H Q _ => ∃ (H0 : Hp) (p st s : Addr) (e : Int) (k : Kd) (its : List Th) (ds : List Nd), vs = [.ref p, .int e, .str k.s, .ref s, .ref st] ∧ Gs H0 st p H ds ∧ StAt (New H0 p) H s its ∧ ds.length ≤ 200 ∧
  ∀ (d : Nd) (H' : Hp), d.e = e → d.k = k → d.st = its → qcx d.mks → NmOk ds d.nm → Gs H0 st p H' (ds ++ [d]) → qbL st p H H' → Q (.int ds.length) H'
structure More (e lv : Nat) (ds more : List Nd) (ks : List Kd) : Prop where
  fo : Forest e ds.length lv more ks
  fm : ∀ d ∈ more, Form d
  nm : Names (ds ++ more)
def spText : Sp := fun vs H Q _ => ∃ (H0 : Hp) (p st : Addr) (e lv : Nat) (k : Kd) (ds : List Nd), vs = [.ref p, .int e, .str k.s, .ref st] ∧ Gs H0 st p H ds ∧ (k = .text ∨ k = .head) ∧ ds.length ≤ 190 ∧ lv ≤ 5 ∧ qdA ds ∧ Names ds ∧
  ∀ (more : List Nd) (H' : Hp), More e lv ds more [k] → more.length ≤ 3 → Gs H0 st p H' (ds ++ more) → qbL st p H H' → Q .non H'
def Cont (k : Kd) : Prop := k = .body ∨ k = .case ∨ k = .shelf ∨ k = .grid ∨ k = .aside
def qbM (n : Nat) : Sp := fun vs H Q _ => ∃ (H0 : Hp) (p st : Addr) (e lv R : Nat) (de : Nd) (ds : List Nd), vs = [.ref p, .int e, .int lv, .int R, .ref st] ∧ Gs H0 st p H ds ∧ ds[e]? = some de ∧ Cont de.k ∧ 1 ≤ lv ∧ lv ≤ 4 ∧ 5 ≤ lv + n ∧ 1 ≤ R ∧ R ≤ 12 ∧ ds.length ≤ 100 ∧
  qdA ds ∧ Names ds ∧ ∀ (more : List Nd) (ks : List Kd) (H' : Hp), More e lv ds more ks → ItemKs de.k ks → (R ≤ ds.length → more.length ≤ 3) → (ds.length < R → ds.length + more.length ≤ cap R lv) → Gs H0 st p H' (ds ++ more) → qbL st p H H' → Q .non H'
def spBook : Sp := fun vs H Q _ => ∃ (st : Addr) (m R : Nat), vs = [.ref st, .int m, .int R] ∧ StOk H st ∧ 1 ≤ m ∧ m ≤ 4 ∧ 1 ≤ R ∧ R ≤ 12 ∧
  ∀ (p : Addr) (ds : List Nd) (H' : Hp), Book ds → ds.length ≤ R + 39 → H p = none → qaY (qeu H) H' p ds → StOk H' st → Keep1 st H H' → Q (.ref p) H'
theorem Names.nil : Names [] := List.nodup_nil
theorem qbo {ds : List Nd} {d : Nd} (h : Names ds) (n : NmOk ds d.nm) : Names (ds ++ [d]) := by
  unfold Names
  rw [List.filter_append, List.map_append]
  by_cases z : d.nm = noName
  · have : ([d].filter fun d => decide (d.nm ≠ noName)) = [] := by simp [z]
    rw [this, List.map_nil, List.append_nil]
    exact h
  · have : ([d].filter fun d => decide (d.nm ≠ noName)) = [d] := by simp [z]
    rw [this, List.nodup_append]
    refine ⟨h, by simp, fun a ha b hb => ?_⟩
    have hb' : b = d.nm := by simpa using hb
    subst hb'
    obtain ⟨c, hc, rfl⟩ := List.mem_map.mp ha
    rcases n with n | n
    · exact absurd n z
    · exact n.2 c (List.mem_filter.mp hc).1
theorem nms_push {ds : List Nd} {d : Nd} (h : qdA ds) (n : NmOk ds d.nm) : qdA (ds ++ [d]) := fun c hc => by
  rcases List.mem_append.mp hc with hc | hc
  · exact h c hc
  · have : c = d := by simpa using hc
    subst this
    rcases n with n | n
    · exact .inl n
    · exact .inr n.1
end Gen
namespace Gen
open PySem L2 Bk
theorem int_at {ns : List Int} {k : Int} (h0 : 0 ≤ k) (h : k < (ns.length : Int)) : ∃ v : Int, atI (ns.map V.int) k = some (.int v) := by
  have hk : k.toNat < ns.length := by omega
  have ek : k = ((k.toNat : Nat) : Int) := by omega
  have q : atI (ns.map V.int) ((k.toNat : Nat) : Int) = some (.int ns[k.toNat]) := qcX (by rw [List.getElem?_map, List.getElem?_eq_getElem hk] <;> rfl)
  rw [← ek] at q
  exact ⟨_, q⟩
def signs : Str := Str.ofString "abcdefghijklmnopqrstuvwxyzABCDEFGHIJKLMNOPQRSTUVWXYZ0123456789.,-;:'()!?"
def small : Str := Str.ofString "abcdefghijklmnopqrstuvwxyz"
def sg (c : Nat) : Str := ⟨#[c]⟩
theorem signs_is : signs.cps.toList = wordSigns := by decide +kernel
theorem signs_le : signs.length ≤ sizeLine := by decide +kernel
theorem small_le : small.length ≤ sizeLine := by decide +kernel
theorem small_is : small.cps.toList = [97, 98, 99, 100, 101, 102, 103, 104, 105, 106, 107, 108, 109, 110, 111, 112, 113, 114, 115, 116, 117, 118, 119, 120, 121, 122] := by decide +kernel
theorem qee {α : Type} {l : List α} {i : Int} (h0 : 0 ≤ i) (h1 : i < (l.length : Int)) : ∃ c, atI l i = some c ∧ c ∈ l := by
  have hi : i.toNat < l.length := by omega
  have ei : i = ((i.toNat : Nat) : Int) := by omega
  have q : atI l ((i.toNat : Nat) : Int) = some l[i.toNat] := qcX (List.getElem?_eq_getElem hi)
  rw [← ei] at q
  exact ⟨_, q, List.getElem_mem hi⟩
theorem signs_at {i : Int} (h0 : 0 ≤ i) (h1 : i < 72) : ∃ c, atI signs.cps.toList i = some c ∧ c ∈ wordSigns := by
  rw [signs_is]
  exact qee h0 h1
theorem qcP {i : Int} (h0 : 0 ≤ i) (h1 : i < 26) : ∃ c, atI small.cps.toList i = some c ∧ qdz c := by
  rw [small_is]
  obtain ⟨c, e, m⟩ := qee (l := [97, 98, 99, 100, 101, 102, 103, 104, 105, 106, 107, 108, 109, 110, 111, 112, 113, 114, 115, 116, 117, 118, 119, 120, 121, 122]) h0 h1
  refine ⟨c, e, ?_⟩
  have all : ∀ c ∈ [97, 98, 99, 100, 101, 102, 103, 104, 105, 106, 107, 108, 109, 110, 111, 112, 113, 114, 115, 116, 117, 118, 119, 120, 121, 122], 97 ≤ c ∧ c ≤ 122 := by decide
  exact all c m
theorem noName_nil : noName.cps.toList = [] := by decide +kernel
theorem qc6 (x y : Str) : (x ++ y).length = x.length + y.length := by
  show (x.cps ++ y.cps).size = _
  rw [Array.size_append]
  rfl
theorem app_list (x y : Str) : (x ++ y).cps.toList = x.cps.toList ++ y.cps.toList := by
  show (x.cps ++ y.cps).toList = _
  exact Array.toList_append
theorem qd3 {p : Nat → Prop} {c : Nat} (h : p c) : ∀ d ∈ (sg c).cps.toList, p d := fun d hd => by
  have : d = c := by simpa [sg] using hd
  rw [this]; exact h
theorem qcY {p : Nat → Prop} {x y : Str} (h1 : ∀ c ∈ x.cps.toList, p c) (h2 : ∀ c ∈ y.cps.toList, p c) : ∀ c ∈ (x ++ y).cps.toList, p c := fun c hc => by
  rw [app_list] at hc
  rcases List.mem_append.mp hc with h | h
  · exact h1 c h
  · exact h2 c h
theorem qeh {p : Nat → Prop} {x : Str} {c : Nat} (h1 : ∀ c ∈ x.cps.toList, p c) (h2 : p c) : ∀ d ∈ (x ++ sg c).cps.toList, p d := qcY h1 (qd3 h2)
end Gen
namespace Gen
open PySem L2 Bk
theorem small_str {x : Str} (h : ∀ c ∈ x.cps.toList, qdz c) : PyData.strOk x = true := by
  show (x.cps.all fun c => decide (c < 0x110000)) = true
  rw [Array.all_eq_true']
  intro c hc
  have := h c (by simpa using hc)
  unfold qdz at this
  exact decide_eq_true (by omega)
theorem strs_ok {nms : List Str} (h : ∀ x ∈ nms, Name x) : PySem.W.kqdOk 9 (.list (nms.map PySem.W.Dat.str)) = true := by
  simp only [PySem.W.kqdOk, List.all_eq_true, List.mem_map, decide_eq_true_eq]
  rintro d ⟨x, hx, rfl⟩
  have := small_str (h x hx).2.2
  simpa [PySem.W.kqdOk] using this
theorem qbs {nms : List Str} {i : Int} (h0 : 0 ≤ i) (h1 : i < ((nms.map V.str).length : Int)) : ∃ y, atI (nms.map V.str) i = some (.str y) ∧ y ∈ nms := by
  obtain ⟨v, e, m⟩ := qee h0 h1
  obtain ⟨y, my, rfl⟩ := List.mem_map.mp m
  exact ⟨y, e, my⟩
theorem back {st : Addr} {H H' : Hp} {b : Addr} (k : Keep1 st H H') (n : b ≠ st) (h : H' b = none) : H b = none := by
  cases e : H b with
  | none => rfl
  | some o =>
    rw [k b o n e] at h
    cases h
theorem qbt (a b : List Th) : qaU (a ++ b) = qaU a ++ qaU b := List.filterMap_append
theorem notes_of (l : List Int) : qaU (l.map fun k => Th.tri .note (.inr k) 0) = l := by
  unfold qaU
  rw [List.filterMap_map]
  exact List.filterMap_some
theorem nums_take {n m : Nat} (h : m ≤ n) : nums m = (nums n).take m := by
  unfold nums
  rw [← List.map_take, List.take_range, Nat.min_eq_left h]
theorem note_more (dn i : Nat) : ((nums (dn + (i + 1))).drop dn).map (fun k => Th.tri .note (.inr k) 0) = ((nums (dn + i)).drop dn).map (fun k => Th.tri .note (.inr k) 0) ++ [Th.tri .note (.inr ((dn + i : Nat) : Int)) 0] := by
  rw [← Nat.add_assoc, qcc, List.drop_append_of_le_length (by simp [nums]), List.map_append]
  rfl
theorem qa3 {α β : Type} {F : α → β → Prop} : ∀ {a b : List α} {c d : List β}, Paired F a c → Paired F b d → Paired F (a ++ b) (c ++ d)
  | _, _, _, _, .nil, h => h
  | _, _, _, _, .cons q t, h => .cons q (qa3 t h)
end Gen
namespace L2
theorem KeepN.back {st : PySem.Addr} {H H' : Hp} {b : PySem.Addr} (k : KeepN (fun b => b ≠ st) H H') (n : b ≠ st) (h : H' b = none) : H b = none := Gen.back k n h
end L2
namespace Gen
open PySem L2 Bk PyProof.Rows PySem.Spec
theorem rising_all : ∀ (l : List Str) (x : Str), risingS x l = true → (∀ y ∈ l, ¬ y.cps.toList < x.cps.toList) ∧ l.Pairwise fun a b => ¬ b.cps.toList < a.cps.toList
  | [], x, _ => ⟨(fun y hy => nomatch hy), List.Pairwise.nil⟩
  | y :: r, x, h => by
    have h' : (!ltCps y.cps.toList x.cps.toList && risingS y r) = true := h
    rw [Bool.and_eq_true] at h'
    obtain ⟨h1, h2⟩ := h'
    have n1 : ¬ y.cps.toList < x.cps.toList := by
      rw [ltCps_eq] at h1
      simpa using h1
    obtain ⟨a, b⟩ := rising_all r y h2
    refine ⟨fun z hz => ?_, List.Pairwise.cons (fun z hz => a z hz) b⟩
    rcases List.mem_cons.mp hz with rfl | hz
    · exact n1
    · intro lt
      exact a z hz (Std.lt_of_lt_of_le lt (List.not_lt.mp n1))
theorem sorted_all {l : List Str} (h : sortedS l = true) : l.Pairwise fun a b => ¬ b.cps.toList < a.cps.toList := by
  cases l with
  | nil => exact List.Pairwise.nil
  | cons x r =>
    obtain ⟨a, b⟩ := rising_all r x h
    exact List.Pairwise.cons a b
theorem str_eq {x y : Str} (h : x.cps.toList = y.cps.toList) : x = y := by
  obtain ⟨⟨x⟩⟩ := x
  obtain ⟨⟨y⟩⟩ := y
  cases h
  rfl
theorem rise_of {l : List Str} (h : sortedS l = true) (n : l.Nodup) : l.Pairwise fun a b => a.cps.toList < b.cps.toList := by
  have := (sorted_all h).and n
  refine this.imp fun {a b} q => ?_
  by_cases z : a.cps.toList < b.cps.toList
  · exact z
  · exact absurd (str_eq (List.le_antisymm (List.not_lt.mp q.1) (List.not_lt.mp z))) q.2
def fourMarks : List Str := [Str.ofString "big", Str.ofString "red", Str.ofString "far", Str.ofString "of"]
theorem four_names : ∀ x ∈ fourMarks, Name x := by
  intro x hx
  unfold Name qdz
  revert x hx
  decide +kernel
theorem marks_of {ks ms : List Str} (h : ∀ x ∈ ks, x ∈ fourMarks) (l : ks.length ≤ 4) (pm : ms.Perm (once ks)) (so : sortedS ms = true) : qcx ms := by
  have le : (once ks).length ≤ ks.length := by
    have : ∀ (a b : List Str), (a.foldl one1 b).length ≤ a.length + b.length := by
      intro a
      induction a with
      | nil => intro b; simp
      | cons x a ih =>
        intro b
        rw [List.foldl_cons]
        have h1 := ih (one1 b x)
        have h2 := qc4 b x
        have h3 : (one1 b x).length ≤ b.length + 1 := by rw [h2]; split <;> omega
        simp only [List.length_cons]
        omega
    simpa [once] using this ks []
  refine ⟨by rw [pm.length_eq]; omega, fun m hm => ?_, rise_of so (pm.nodup_iff.mpr (qd5 ks))⟩
  exact four_names m (h m ((once_mem ks m).mp (pm.mem_iff.mp hm)))
theorem inV_strs {x : Str} {nms : List Str} (h : inV (.str x) (nms.map V.str) = false) : ∀ y ∈ nms, y ≠ x := by
  intro y hy z
  have : inV (.str x) (nms.map V.str) = true := by
    unfold inV
    rw [List.any_eq_true]
    exact ⟨.str y, List.mem_map_of_mem hy, by show (y == x) = true; rw [z]; simp⟩
  rw [h] at this
  cases this
theorem qbh (nms : List Str) : (nms.map V.str).all flatV = true := by
  rw [List.all_eq_true]
  intro v hv
  obtain ⟨x, _, rfl⟩ := List.mem_map.mp hv
  rfl
theorem take_more {α β : Type} (f : α → β) {ts : List α} {i : Nat} {t : α} (h : ts[i]? = some t) : (ts.take (i + 1)).map f = (ts.take i).map f ++ [f t] := by
  rw [List.take_succ, h, List.map_append]
  rfl
theorem qbH {as : List Addr} {i : Nat} {x : V} (h : (as.map V.ref)[i]? = some x) : ∃ a, as[i]? = some a ∧ x = .ref a := by
  rw [List.getElem?_map] at h
  cases e : as[i]? with
  | none => rw [e] at h; cases h
  | some t => rw [e] at h; cases h; exact ⟨t, rfl, rfl⟩
end Gen
namespace Gen
open PySem L2 Bk PyProof.Rows
theorem nmok_of {ds : List Nd} {nm : Str} (h : nm = noName ∨ Name nm) (n : ∀ y ∈ ds.map (·.nm), y ≠ nm) : NmOk ds nm := by
  rcases h with h | h
  · exact .inl h
  · exact .inr ⟨h, fun c hc => n _ (List.mem_map_of_mem hc)⟩
theorem once_le (ks : List Str) : (once ks).length ≤ ks.length := by
  have : ∀ (a b : List Str), (a.foldl one1 b).length ≤ a.length + b.length := by
    intro a
    induction a with
    | nil => intro b; simp
    | cons x a ih =>
      intro b
      rw [List.foldl_cons]
      have h1 := ih (one1 b x)
      have h2 := qc4 b x
      have h3 : (one1 b x).length ≤ b.length + 1 := by rw [h2]; split <;> omega
      simp only [List.length_cons]
      omega
  simpa [once] using this ks []
theorem not_in {v : V} {l : List V} (h : ¬ (if false = true then !inV v l else inV v l) = true) : inV v l = false := by
  rw [if_neg Bool.false_ne_true] at h
  exact Bool.eq_false_iff.mpr h
end Gen
namespace Gen
open PySem L2 Bk
theorem qbY {e lv : Nat} (hl : lv ≤ 6) : ∀ (nts : List Nd) (i : Nat), (∀ c ∈ nts, c.e = (e : Int) ∧ c.k = .note ∧ qaU c.st = []) → Forest e i lv nts (List.replicate nts.length .note)
  | [], i, _ => .nil
  | c :: nts, i, h => by
    obtain ⟨h1, h2, h3⟩ := h c List.mem_cons_self
    have f := qbY hl nts (i + 1) fun d hd => h d (List.mem_cons_of_mem _ hd)
    have := Forest.cons (d := c) (sub := []) (ks := []) h1 hl (by rw [h2]; decide) .nil ⟨(fun c hc => nomatch hc), (by rw [h2]; intro z; cases z), trivial, (fun _ => h3)⟩ (show Forest e (i + 1 + ([] : List Nd).length) lv nts _ from f)
    rw [h2, List.nil_append] at this
    exact this
theorem nexts_notes : ∀ n, Nexts (List.replicate n .note)
  | 0 => trivial
  | n + 1 => nexts_notes n
theorem holds_notes {k : Kd} {n : Nat} {st : List Th} (hk : k = .text ∨ k = .head) (h : qaU st = nums n) : Holds k (List.replicate n .note) st := by
  refine ⟨fun c hc => ?_, fun z => ?_, nexts_notes n, fun _ => by rw [List.length_replicate]; exact h⟩
  · rw [List.eq_of_mem_replicate hc]
    rcases hk with rfl | rfl <;> rfl
  · rcases hk with rfl | rfl <;> cases z
theorem qev {d : Nd} {n : Nat} (hk : d.k = .text ∨ d.k = .head ∨ d.k = .note) (p : Pieces n d.st) (m : qcx d.mks) (nm : d.nm = noName ∨ Name d.nm) : Form d := by
  refine ⟨nm, m, ?_⟩
  rcases hk with h | h | h <;> rw [h] <;> exact ⟨p.ok, p.ne, p.le⟩
theorem NmOk.or {ds : List Nd} {x : Str} (h : NmOk ds x) : x = noName ∨ Name x := by
  rcases h with h | h
  · exact .inl h
  · exact .inr h.1
theorem nowhere_name : Name (Str.ofString "nowhere") := by unfold Name qdz; decide +kernel
theorem notes_at {r : Int} (h0 : 0 ≤ r) (h1 : r < 5) : ∃ n : Nat, n ≤ 2 ∧ atI [V.int 0, V.int 0, V.int 1, V.int 0, V.int 2] r = some (.int n) := by
  rcases (by omega : r = 0 ∨ r = 1 ∨ r = 2 ∨ r = 3 ∨ r = 4) with rfl | rfl | rfl | rfl | rfl
  · exact ⟨0, by decide, rfl⟩
  · exact ⟨0, by decide, rfl⟩
  · exact ⟨1, by decide, rfl⟩
  · exact ⟨0, by decide, rfl⟩
  · exact ⟨2, by decide, rfl⟩
theorem text_more {e lv n : Nat} {k : Kd} {ds nts : List Nd} {d : Nd} (hk : k = .text ∨ k = .head) (hl : lv ≤ 5) (he : d.e = (e : Int)) (hdk : d.k = k) (p : Pieces n d.st) (m : qcx d.mks) (nm : NmOk ds d.nm) (hn : nts.length = n)
    (hc : ∀ c ∈ nts, c.e = (ds.length : Int) ∧ c.k = .note ∧ Pieces 0 c.st ∧ qcx c.mks ∧ (c.nm = noName ∨ Name c.nm)) (na : Names (ds ++ (d :: nts))) : More e lv ds (d :: nts) [k] := by
  refine ⟨?_, fun c hc' => ?_, na⟩
  · have f := qbY (e := ds.length) (lv := lv + 1) (by omega) nts (ds.length + 1) fun c h => ⟨(hc c h).1, (hc c h).2.1, (hc c h).2.2.1.nn⟩
    have := Forest.one (d := d) he (by omega) (by rw [hdk]; rcases hk with rfl | rfl <;> decide) f (by rw [hdk]; exact holds_notes hk (by rw [hn]; exact p.nn))
    rw [hdk] at this
    exact this
  · rcases List.mem_cons.mp hc' with rfl | h
    · exact qev (by rw [hdk]; rcases hk with rfl | rfl <;> simp) p m nm.or
    · obtain ⟨_, h2, h3, h4, h5⟩ := hc c h
      exact qev (by rw [h2]; simp) h3 h4 h5
end Gen
namespace L2
theorem qbF {t u : TS} {D : Ends} {σ : St} {H : Hp} (P : St → Hp → Prop) (h : ∀ D' : Ends, (∀ σ' H', P σ' H' → D'.nx σ' H') → t D' σ H) (k : ∀ σ' H', P σ' H' → u D σ' H') : tSeq t u D σ H := h _ k
theorem qbj {c : TT} {t u : TS} {D : Ends} {σ : St} {H : Hp} (P : Bool → Hp → Prop) (h : ∀ Q : Bool → Hp → Prop, (∀ b H', P b H' → Q b H') → c σ H Q) (k : ∀ b H', P b H' → if b = true then t D σ H' else u D σ H') : tIfS c t u D σ H := h _ k
theorem qc0 {te : TE} {g : TG} {D : Ends} {σ : St} {H : Hp} (P : V → Hp → Prop) (h : ∀ Q : VK, (∀ v H', P v H' → Q v H') → te σ H Q) (k : ∀ v H', P v H' → g v σ H' D.nx) : tAsg te g D σ H := h _ k
end L2
namespace Gen
open PySem L2 Bk
theorem kdt (k k' : Kd) : decide (V.str k.s = V.str k'.s) = decide (k = k') := by
  by_cases h : k = k'
  · rw [decide_eq_true h, h]; simp
  · rw [decide_eq_false h]
    exact decide_eq_false fun z => h ((Kd.inj k k').mp (V.str.inj z))
def kindsL : List Kd := [.text, .text, .picture, .case, .shelf, .grid, .head, .aside]
theorem kinds_at {r : Int} (h0 : 0 ≤ r) (h1 : r < 8) : ∃ k : Kd, atI (kindsL.map fun k => V.str k.s) r = some (.str k.s) ∧ (k = .text ∨ k = .picture ∨ k = .case ∨ k = .shelf ∨ k = .grid ∨ (6 ≤ r ∧ (k = .head ∨ k = .aside))) := by
  rcases (by omega : r = 0 ∨ r = 1 ∨ r = 2 ∨ r = 3 ∨ r = 4 ∨ r = 5 ∨ r = 6 ∨ r = 7) with rfl | rfl | rfl | rfl | rfl | rfl | rfl | rfl
  · exact ⟨.text, rfl, .inl rfl⟩
  · exact ⟨.text, rfl, .inl rfl⟩
  · exact ⟨.picture, rfl, .inr (.inl rfl)⟩
  · exact ⟨.case, rfl, .inr (.inr (.inl rfl))⟩
  · exact ⟨.shelf, rfl, .inr (.inr (.inr (.inl rfl)))⟩
  · exact ⟨.grid, rfl, .inr (.inr (.inr (.inr (.inl rfl))))⟩
  · exact ⟨.head, rfl, .inr (.inr (.inr (.inr (.inr ⟨by decide, .inl rfl⟩))))⟩
  · exact ⟨.aside, rfl, .inr (.inr (.inr (.inr (.inr ⟨by decide, .inr rfl⟩))))⟩
def Leaf (k : Kd) : Prop := k = .text ∨ k = .head ∨ k = .picture
def qe1 (ke k : Kd) : Prop := (mayHold ke k = true ∨ (k = .aside ∧ ke = .aside)) ∧ (k = .text ∨ k = .picture ∨ k = .case ∨ k = .shelf ∨ k = .grid ∨ k = .head ∨ k = .aside)
theorem kind0_of {ke k : Kd} {sd : Bool} {r : Int} (hc : Cont ke) (hs : sd = true ↔ ke = .shelf ∨ ke = .grid) (hr : r < if sd = true then 6 else 8)
    (hk : k = .text ∨ k = .picture ∨ k = .case ∨ k = .shelf ∨ k = .grid ∨ (6 ≤ r ∧ (k = .head ∨ k = .aside))) : qe1 ke k := by
  unfold qe1
  have hsd : 6 ≤ r → ¬ (ke = .shelf ∨ ke = .grid) := fun h z => by
    rw [if_pos (hs.mpr z)] at hr
    omega
  rcases hc with rfl | rfl | rfl | rfl | rfl <;> rcases hk with rfl | rfl | rfl | rfl | rfl | ⟨h6, rfl | rfl⟩ <;> first | exact ⟨.inl rfl, by decide⟩ | exact ⟨.inr ⟨rfl, rfl⟩, by decide⟩ | exact absurd (show _ ∨ _ by first | exact .inl rfl | exact .inr rfl) (hsd h6)
instance (k : Kd) : Decidable (Leaf k) := inferInstanceAs (Decidable (k = .text ∨ k = .head ∨ k = .picture))
def leafL : List Kd := [.text, .head, .picture]
theorem qdK (k : Kd) : inV (.str k.s) (leafL.map fun k => V.str k.s) = decide (Leaf k) := by
  unfold inV leafL Leaf
  have e : ∀ a b : Kd, eqV (.str a.s) (.str b.s) = decide (a = b) := fun a b => by
    show (a.s == b.s) = _
    rw [Bool.eq_iff_iff]
    simp [Kd.inj]
  simp only [List.map_cons, List.map_nil, List.any_cons, List.any_nil, e]
  cases k <;> rfl
theorem qdL {ke : Kd} (hc : Cont ke) : mayHold ke .text = true := by rcases hc with rfl | rfl | rfl | rfl | rfl <;> rfl
theorem may_picture {ke : Kd} (hc : Cont ke) : mayHold ke .picture = true := by rcases hc with rfl | rfl | rfl | rfl | rfl <;> rfl
structure Kind2 (ke k : Kd) (lv R n : Nat) : Prop where
  may : mayHold ke k = true
  lvl : 3 < lv → Leaf k
  room : R ≤ n → Leaf k
  one : k = .text ∨ k = .picture ∨ k = .case ∨ k = .shelf ∨ k = .grid ∨ k = .head ∨ k = .aside
theorem eight_six (sd : Bool) : atI [V.int 8, V.int 6] (if sd = true then 1 else 0) = some (.int (if sd = true then 6 else 8)) := by cases sd <;> rfl
theorem qdP {R lv n : Nat} (h : n < R) : n + 3 ≤ cap R lv := by unfold cap; split <;> (try split) <;> (try split) <;> omega
def CapB (R lv j n : Nat) : Prop := n ≤ R + 3 * j ∨ (1 ≤ j ∧ n ≤ cap R (lv + 1) + 3 * (j - 1))
theorem qdn {R lv j n n' : Nat} (h : CapB R lv j n) (h1 : R ≤ n → n' ≤ n + 3) (h2 : n < R → n' ≤ cap R (lv + 1)) : CapB R lv (j + 1) n' := by
  unfold CapB at *
  by_cases z : n < R
  · exact .inr ⟨by omega, by have := h2 z; omega⟩
  · have := h1 (by omega)
    rcases h with h | ⟨h, h'⟩
    · exact .inl (by omega)
    · exact .inr ⟨by omega, by omega⟩
theorem capB_end {R lv j n : Nat} (h : CapB R lv j n) (hj : j ≤ 3) (hl : 1 ≤ lv) (hl3 : lv ≤ 3) : n + 3 ≤ cap R lv := by
  unfold CapB cap at *
  rcases (by omega : lv = 1 ∨ lv = 2 ∨ lv = 3) with rfl | rfl | rfl <;> simp at * <;> omega
theorem qeb {R lv j n : Nat} (h : CapB R lv j n) (hj : j ≤ 3) (hR : R ≤ 12) : n ≤ 60 := by
  unfold CapB cap at h
  split at h <;> (try split at h) <;> (try split at h) <;> omega
structure Kids (at_ lv : Nat) (k : Kd) (pre sub : List Nd) (ks : List Kd) : Prop where
  fo : Forest at_ (at_ + 1) (lv + 1) sub ks
  fm : ∀ d ∈ sub, Form d
  nm : Names (pre ++ sub)
  ok : qdA (pre ++ sub)
  may : ∀ c ∈ ks, mayHold k c = true
  nx : Nexts ks
theorem Kids.more {at_ lv : Nat} {k : Kd} {pre sub more : List Nd} {ks ks' : List Kd} (x : Kids at_ lv k pre sub ks) (hl : (pre ++ sub).length = at_ + 1 + sub.length) (m : More at_ (lv + 1) (pre ++ sub) more ks') (i : ItemKs k ks') : Kids at_ lv k pre (sub ++ more) (ks ++ ks') := by
  refine ⟨x.fo.append (by have := m.fo; rw [hl] at this; exact this), fun d hd => ?_, by rw [← List.append_assoc]; exact m.nm, fun d hd => ?_, fun c hc => ?_, x.nx.append i.nexts⟩
  · rcases List.mem_append.mp hd with h | h
    · exact x.fm d h
    · exact m.fm d h
  · rw [← List.append_assoc] at hd
    rcases List.mem_append.mp hd with h | h
    · exact x.ok d h
    · exact (m.fm d h).nm
  · rcases List.mem_append.mp hc with h | h
    · exact x.may c h
    · exact i.may c h
theorem More.nms {e lv : Nat} {ds more : List Nd} {ks : List Kd} (m : More e lv ds more ks) (h : qdA ds) : qdA (ds ++ more) := fun d hd => by
  rcases List.mem_append.mp hd with z | z
  · exact h d z
  · exact (m.fm d z).nm
theorem box_more {e lv : Nat} {ds sub : List Nd} {d : Nd} {ks : List Kd} (he : d.e = (e : Int)) (hl : lv ≤ 6) (hk : d.k = .case ∨ d.k = .shelf ∨ d.k = .grid ∨ d.k = .aside) (hst : d.st = []) (hm : qcx d.mks) (nm : NmOk ds d.nm)
    (x : Kids ds.length lv d.k (ds ++ [d]) sub ks) (hne : d.k ≠ .case → ks ≠ []) : More e lv ds (d :: sub) [d.k] := by
  refine ⟨Forest.one he hl (by rcases hk with h | h | h | h <;> rw [h] <;> decide) x.fo ⟨x.may, fun z => ?_, x.nx, fun z => ?_⟩, fun c hc => ?_, by have := x.nm; simpa using this⟩
  · refine hne fun q => ?_
    rw [q] at z
    cases z
  · rcases hk with h | h | h | h <;> rw [h] at z <;> cases z
  · rcases List.mem_cons.mp hc with rfl | h
    · refine ⟨nm.or, hm, ?_⟩
      rcases hk with h | h | h | h <;> rw [h] <;> exact hst
    · exact x.fm c h
theorem pic_more {e lv : Nat} {ds : List Nd} {d : Nd} {a b : Int} (he : d.e = (e : Int)) (hl : lv ≤ 6) (hk : d.k = .picture) (hst : d.st = [.int a, .int b]) (ha : 1 ≤ a ∧ a ≤ 2000) (hb : 1 ≤ b ∧ b ≤ 2000) (hm : qcx d.mks) (nm : NmOk ds d.nm) (na : Names ds) : More e lv ds [d] [.picture] := by
  refine ⟨?_, fun c hc => ?_, qbo na nm⟩
  · have := Forest.one (i := ds.length) (lv := lv) (sub := []) (ks := []) he hl (by rw [hk]; decide) .nil ⟨(fun c hc => nomatch hc), (by rw [hk]; intro z; cases z), trivial, (by rw [hk]; intro z; cases z)⟩
    rw [hk] at this
    exact this
  · have : c = d := by simpa using hc
    subst this
    refine ⟨nm.or, hm, ?_⟩
    rw [hk, hst]
    exact ⟨a, b, rfl, ha.1, ha.2, hb.1, hb.2⟩
theorem More.cat {e lv : Nat} {ds a b : List Nd} {ks ks' : List Kd} (x : More e lv ds a ks) (y : More e lv (ds ++ a) b ks') : More e lv ds (a ++ b) (ks ++ ks') := by
  refine ⟨x.fo.append (by have := y.fo; rw [List.length_append] at this; exact this), fun d hd => ?_, by rw [← List.append_assoc]; exact y.nm⟩
  rcases List.mem_append.mp hd with h | h
  · exact x.fm d h
  · exact y.fm d h
end Gen
namespace Bk
open PySem L2
open PySem.W (Dat kqdOk)
def thgD : Sum Str Int → Dat
  | .inl w => .str w
  | .inr k => .int k
def thD : Th → Dat
  | .int n => .int n
  | .tri s x t => .tuple [.str s.s, thgD x, .int t]
def ndD (d : Nd) : Dat := .tuple [.int d.e, .str d.k.s, .str d.nm, .list (d.mks.map Dat.str), .list (d.st.map thD)]
def bkD (ds : List Nd) : Dat := .list (ds.map ndD)
section
variable {N : Addr → Prop} {H : Hp}
theorem th_in {v : V} {x : Th} (h : ItAt N H v x) : DIn H v (thD x) := by
  cases x with
  | int n => cases h; exact .int n
  | tri s x t =>
    obtain ⟨a, rfl, _, e⟩ := h
    refine .tup e (.cons (.str _) (.cons ?_ (.cons (.int _) .nil)))
    cases x with
    | inl w => exact .str w
    | inr k => exact .int k
theorem ths_in {vs : List V} {l : List Th} (p : Paired (ItAt N H) vs l) : DAll H vs (l.map thD) := by
  induction p with
  | nil => exact .nil
  | cons q t ih => exact .cons (th_in q) ih
theorem nd_in {a : Addr} {d : Nd} (h : NdAt N H a d) : DIn H (.ref a) (ndD d) := by
  obtain ⟨_, m, s, e, _, em, _, vs, es, p⟩ := h
  exact .tup e (.cons (.int _) (.cons (.str _) (.cons (.str _) (.cons (.lst em (qe4 _)) (.cons (.lst es (ths_in p)) .nil)))))
theorem qeF {as : List Addr} {ds : List Nd} (p : NdsAt N H as ds) : DAll H (as.map V.ref) (ds.map ndD) := by
  induction p with
  | nil => exact .nil
  | cons q t ih => exact .cons (nd_in q) ih
theorem bk_in {p : Addr} {ds : List Nd} (h : qaY N H p ds) : DIn H (.ref p) (bkD ds) := by
  obtain ⟨as, e, q⟩ := h
  exact .lst e (qeF q)
end
theorem low_str {x : Str} (h : ∀ c ∈ x.cps.toList, c < 128) : PyData.strOk x = true := by
  show (x.cps.all fun c => decide (c < 0x110000)) = true
  rw [Array.all_eq_true']
  intro c hc
  have := h c (by simpa using hc)
  exact decide_eq_true (by omega)
theorem qeL (k : Kd) : PyData.strOk k.s = true := by cases k <;> decide +kernel
theorem qcG (s : So) : PyData.strOk s.s = true := by cases s <;> decide +kernel
theorem word_low : ∀ c ∈ wordSigns, c < 128 := by decide
theorem qdO {w : Str} (h : Word w) : PyData.strOk w = true := low_str fun c hc => word_low c (h.2.2 c hc)
theorem qbA {n : Str} (h : n = noName ∨ Name n) : PyData.strOk n = true := by
  rcases h with rfl | h
  · decide +kernel
  · exact Gen.small_str h.2.2
theorem pc_ok {x : Th} (h : PcOk x) : kqdOk 6 (thD x) = true := by
  cases x with
  | int n => cases h
  | tri s x t =>
    cases s <;> cases x <;> first | (exfalso; exact h) | skip
    · have := qdO h.1
      simp [thD, thgD, kqdOk, this, qcG]
    · have := qbA (.inr h.1)
      simp [thD, thgD, kqdOk, this, qcG]
    · simp [thD, thgD, kqdOk, qcG]
theorem stuff_ok {k : Kd} {l : List Th} (h : Stuff k l) : ∀ x ∈ l, kqdOk 6 (thD x) = true := by
  intro x hx
  cases k <;> first
    | (obtain ⟨h1, _⟩ := h; exact pc_ok (h1 x hx))
    | (obtain ⟨a, b, rfl, _⟩ := h; rcases List.mem_cons.mp hx with rfl | hx; rfl; have : x = .int b := (by simpa using hx); subst this; rfl)
    | (have : l = [] := h; subst this; cases hx)
theorem nd_ok {d : Nd} (h : Form d) : kqdOk 8 (ndD d) = true := by
  have h1 := qbA h.nm
  have h2 : ∀ m ∈ d.mks, PyData.strOk m = true := fun m hm => qbA (.inr (h.mks.2.1 m hm))
  have h3 := stuff_ok h.st
  simp only [ndD, kqdOk, List.all_cons, List.all_nil, Bool.and_true, Bool.and_eq_true, List.all_eq_true, List.mem_map]
  refine ⟨trivial, qeL _, h1, ?_, ?_⟩
  · rintro x ⟨m, hm, rfl⟩
    exact h2 m hm
  · rintro x ⟨m, hm, rfl⟩
    exact h3 m hm
theorem bk_ok {ds : List Nd} (h : ∀ d ∈ ds, Form d) : kqdOk 9 (bkD ds) = true := by
  simp only [bkD, kqdOk, List.all_eq_true, List.mem_map]
  rintro x ⟨d, hd, rfl⟩
  exact nd_ok (h d hd)
theorem qec {xs : List V} (h : 1 ≤ xs.length) : cutV xs none (some 1) = xs.take 1 := by
  unfold cutV
  rw [HT.sIx_none, show HT.sIx xs.length xs.length (some 1) = 1 from by rw [show (1 : Int) = ((1 : Nat) : Int) from rfl, HT.sIx_nat]; omega]
  simp
theorem qdj {xs : List V} (h : 1 ≤ xs.length) : cutV xs (some 1) none = xs.drop 1 := by
  unfold cutV
  rw [HT.sIx_none, show HT.sIx xs.length 0 (some 1) = 1 from by rw [show (1 : Int) = ((1 : Nat) : Int) from rfl, HT.sIx_nat]; omega]
  rw [List.take_of_length_le]
  rw [List.length_drop]
  omega
def bodyNd : Nd := ⟨-1, .body, noName, [], []⟩
theorem body_form : Form bodyNd := ⟨.inl rfl, ⟨by decide, (fun m hm => nomatch hm), List.Pairwise.nil⟩, rfl⟩
end Bk
namespace Gen
open PySem L2 Bk
theorem kids0 : Kids 0 0 .body [bodyNd] [] [] := by
  refine ⟨.nil, (fun d hd => nomatch hd), ?_, fun d hd => ?_, (fun c hc => nomatch hc), trivial⟩
  · show Names ([] ++ [bodyNd])
    exact qbo Names.nil (.inl rfl)
  · have : d = bodyNd := by simpa using hd
    subst this
    exact .inl rfl
end Gen
namespace L2
open PySem PySem.Spec PyProof.Rows
end L2
namespace L2
open PySem PySem.Spec PyProof.Rows
def rList (K : PySem.W.Frag) : List V → Hp → VK → Prop := fun xs H Q => ∃ p ys, xs = [.ref p] ∧ (SqL K H p ys ∨ SqT K H p ys) ∧ ∀ l, H l = none → Q (.ref l) (upd H l (.lst ys))
theorem call_listK {X : Cx} (K : PySem.W.Frag) (hK : X.K = K) : qbU X (.type "list") (rList K) := by
  subst hK
  exact call_list_of
theorem Fx.none {P : Program} {w : World} {K : PySem.W.Frag} {mg : Str → Option Value} {base : Heap} {CX : CXT} {k : Nat} {x : Str} {ps : List Str} {f : Addr} {fd : FuncData} {sp : Sp} (b : Binds K fd ps []) (kp : PySem.W.keepIn K (.ref f) = true) (m : mg x = some (.ref f)) (no : ∀ vs H Q E, ¬ sp vs H Q E) : Fx P w K mg base CX k x ps sp :=
  ⟨f, fd, ⟨fun _ _ _ _ h => (no _ _ _ _ h).elim, fun _ _ _ _ _ _ _ _ _ _ _ _ _ h => (no _ _ _ _ h).elim⟩, b, kp, m⟩
theorem qcr {X : Cx} {es : List Expr} {k : Nat} {t : TGs} {n : Nat} {pos : Pos} (K : PySem.W.Frag) (hK : X.K = K) (hc : X.calm = true) (h : PGs X es t)
    (hn : (assignEach es X.env).length = n := by rfl) (hst : (assignEach es X.env).findIdx? (·.1) = none := by rfl) : PG X (.Tuple es k pos) (gTup K n t) := by
  subst hK
  exact qcH hc h hn hst
end L2
namespace Gen
open PySem L2 Bk
section
variable {X : Cx}
theorem pe_isi {e : Expr} {te : TE} {T : Str} {T' : String} {p1 p2 pos : Pos} (hi : X.mg "isinstance" = none) (g1 : Gl X "isinstance") (hT : X.mg T = none) (gT : Gl X T) (bT : bootBuiltins T = some (.type T')) (he : PE X e te) (hn : T ≠ "__name__" := by decide) (hd : (T == ("__debug__" : Str)) = false := by decide)
    (h1 : starEach [e, .Name T p2] X.env = (false, eval e X.env) :: starEach [.Name T p2] X.env := by rfl) (h2 : starEach [.Name T p2] X.env = (false, eval (.Name T p2) X.env) :: starEach [] X.env := by rfl) (h3 : (backTo pos (starEach [.Name T p2] X.env)).any (·.1) = false := by rfl) :
    PE X (.Call (.Name "isinstance" p1) [e, .Name T p2] [] pos) (tCB (fun xs H Q => ∃ x c t b, xs = [x, c] ∧ TyOf X.K H x t ∧ (∃ cv, (∀ u, RelV c u → u = cv) ∧ PySem.W.kitOne X.K t cv = some b) ∧ Q (.bl b) H) (qbG te (qbG (tC (.ty T')) tNil))) :=
  qaB call_isinst g1 hi b_isinstance (qaa he (qaa (pe_bltn (v := .ty T') gT hT bT rfl hn hd) pa_nil h2) h1) (by decide) (by decide) h1 h3
end
end Gen
namespace Gen
open PySem L2 Bk
theorem item_none : ∀ vs H Q E, ¬ qbM 0 vs H Q E := by
  rintro vs H Q E ⟨H0, p, st, e, lv, R, de, ds, rfl, _, _, _, h1, h2, h3, _⟩
  omega
end Gen
namespace L2
open PySem PySem.Spec PyProof.Rows
end L2
namespace Bk
open PySem L2 Gen
inductive Lev (ds : List Nd) : Nat → Nat → Prop
  | top {i : Nat} {d : Nd} : ds[i]? = some d → d.e = -1 → Lev ds i 0
  | up {i j l : Nat} {d : Nd} : ds[i]? = some d → d.e = (j : Int) → j < i → Lev ds j l → Lev ds i (l + 1)
theorem Forest.elds {e i lv : Nat} {l : List Nd} {ks : List Kd} (x : Forest e i lv l ks) : e < i → ∀ (k : Nat) (d : Nd), l[k]? = some d → ∃ j : Nat, d.e = (j : Int) ∧ j < i + k := by
  induction x with
  | nil => intro _ k d h; cases h
  | @cons e i lv d sub rest ks ks' h1 h2 h3 f1 h4 f2 ih1 ih2 =>
    intro he k c hk
    cases k with
    | zero => cases hk; exact ⟨e, h1, by omega⟩
    | succ k =>
      rw [List.getElem?_cons_succ] at hk
      by_cases hs : k < sub.length
      · rw [List.getElem?_append_left hs] at hk
        obtain ⟨j, ej, hj⟩ := ih1 (by omega) k c hk
        exact ⟨j, ej, by omega⟩
      · rw [List.getElem?_append_right (by omega)] at hk
        obtain ⟨j, ej, hj⟩ := ih2 (by omega) _ c hk
        exact ⟨j, ej, by omega⟩
theorem Book.lev {ds : List Nd} (b : Book ds) : ∀ (i : Nat), i < ds.length → ∃ l, l ≤ i ∧ Lev ds i l := by
  obtain ⟨d, sub, ks, rfl, h1, h2, f, _⟩ := b.tree
  intro i
  induction i using Nat.strongRecOn with
  | _ i ih =>
    intro hi
    cases i with
    | zero => exact ⟨0, Nat.le_refl _, .top rfl h1⟩
    | succ k =>
      have hk : k < sub.length := by simpa using hi
      have e : sub[k]? = some sub[k] := List.getElem?_eq_getElem hk
      obtain ⟨j, ej, hj⟩ := f.elds (by decide) k _ e
      obtain ⟨l, hl, hv⟩ := ih j (by omega) (by simp; omega)
      exact ⟨l + 1, by omega, .up (by rw [List.getElem?_cons_succ]; exact e) ej (by omega) hv⟩
end Bk
namespace Gen
open PySem L2 Bk
theorem nmt (x : Str) : decide (V.str x = V.str (Str.ofString "")) = decide (x = noName) := by
  by_cases h : x = noName
  · rw [decide_eq_true h, h]; exact decide_eq_true rfl
  · rw [decide_eq_false h]
    exact decide_eq_false fun z => h (V.str.inj z)
end Gen
namespace Gen
open PySem L2 Bk
end Gen
namespace Bk
open PySem L2 Gen
open PySem.W (Dat kqdOk)
end Bk
namespace Bk
open PySem L2
def eldR (ds : List Nd) : Nat → Int → List Int
  | 0, _ => []
  | m + 1, ab => ab :: eldR ds m (match ds[ab.toNat]? with | some d => d.e | none => -1)
theorem qbO (ds : List Nd) : ∀ (m : Nat) (ab : Int), (eldR ds m ab).length = m
  | 0, _ => rfl
  | m + 1, ab => by rw [eldR, List.length_cons, qbO ds m]
theorem qdc {ds : List Nd} {j m : Nat} {d : Nd} (h : ds[j]? = some d) : eldR ds (m + 1) (j : Int) = (j : Int) :: eldR ds m d.e := by
  rw [eldR, Int.toNat_natCast, h]
def RemE (ds : List Nd) (ab : Int) (m : Nat) : Prop := (ab = -1 ∧ m = 0) ∨ ∃ j k : Nat, ab = j ∧ Lev ds j k ∧ m = k + 1
theorem qbD {ds : List Nd} {i l : Nat} {d : Nd} (h : Lev ds i l) (e' : ds[i]? = some d) : RemE ds d.e l := by
  cases h with
  | top e h => rw [e'] at e; cases e; exact .inl ⟨h, rfl⟩
  | up e h1 h2 h3 => rw [e'] at e; cases e; exact .inr ⟨_, _, h1, h3, rfl⟩
theorem Lev.nd {ds : List Nd} {i l : Nat} (h : Lev ds i l) : ∃ d, ds[i]? = some d := by
  cases h with
  | top e h => exact ⟨_, e⟩
  | up e h1 h2 h3 => exact ⟨_, e⟩
theorem same_put {H H' : Hp} {L : Addr} {o : HO} (s : Same H H') (h : H L = none) : Same H (upd H' L o) := fun b u e => by rw [qai (qao e h)]; exact s b u e
end Bk
namespace Gen
open PySem L2 Bk
def spElders : Sp := fun vs H Q _ => ∃ (p : Addr) (i l : Nat) (d : Nd) (ds : List Nd) (N : Addr → Prop), vs = [.ref p, .int i] ∧ qaY N H p ds ∧ ds[i]? = some d ∧ Lev ds i l ∧ l ≤ 999 ∧
  ∀ (L : Addr) (H' : Hp), H L = none → Same H H' → H' L = some (.lst ((eldR ds l d.e).map V.int)) → Q (.ref L) H'
end Gen
namespace L2
open PySem PySem.Spec PyProof.Rows
section
variable {X : Cx} {CX : CXT} {k : Nat} {ps : List Str} {sp : Sp} {E : XK} {x : Str} {p pos : Pos}
theorem qdX (F : Fx X.prog X.w X.K X.mg X.base CX k x ps sp) (hr : Room k X.A) (hg : Gl X x) (hx : qcI CX X E) (hdb : (x == ("__debug__" : Str)) = false := by decide) : PE X (.Call (.Name x p) [] [] pos) (qeC sp [] E tNil) := by
  obtain ⟨f, fd, G, b, kp, m⟩ := F.ex
  exact pe_call0 G hr hg m kp b .nil hx hdb
end
end L2
namespace Bk
open PySem L2
def kupR (ds : List Nd) : Nat → Int → List Str
  | 0, _ => []
  | m + 1, ab => (match ds[ab.toNat]? with | some d => d.k.s | none => noName) :: kupR ds m (match ds[ab.toNat]? with | some d => d.e | none => -1)
theorem qdH (ds : List Nd) : ∀ (m : Nat) (ab : Int), (kupR ds m ab).length = m
  | 0, _ => rfl
  | m + 1, ab => by rw [kupR, List.length_cons, qdH ds m]
theorem qdq {ds : List Nd} {j m : Nat} {d : Nd} (h : ds[j]? = some d) : kupR ds (m + 1) (j : Int) = d.k.s :: kupR ds m d.e := by
  rw [kupR, Int.toNat_natCast, h]
theorem qeK {ds : List Nd} : ∀ {m : Nat} {ab : Int}, RemE ds ab m → ∀ {i : Nat} {e : Int}, (eldR ds m ab)[i]? = some e → ∃ (j : Nat) (d : Nd), e = (j : Int) ∧ ds[j]? = some d ∧ (kupR ds m ab)[i]? = some d.k.s
  | 0, ab, _, i, e, h => by cases h
  | m + 1, ab, rm, i, e, h => by
    rcases rm with ⟨_, z⟩ | ⟨j, k, rfl, lj, z⟩
    · cases z
    · cases z
      obtain ⟨d, ed⟩ := lj.nd
      rw [qdc ed] at h
      rw [qdq ed]
      cases i with
      | zero => cases h; exact ⟨j, d, rfl, ed, rfl⟩
      | succ i =>
        rw [List.getElem?_cons_succ] at h ⊢
        exact qeK (qbD lj ed) h
structure Rl where
  rank : Int
  k : Str
  wi : Str
  mrk : Str
  sets : List (Str × Int)
def SetAt (N : Addr → Prop) (H : Hp) (v : V) (y : Str × Int) : Prop := ∃ a, v = .ref a ∧ N a ∧ H a = some (.tup [.str y.1, .int y.2])
structure RlAt (N : Addr → Prop) (H : Hp) (r : Addr) (x : Rl) : Prop where
  nr : N r
  ex : ∃ s vs, H r = some (.tup [.int x.rank, .str x.k, .str x.wi, .str x.mrk, .ref s]) ∧ N s ∧ H s = some (.lst vs) ∧ Paired (SetAt N H) vs x.sets
theorem SetAt.keep {N N' : Addr → Prop} {H H' : Hp} {v : V} {y : Str × Int} (h : SetAt N H v y) (k : KeepN N H H') (sub : ∀ b, N b → (H b).isSome = true → N' b) : SetAt N' H' v y := by
  obtain ⟨a, e, n, g⟩ := h
  exact ⟨a, e, sub a n (by rw [g]; rfl), k _ _ n g⟩
theorem RlAt.keep {N N' : Addr → Prop} {H H' : Hp} {r : Addr} {x : Rl} (h : RlAt N H r x) (k : KeepN N H H') (sub : ∀ b, N b → (H b).isSome = true → N' b) : RlAt N' H' r x := by
  obtain ⟨nr, s, vs, e1, ns, e2, p⟩ := h
  exact ⟨sub r nr (by rw [e1]; rfl), s, vs, k _ _ nr e1, sub s ns (by rw [e2]; rfl), k _ _ ns e2, p.mono fun v y q => q.keep k sub⟩
theorem qa8 {α β : Type} {F : α → β → Prop} {l1 : List α} {l2 : List β} (h : Paired F l1 l2) {i : Nat} {a : α} (e : l1[i]? = some a) : ∃ b, l2[i]? = some b ∧ F a b := by
  induction h generalizing i with
  | nil => cases e
  | @cons a b l1 l2 q t ih =>
    cases i with
    | zero => cases e; exact ⟨b, rfl, q⟩
    | succ i => exact ih (by simpa using e)
def kOk (d : Nd) (x : Rl) : Bool := decide (x.k = noName) || decide (d.k.s = x.k)
def wOk (ks : List Str) (x : Rl) : Bool := decide (x.wi = noName) || decide (x.wi ∈ ks)
def mOk (d : Nd) (x : Rl) : Bool := decide (x.mrk = noName) || decide (x.mrk ∈ d.mks)
def qaV (ds : List Nd) (l : Nat) (d : Nd) (x : Rl) : Bool := kOk d x && wOk (kupR ds l d.e) x && mOk d x
theorem strt (x y : Str) : decide (V.str x = V.str y) = decide (x = y) := by
  by_cases h : x = y
  · rw [decide_eq_true h, h]; simp
  · rw [decide_eq_false h]; exact decide_eq_false fun z => h (V.str.inj z)
theorem qbC (x : Str) (l : List Str) : inV (.str x) (l.map V.str) = decide (x ∈ l) := by
  by_cases h : x ∈ l
  · rw [decide_eq_true h]
    unfold inV
    rw [List.any_eq_true]
    exact ⟨.str x, List.mem_map_of_mem h, by show (x == x) = true; simp⟩
  · rw [decide_eq_false h]
    unfold inV
    rw [List.any_eq_false]
    intro v hv
    obtain ⟨y, hy, rfl⟩ := List.mem_map.mp hv
    show ¬ (y == x) = true
    intro z
    exact h ((beq_iff_eq.mp z) ▸ hy)
def props : List (Str × Int × Int × Int) := [("face", 0, 99, 0), ("align", 0, 3, 0), ("above", 0, 400, 0), ("inset", 0, 400, 0), ("weight", 1, 9, 1), ("least", 0, 4000, 0), ("most", 0, 4000, 4000), ("columns", 1, 6, 2), ("span", 1, 6, 1), ("deep", 1, 4, 1), ("side", 0, 1, 0), ("wide", 1, 4000, 100), ("fresh", 0, 1, 0)].map fun y => (Str.ofString y.1, y.2.1, y.2.2.1, y.2.2.2)
def qbg (H : Hp) (a : Addr) (y : Str × Int × Int × Int) : Prop := H a = some (.tup [.str y.1, .int y.2.1, .int y.2.2.1, .int y.2.2.2])
def qeA (y : Str × Int) : Prop := ∃ z ∈ props, z.1 = y.1 ∧ z.2.1 ≤ y.2 ∧ y.2 ≤ z.2.2.1
def ruleKinds : List Str := ["", "", "", "text", "head", "case", "shelf", "grid", "picture", "aside", "note", "body"].map Str.ofString
def ruleMarks : List Str := ["", "", "big", "red", "far", "of", "small"].map Str.ofString
structure RlOk (x : Rl) : Prop where
  r0 : 0 ≤ x.rank
  r9 : x.rank ≤ 9
  k : x.k ∈ ruleKinds
  wi : x.wi ∈ ruleKinds
  mrk : x.mrk ∈ ruleMarks
  ne : x.sets ≠ []
  le : x.sets.length ≤ 13
  ok : ∀ y ∈ x.sets, qeA y
  nd : (x.sets.map (·.1)).Nodup
end Bk
namespace Bk
open PySem L2
open PySem.W (Dat kqdOk)
def setD (y : Str × Int) : Dat := .tuple [.str y.1, .int y.2]
def rlD (x : Rl) : Dat := .tuple [.int x.rank, .str x.k, .str x.wi, .str x.mrk, .list (x.sets.map setD)]
section
variable {N : Addr → Prop} {H : Hp}
theorem sets_in {vs : List V} {l : List (Str × Int)} (p : Paired (SetAt N H) vs l) : DAll H vs (l.map setD) := by
  induction p with
  | nil => exact .nil
  | cons q t ih =>
    obtain ⟨a, e, _, h⟩ := q
    subst e
    exact .cons (.tup h (.cons (.str _) (.cons (.int _) .nil))) ih
theorem rl_in {r : Addr} {x : Rl} (h : RlAt N H r x) : DIn H (.ref r) (rlD x) := by
  obtain ⟨_, s, vs, e1, _, e2, p⟩ := h
  exact .tup e1 (.cons (.int _) (.cons (.str _) (.cons (.str _) (.cons (.str _) (.cons (.lst e2 (sets_in p)) .nil)))))
theorem rls_in {rs : List Addr} {xs : List Rl} (p : Paired (RlAt N H) rs xs) : DAll H (rs.map V.ref) (xs.map rlD) := by
  induction p with
  | nil => exact .nil
  | cons q t ih => exact .cons (rl_in q) ih
end
theorem rk_str : ∀ k ∈ ruleKinds, PyData.strOk k = true := by decide +kernel
theorem rm_str : ∀ k ∈ ruleMarks, PyData.strOk k = true := by decide +kernel
theorem pr_str : ∀ z ∈ props, PyData.strOk z.1 = true := by decide +kernel
theorem set_ok {n : Nat} {y : Str × Int} (h : qeA y) : kqdOk (n + 2) (setD y) = true := by
  obtain ⟨z, hz, e, _⟩ := h
  have := pr_str z hz
  rw [e] at this
  simp [setD, kqdOk, this]
theorem rl_ok {n : Nat} {x : Rl} (h : RlOk x) : kqdOk (n + 4) (rlD x) = true := by
  simp only [rlD, kqdOk, List.all_cons, List.all_nil, Bool.and_true, Bool.and_eq_true, List.all_eq_true, List.mem_map]
  refine ⟨trivial, rk_str _ h.k, rk_str _ h.wi, rm_str _ h.mrk, ?_⟩
  rintro x ⟨m, hm, rfl⟩
  exact set_ok (h.ok m hm)
end Bk
namespace Gen
open PySem L2 Bk
def spFits : Sp := fun vs H Q _ => ∃ (p r : Addr) (n l : Nat) (d : Nd) (x : Rl) (ds : List Nd) (N M : Addr → Prop), vs = [.ref p, .ref r, .int n] ∧ qaY N H p ds ∧ RlAt M H r x ∧ ds[n]? = some d ∧ Lev ds n l ∧ l ≤ 999 ∧ ∀ H', Same H H' → Q (.bl (qaV ds l d x)) H'
def spTable : Sp := fun vs H Q _ => vs = [] ∧ ∀ (L : Addr) (ts : List Addr) (H' : Hp), H L = none → Same H H' → H' L = some (.lst (ts.map V.ref)) → Paired (qbg H') ts props → Q (.ref L) H'
def spRule : Sp := fun vs H Q _ => ∃ st : Addr, vs = [.ref st] ∧ StOk H st ∧ ∀ (r : Addr) (x : Rl) (H' : Hp), RlOk x → RlAt (qeu H) H' r x → StOk H' st → Keep1 st H H' → Q (.ref r) H'
end Gen
namespace L2
open PySem PySem.Spec PyProof.Rows
section
variable {κ : Type} [DecidableEq κ]
def valV (kvs : List (κ × V)) (k : κ) : Option V := (kvs.find? fun kv => decide (kv.1 = k)).map (·.2)
def putK (kvs : List (κ × V)) (k : κ) (v : V) : List (κ × V) :=
  if (kvs.any fun kv => decide (kv.1 = k)) = true then kvs.map (fun kv => if kv.1 = k then (kv.1, v) else kv) else kvs ++ [(k, v)]
theorem qb5 {p : κ × V} {r : List (κ × V)} {k : κ} (e : p.1 = k) : valV (p :: r) k = some p.2 := by simp [valV, List.find?_cons, e]
theorem qb3 {p : κ × V} {r : List (κ × V)} {k : κ} (e : ¬ p.1 = k) : valV (p :: r) k = valV r k := by simp [valV, List.find?_cons, e]
theorem qdY (k : κ) : ∀ kvs : List (κ × V), (kvs.any fun kv => decide (kv.1 = k)) = (valV kvs k).isSome
  | [] => rfl
  | p :: r => by
    rw [List.any_cons]
    by_cases e : p.1 = k
    · simp only [qb5 e, decide_eq_true e, Bool.true_or, Option.isSome_some]
    · rw [qb3 e, decide_eq_false e, Bool.false_or]; exact qdY k r
theorem putK_new {kvs : List (κ × V)} {k : κ} (v : V) (h : valV kvs k = none) : putK kvs k v = kvs ++ [(k, v)] := by
  unfold putK
  rw [qdY, h]
  exact if_neg (by decide)
theorem RelO.isSome_eq {o : Option V} {u : Option Value} (r : RelO o u) : o.isSome = u.isSome := by
  cases o with
  | none => cases u with
    | none => rfl
    | some _ => exact (show False from r).elim
  | some _ => cases u with
    | none => exact (show False from r).elim
    | some _ => rfl
theorem KV.val {kvs : List (κ × V)} {vs : List (κ × Value)} (r : KV kvs vs) (k : κ) : RelO (valV kvs k) (valueAt vs k) := by
  unfold KV at r
  induction r with
  | nil => exact True.intro
  | @cons p q ps qs h t ih =>
    obtain ⟨h1, h2⟩ := h
    by_cases e : p.1 = k
    · have e' : q.1 = k := h1.symm.trans e
      have b : valueAt (q :: qs) k = some q.2 := by simp [valueAt, List.find?_cons, e']
      rw [qb5 e, b]; exact h2
    · have e' : ¬ q.1 = k := fun z => e (h1.trans z)
      have b : valueAt (q :: qs) k = valueAt qs k := by simp [valueAt, List.find?_cons, e']
      rw [qb3 e, b]; exact ih
theorem KV.any {kvs : List (κ × V)} {vs : List (κ × Value)} (r : KV kvs vs) (k : κ) : (kvs.any fun kv => decide (kv.1 = k)) = vs.any fun kv => decide (kv.1 = k) := by
  unfold KV at r
  induction r with
  | nil => rfl
  | cons h t ih => rw [List.any_cons, List.any_cons, ih, h.1]
theorem KV.repl {kvs : List (κ × V)} {vs : List (κ × Value)} (r : KV kvs vs) (k : κ) {y : V} {u : Value} (ry : RelV y u) :
    KV (kvs.map fun kv => if kv.1 = k then (kv.1, y) else kv) (vs.map fun kv => if kv.1 = k then (kv.1, u) else kv) := by
  unfold KV at r ⊢
  induction r with
  | nil => exact .nil
  | @cons p q ps qs h t ih =>
    rw [List.map_cons, List.map_cons]
    refine .cons ?_ ih
    obtain ⟨h1, h2⟩ := h
    by_cases e : p.1 = k
    · rw [if_pos e, if_pos (h1.symm.trans e)]; exact ⟨h1, ry⟩
    · rw [if_neg e, if_neg (fun z => e (h1.trans z))]; exact ⟨h1, h2⟩
theorem KV.put {kvs : List (κ × V)} {vs : List (κ × Value)} (r : KV kvs vs) (k : κ) {y : V} {u : Value} (ry : RelV y u) : KV (putK kvs k y) (stored vs k u) := by
  unfold putK stored
  rw [r.any k]
  by_cases e : (vs.any fun kv => decide (kv.1 = k)) = true
  · rw [if_pos e, if_pos e]; exact r.repl k ry
  · rw [if_neg e, if_neg e]; exact Paired.snoc r ⟨rfl, ry⟩
theorem KV.length {kvs : List (κ × V)} {vs : List (κ × Value)} (r : KV kvs vs) : kvs.length = vs.length := Paired.length r
end
theorem qeD {P : Program} {w : World} {k : Key} {u : Value} (r : RelV (kV k) u) : (qaT P w).is k u = true := by
  cases k with
  | inl i => obtain ⟨t, e⟩ := (show ∃ t, u = Value.int i t from r); subst e; exact mixKind_int P w i t
  | inr x => obtain ⟨t, e⟩ := (show ∃ t, u = Value.str x t from r); subst e; exact qbf P w x t
theorem qdg {P : Program} {w : World} : ∀ {ks : List Key} {us : List Value}, Vals (ks.map kV) us → ItemsAre (qaT P w) ks us
  | [], _, r => by rw [List.map_nil] at r; cases r; exact .nil
  | k :: ks, _, r => by
    rw [List.map_cons] at r
    cases r with
    | cons h t => exact .cons (qeD h) (qdg t)
abbrev KT (H : Hp) : List (List Key × V) → List (List Key × Addr × Value) → Prop := Paired fun p q => p.1 = q.1 ∧ H q.2.1 = some (.tup (p.1.map kV)) ∧ RelV p.2 q.2.2
theorem KT.val {H : Hp} {kvs : List (List Key × V)} {xs : List (List Key × Addr × Value)} (r : KT H kvs xs) (k : List Key) : RelO (valV kvs k) ((atKey xs k).map (·.2)) := by
  induction r with
  | nil => exact True.intro
  | @cons p q ps qs h t ih =>
    obtain ⟨h1, _, h2⟩ := h
    by_cases e : p.1 = k
    · have e' : q.1 = k := h1.symm.trans e
      have b : atKey (q :: qs) k = some q.2 := by simp [atKey, List.find?_cons, e']
      rw [qb5 e, b]; exact h2
    · have e' : ¬ q.1 = k := fun z => e (h1.trans z)
      have b : atKey (q :: qs) k = atKey qs k := by simp [atKey, List.find?_cons, e']
      rw [qb3 e, b]; exact ih
section
variable {P : Program} {w : World} {H : Hp} {h : Heap} {a : Addr}
theorem qe5 {u : HO} (ok : HOk P w H h) (e : Rd H a u) : ObjOk P w H h a u := e.ok ok
theorem qeW {kvs : List (Key × V)} (ok : HOk P w H h) (e : Rd H a (.dK kvs)) : kvs.length ≤ sizeLine ∧ (a == sysModules) = false ∧ ∃ vs, KV kvs vs ∧ h.DictOf (qaT P w) a vs :=
  show ObjOk P w H h a (.dK kvs) from qe5 ok e
theorem qex {ks : List Key} (ok : HOk P w H h) (e : H a = some (.tup (ks.map kV))) : (tupleKind (qaT P w)).is h ks a := by
  obtain ⟨_, its, r, o, h1, h2, n, h3⟩ := (show ObjOk P w H h a (.tup (ks.map kV)) from ok a _ e)
  exact ⟨o, its.toArray, n, h1, h2, h3, by simpa using qdg r⟩
theorem qeZ {kvs : List (List Key × V)} (ok : HOk P w H h) (e : Rd H a (.dT kvs)) : kvs.length ≤ sizeLine ∧ (a == sysModules) = false ∧
    ∃ xs, KT H kvs xs ∧ h.DictOfH (tupleKind (qaT P w)) a xs := by
  obtain ⟨z, y, xs, r, o, es, ep, h1, h2, h3, h4, h5⟩ := (show ObjOk P w H h a (.dT kvs) from qe5 ok e)
  refine ⟨z, y, xs, r, o, es, ep, h1, h2, h3, h4, fun x hx => ?_, h5⟩
  have all : ∀ {l : List (List Key × V)} {m : List (List Key × Addr × Value)}, KT H l m → ∀ x ∈ m, (tupleKind (qaT P w)).is h x.1 x.2.1 := by
    intro l m q
    induction q with
    | nil => intro x hx; exact nomatch hx
    | @cons p q ps qs hq t ih =>
      intro x hx
      rcases List.mem_cons.mp hx with e | hx
      · subst e
        exact qex ok (by rw [← hq.1]; exact hq.2.1)
      · exact ih x hx
  exact all r x hx
end
def DGet (H : Hp) (a : Addr) (y : V) (r : Option V) : Prop :=
  (∃ kvs k, Rd H a (.dK kvs) ∧ y = kV k ∧ r = valV kvs k) ∨ ∃ kvs k b, Rd H a (.dT kvs) ∧ y = .ref b ∧ H b = some (.tup (k.map kV)) ∧ r = valV kvs k
section
variable {X : Cx} {pins : List (Addr × Obj)} {σ : St} {H : Hp} {s : Shared} {a : Addr} {y v : V} {u r : Value} {o : Option V} {A : Around} {E : Value → Shared → Prop}
theorem Inv.big (I : Inv X pins σ H s) : sysModules < s.heap.objs.size := by
  have h : mainGlobals < s.heap.objs.size := (I.mod.glob.keeps I.bk).lt
  exact Nat.lt_trans (by decide) h
theorem d_getItem {Q : Value → Shared → Prop} (hu : A.units + 1 < cLine) (I : Inv X pins σ H s) (g : DGet H a y (some v)) (ry : RelV y u) (h : ∀ w' s', Inv X pins σ H s' → RelV v w' → Q w' s') :
    wpAny (model X.prog X.w) A (getItem (.ref a) u) Q E s := by
  rcases g with ⟨kvs, k, e, ey, l⟩ | ⟨kvs, k, b, e, ey, eb, l⟩
  · subst ey
    obtain ⟨z, hd, vs, rel, dd⟩ := qeW I.hok e
    obtain ⟨w', hw, rw'⟩ := RelO.some_of (v := v) (o := valueAt vs k) (by rw [l]; exact rel.val k)
    exact wpAny_getItem_of (qeD ry) dd.mapOf hw (h w' _ (I.tok _) rw')
  · subst ey
    cases (show u = Value.ref b from ry)
    obtain ⟨z, hd, xs, rel, dd⟩ := qeZ I.hok e
    obtain ⟨w', hw, rw'⟩ := RelO.some_of (v := v) (o := (atKey xs k).map (·.2)) (by rw [l]; exact rel.val k)
    obtain ⟨p, hp, hp2⟩ := Option.map_eq_some_iff.mp hw
    refine wpAny_getItem_heap (tupleKind_room_in1 hu) (qex I.hok eb) dd hp ?_
    rw [hp2]
    exact h w' _ (I.tok _) rw'
theorem d_in {Q : Value → Shared → Prop} (hu : A.units + 1 < cLine) (I : Inv X pins σ H s) (g : DGet H a y o) (ry : RelV y u) (h : ∀ s', Inv X pins σ H s' → Q (.bool o.isSome) s') :
    wpAny (model X.prog X.w) A (compareOp .In u (.ref a)) Q E s := by
  rcases g with ⟨kvs, k, e, ey, l⟩ | ⟨kvs, k, b, e, ey, eb, l⟩
  · subst ey
    obtain ⟨z, hd, vs, rel, dd⟩ := qeW I.hok e
    refine wpAny_in_of (qeD ry) hd dd.mapOf ?_
    rw [← (rel.val k).isSome_eq, ← l]
    exact h _ (I.tok _)
  · subst ey
    cases (show u = Value.ref b from ry)
    obtain ⟨z, hd, xs, rel, dd⟩ := qeZ I.hok e
    refine wpAny_in_heap (tupleKind_room_in1 hu) (qex I.hok eb) hd dd ?_
    have q := (rel.val k).isSome_eq
    rw [Option.isSome_map] at q
    rw [← q, ← l]
    exact h _ (I.tok _)
theorem dk_new {P : Program} {w : World} {H' : Hp} {h' : Heap} {kvs : List (Key × V)} {vs : List (Key × Value)} (z : kvs.length ≤ sizeLine) (hd : (a == sysModules) = false) (rel : KV kvs vs) (dd : h'.DictOf (qaT P w) a vs) :
    ObjOk P w H' h' a (.dK kvs) := ⟨z, hd, vs, rel, dd⟩
end
def NoSl (i : Expr) : Prop := ∀ ov iv, subscripted i false ov iv = operate [ov, iv] (getItem ov iv)
theorem subD_of {prog : Program} {w : World} {A : Around} {E : Value → Shared → Prop} {s : Shared} {env : Env} {value slice : Expr} {pos : Pos} {T id : String} {Q : Value → Shared → Prop}
    (hl : typeLookup (.type T) "__getitem__" = pure (some (.builtin id))) (hs : NoSl slice)
    (h : wpAny (model prog w) A (eval value env) (fun o s₁ => wpAny (model prog w) A (eval slice env) (fun i s₂ => s₂.TypeIs o T ∧ wpAny (model prog w) A (getItem o i) Q E s₂) E s₁) E s) :
    wpAny (model prog w) A (eval (.Subscript value slice pos) env) Q E s := by
  refine Subscript_ (wpAny_mono h (fun o s₁ h₁ => wpAny_mono h₁ (fun i s₂ h₂ => ?_) fun _ _ x => x) fun _ _ x => x)
  obtain ⟨hT, h₂⟩ := h₂
  unfold subscriptTail
  refine wpAny_bind ?_
  rw [getitemInPython_of_ne hT.not_modules]
  refine wpAny_bind (wpAny_specialOf hT hl ?_)
  have fin : wpAny (model prog w) A (subscripted slice false o i) (fun r s₃ => wpAny (model prog w) A (letTemporaryGo value o r >>= fun _ => pure r) Q E s₃) E s₂ := by
    rw [hs o i]
    exact wpAny_operating (wpAny_mono h₂ (fun r s₃ h₃ => wpAny_bind (wpAny_letTemporaryGo (wpAny_pure h₃))) fun _ _ x => x)
  first
    | exact wpAny_pure (wpAny_bind fin)
    | exact wpAny_bind (wpAny_pure (wpAny_bind fin))
    | exact wpAny_bind fin
theorem dict_typeIs {X : Cx} {pins : List (Addr × Obj)} {σ : St} {H : Hp} {s : Shared} {a : Addr} {y : V} {o : Option V} (I : Inv X pins σ H s) (g : DGet H a y o) : s.TypeIs (.ref a) "dict" := by
  rcases g with ⟨kvs, k, e, _, _⟩ | ⟨kvs, k, b, e, _, _, _⟩
  · obtain ⟨_, _, vs, _, dd⟩ := qeW I.hok e
    exact dd.typeIs
  · obtain ⟨_, _, xs, _, dd⟩ := qeZ I.hok e
    exact dd.typeIs
def tDGet (td ty : TE) : TE := fun σ H Q => td σ H fun x H1 => ty σ H1 fun y H2 => ∃ a v, x = .ref a ∧ DGet H2 a y (some v) ∧ Q v H2
def tDIn (ty td : TE) : TE := fun σ H Q => ty σ H fun y H1 => td σ H1 fun x H2 => ∃ a o, x = .ref a ∧ DGet H2 a y o ∧ Q (.bl o.isSome) H2
section
variable {X : Cx} {o i e value : Expr} {pos pos' tpos : Pos} {td ty tv : TE}
theorem qet (hu : X.A.units + 1 < cLine) (ho : PE X o td) (hi : PE X i ty) (hs : NoSl i) : PE X (.Subscript o i pos) (tDGet td ty) := by
  intro pins s σ H Q I h
  refine subD_of PySem.F.slot_dict_getitem.lookup hs (thn (ho pins s σ H _ I h) fun u s1 ⟨x, H1, I1, rx, q1⟩ => thn (hi pins s1 σ H1 _ I1 q1) fun iv s2 ⟨y, H2, I2, ry, a, v, ex, g, q2⟩ => ?_)
  subst ex
  obtain rfl : u = Value.ref a := rx
  exact ⟨dict_typeIs I2 g, d_getItem hu I2 g ry fun w' s3 I3 rw' => ⟨v, H2, I3, rw', q2⟩⟩
theorem qeJ (hu : X.A.units + 1 < cLine) (hi : PE X i ty) (ho : PE X o td) : PC X .In i o (tDIn ty td) := by
  intro pins s σ H Q I h
  refine thn (hi pins s σ H _ I h) fun iv s1 ⟨y, H1, I1, ry, q1⟩ => thn (ho pins s1 σ H1 _ I1 q1) fun u s2 ⟨x, H2, I2, rx, a, ov, ex, g, q2⟩ => ?_
  subst ex
  obtain rfl : u = Value.ref a := rx
  exact d_in hu I2 g ry fun s3 I3 => ⟨.bl ov.isSome, H2, I3, rfl, q2⟩
end
end L2
namespace Gd
open PySem L2 Gen
theorem qdD {K : PySem.W.Frag} {a : Addr} {xs : List V} {own : Nat} {ix : List Nat} {g : TG} {tt : TT} {te : TE} {σ : St} {H : Hp} {Q : VK} (Pv : Nat → List V → St → Hp → Prop) (hz : xs.length < sizeLine) (h0 : Pv 0 [] (qbq own ix σ) H)
    (hl : ∀ i ys σ' H', i ≤ xs.length → Pv i ys σ' H' → SqT K H' a xs ∧ ys.length ≤ i)
    (hs : ∀ i x ys σ' H', xs[i]? = some x → Pv i ys σ' H' → g x σ' H' fun σ2 H3 => tt σ2 H3 fun b H4 => if b = true then te σ2 H4 fun v H5 => Pv (i + 1) (ys ++ [v]) σ2 H5 else Pv (i + 1) ys σ2 H4)
    (hd : ∀ ys σ' H', Pv xs.length ys σ' H' → ∀ D, H' D = none → Q (.ref D) (upd H' D (.lst ys))) :
    qbN own ix g tt te (Itt K a) σ H Q := by
  refine ⟨fun i m ys σ H => m = xs.length - i ∧ i ≤ xs.length ∧ Pv i ys σ H, ⟨xs.length, by simp, Nat.zero_le _, h0⟩, ?_⟩
  rintro i m ys σ H ⟨rfl, hi, p⟩
  obtain ⟨q, hy⟩ := hl i ys σ H hi p
  refine ⟨by omega, ?_⟩
  by_cases hlt : i < xs.length
  · refine .inr ⟨⟨xs, xs[i], q, by simp [hlt]⟩, Pv (i + 1), fun zs σ' H' p' => ⟨xs.length - (i + 1), by omega, rfl, hlt, p'⟩, fun x H' y => ?_⟩
    obtain ⟨e, y⟩ := y
    subst e
    exact hs i x ys σ _ (y xs q) p
  · have e : i = xs.length := by omega
    subst e
    exact .inl ⟨⟨xs, q, Nat.le_refl _⟩, hd ys σ H p⟩
section
variable {X : Cx}
open PySem PySem.Spec PyProof.Rows in
theorem call_any (hc : X.calm = true) : qbU X (.builtin "any") (fun xs H Q => ∃ (p : Addr) (bs : List Bool), xs = [.ref p] ∧ SqL X.K H p (bs.map V.bl) ∧ Q (.bl (bs.any id)) H) := by
  intro pins s σ H xs us Q I r h
  obtain ⟨p, bs, rfl, hp, q⟩ := h
  obtain ⟨u, rfl, rx⟩ := qcv r
  cases rx
  obtain ⟨its, rv, pl, hz⟩ := I.list hp
  have hh := I.ok.hd hc
  refine call_any_walk (wpAny_pyIter_list pl.isList ?_)
  have lp : p < s.heap.objs.size := by
    obtain ⟨o, e, _⟩ := pl.isList
    exact Heap.lt_size e
  have atB : ∀ (i : Nat) (v : Value), its.toArray[i]? = some v → v = .bool (bs.getD i false) := fun i v e => by
    have e' : its[i]? = some v := by simpa using e
    cases z : bs[i]? with
    | none =>
      have h1 := rv.length
      rw [List.length_map] at h1
      have h2 := (List.getElem?_eq_some_iff.mp e').1
      have h3 := List.getElem?_eq_none_iff.mp z
      omega
    | some b =>
      obtain ⟨u, e2, r2⟩ := rv.get (i := i) (x := .bl b) (by rw [List.getElem?_map, z]; rfl)
      rw [e'] at e2
      cases e2
      cases r2
      rw [List.getD_eq_getElem?_getD, z]
      rfl
  refine ⟨s.heap.objs.size, _, _, _, _, _, fun i => bs.getD i false, rfl, Walks.list (by simpa using hh) s.heap.objs.size p (Nat.ne_of_lt lp) its.toArray, ⟨⟨_, Heap.get?_push_size _ rfl, rfl, rfl⟩, pl.isList.push _⟩, fun i v s' Q' E' e hq => ?_, fun h' tk k => ?_⟩
  · rw [atB i v e]
    exact wpAny_truthy_bool hq
  · have ev : (List.range its.toArray.size).any (fun i => bs.getD i false) = bs.any id := by
      have hl : its.toArray.size = bs.length := by rw [List.size_toArray, ← rv.length, List.length_map]
      rw [hl]
      rw [Bool.eq_iff_iff]
      simp only [List.any_eq_true, List.mem_range, id]
      constructor
      · rintro ⟨i, hi, z⟩
        rw [List.getD_eq_getElem?_getD, List.getElem?_eq_getElem hi] at z
        exact ⟨_, List.getElem_mem hi, z⟩
      · rintro ⟨x, hx, z⟩
        obtain ⟨i, hi, e⟩ := List.mem_iff_getElem.mp hx
        refine ⟨i, hi, ?_⟩
        rw [List.getD_eq_getElem?_getD, List.getElem?_eq_getElem hi, e]
        exact z
    rw [ev]
    exact ⟨.bl (bs.any id), H, I.kept fun b o e => k b o (by simpa using Nat.ne_of_lt (Heap.lt_size e)) (Heap.get?_push_of_some _ e), rfl, q⟩
end
def qa1 {β : Type} (F : Hp → Addr → β → Prop) (H : Hp) (L : Addr) (xs : List β) : Prop := ∃ as : List Addr, H L = some (.lst (as.map V.ref)) ∧ Paired (F H) as xs
def Tups (H H' : Hp) : Prop := ∀ b xs, H b = some (.tup xs) → H' b = some (.tup xs)
theorem Tups.of {H H' : Hp} (s : Same H H') : Tups H H' := fun b _ e => s b _ e
theorem Tups.trans {H H1 H2 : Hp} (a : Tups H H1) (b : Tups H1 H2) : Tups H H2 := fun c xs e => b c xs (a c xs e)
theorem Tups.lst {H : Hp} {L : Addr} {ys : List V} {o : HO} (h : H L = some (.lst ys)) : Tups H (upd H L o) := fun b xs e => by
  rw [qai (fun z => by rw [z, h] at e; cases e)]
  exact e
theorem b_any : bootBuiltins "any" = some (.builtin "any") := by decide +kernel
theorem b_max : bootBuiltins "max" = some (.builtin "max") := by decide +kernel
end Gd
namespace L2
open PySem PySem.Spec PyProof.Rows
theorem for_enum {K : PySem.W.Frag} {a : Addr} {xs : List V} {g : TG} {tb : TS} {D : Ends} {σ : St} {H : Hp} (Pv : Nat → St → Hp → Prop) (h0 : Pv 0 σ H) (hl : ∀ i σ H, i ≤ xs.length → Pv i σ H → SqL K H a xs)
    (hs : ∀ i x σ H T, xs[i]? = some x → H T = none → Pv i σ H → g (.ref T) σ (upd H T (.tup [.int (i : Nat), x])) fun σ2 H2 => tb { D with nx := Pv (i + 1), ct := Pv (i + 1), bk := D.nx } σ2 H2) (hd : ∀ σ H, Pv xs.length σ H → D.nx σ H) :
    ∃ W : Nat → Nat → St → Hp → Prop, (∃ m, W 0 m σ H) ∧ ∀ i m σ H, W i m σ H →
      ((Ite K a).stop i H ∧ D.nx σ H) ∨ ((Ite K a).go i H ∧ ∃ N : St → Hp → Prop, (∀ σ' H', N σ' H' → ∃ m', m' < m ∧ W (i + 1) m' σ' H') ∧ ∀ x H', (Ite K a).yld i H x H' → g x σ H' fun σ2 H2 => tb { D with nx := N, ct := N, bk := D.nx } σ2 H2) := by
  refine ⟨fun i m σ H => m = xs.length - i ∧ i ≤ xs.length ∧ Pv i σ H, ⟨xs.length, by simp, Nat.zero_le _, h0⟩, ?_⟩
  rintro i m σ H ⟨rfl, hi, p⟩
  have q := hl i σ H hi p
  by_cases hlt : i < xs.length
  · refine .inr ⟨⟨xs, xs[i], q, by simp [hlt]⟩, Pv (i + 1), fun σ' H' p' => ⟨xs.length - (i + 1), by omega, rfl, hlt, p'⟩, fun x H' y => ?_⟩
    obtain ⟨T, z, hT, e1, e2, y⟩ := y
    subst e1 e2
    exact hs i z σ _ T (y xs q) hT p
  · have e : i = xs.length := by omega
    subst e
    exact .inl ⟨⟨xs, q, Nat.le_refl _⟩, hd σ H p⟩
end L2
namespace L2
open PySem PySem.Spec PyProof.Rows
end L2
namespace L2
open PySem PySem.Spec PyProof.Rows
end L2
namespace L2
open PySem PySem.Spec PyProof.Rows
end L2
namespace L2
open PySem PySem.Spec PyProof.Rows
end L2
namespace L2
open PySem PySem.Spec PyProof.Rows
def qaZ (gt : Nat → Nat → Bool) : Nat → Nat
  | 0 => 0
  | n + 1 => if gt (n + 1) (qaZ gt n) = true then n + 1 else qaZ gt n
theorem qb6 (gt : Nat → Nat → Bool) : ∀ n, qaZ gt n ≤ n
  | 0 => Nat.le_refl _
  | n + 1 => by
    unfold qaZ
    split
    · exact Nat.le_refl _
    · exact Nat.le_succ_of_le (qb6 gt n)
structure KeyG {Γ : Type} (prog : Program) (w : World) (A : Around) (q l I S : Addr) (vs : List Value) (gt : Nat → Nat → Bool) (G : Γ → Shared → Prop) (Ky : Nat → Value → Γ → Prop) : Prop where
  hl : ∀ γ s, G γ s → s.heap.IsList l vs.toArray
  lI : l ≠ I
  SI : S ≠ I
  next : ∀ γ s h' tk', G γ s → (∀ b o, b ∉ [I] → s.heap.get? b = some o → h'.get? b = some o) → G γ { s with heap := h', toks := tk' }
  hold : ∀ γ s f, G γ s → G γ { s with heap := s.heap.update S (Obj.mapSeq f) }
  turn : ∀ (i : Nat) (v : Value), vs[i]? = some v → ∀ (γ : Γ) (s : Shared) (oS oI : Obj), G γ s → s.heap.get? S = some oS → s.heap.get? I = some oI →
    wpAny (model prog w) A.in1 (call (.ref q) [v]) (fun x s' => ∃ γ', G γ' s' ∧ Ky i x γ' ∧ s'.heap.get? S = some oS ∧ s'.heap.get? I = some oI ∧ ∀ j y, Ky j y γ → Ky j y γ') (fun _ _ => False) s
  cmp : ∀ (i j : Nat) (x y : Value) (γ : Γ) (s : Shared) (Q : Value → Shared → Prop), G γ s → Ky i x γ → Ky j y γ → Q (.bool (gt i j)) s → wpAny (model prog w) A.in1 (richCompare .Gt x y) Q (fun _ _ => False) s
section
variable {prog : Program} {w : World} {A : Around} {q l I S : Addr} {vs : List Value} {gt : Nat → Nat → Bool} {Γ : Type} {G : Γ → Shared → Prop} {Ky : Nat → Value → Γ → Prop} {R : Result → Shared → Prop} {kw : List (Str × Value)}
theorem maxK_loop (hh : A.handled = none) (T : KeyG prog w A q l I S vs gt G Ky) (hR : ∀ v γ s', vs[qaZ gt (vs.length - 1)]? = some v → G γ s' → R (.ok (.ret v)) s') :
    ∀ (r j : Nat) (γ : Γ) (s : Shared) (vb xb : Value) (c : Nat), vs.length - (j + 1) = r → j + 1 ≤ vs.length → G γ s → s.heap.get? S = some (seqObj "list" #[vb, xb] c) → s.heap.IsListIter I l (j + 1) → vs[qaZ gt j]? = some vb → Ky (qaZ gt j) xb γ →
      codeAny (model prog w) A (.builtin "max.loop" ⟨[.ref I, .ref q, .ref S], kw⟩) R s := by
  have hname : (toString "max" ++ toString ".loop" : String) = "max.loop" := by decide
  have W := Walks.list (prog := prog) (w := w) (A := A.in1) hh I l T.lI vs.toArray
  have hsz : vs.toArray.size = vs.length := List.size_toArray ..
  intro r
  induction r with
  | zero =>
    intro j γ s vb xb c hr hj g gS hit hvb ky
    have hin : j + 1 = vs.length := by omega
    refine codeAny_builtin PySem.F.entry_max_loop (by
      rw [Around.under_plainId PySem.F.plain_max_loop _]
      show wpAny _ A.in1 (seqItems? (.ref S) >>= _) _ _ _
      refine wpAny_bind (wpAny_seqItems gS rfl (show wpAny _ A.in1 (tryCatch (pyNext (.ref I)) _ >>= _) _ _ _ from wpAny_bind (wpAny_tryCatch (W.done _ _ _ ⟨by rw [hsz, ← hin]; exact hit, T.hl γ s g⟩ fun h' tk' hk' => ?_))))
      have hS' := hk' S _ (by simpa using T.SI) gS
      have g' := T.next γ s h' tk' g hk'
      show wpAny _ A.in1 (updateSeq S (fun _ => #[]) >>= _) _ _ _
      refine wpAny_bind (wpAny_updateSeq hS' rfl (wpAny_bind (wpAny_letGo (wpAny_pure ?_))))
      exact hR vb γ _ (by rw [show vs.length - 1 = j by omega]; exact hvb) (T.hold γ _ _ g'))
  | succ r ih =>
    intro j γ s vb xb c hr hj g gS hit hvb ky
    have hlt : j + 1 < vs.length := by omega
    refine codeAny_builtin PySem.F.entry_max_loop (by
      rw [Around.under_plainId PySem.F.plain_max_loop _]
      show wpAny _ A.in1 (seqItems? (.ref S) >>= _) _ _ _
      refine wpAny_bind (wpAny_seqItems gS rfl (show wpAny _ A.in1 (tryCatch (pyNext (.ref I)) _ >>= _) _ _ _ from wpAny_bind (wpAny_tryCatch (W.item (j + 1) _ _ _ (by rw [hsz]; exact hlt) ⟨hit, T.hl γ s g⟩ fun v h' tk' hP hst' hk' => ?_))))
      have hv : vs[j + 1]? = some v := by simpa using hP
      obtain ⟨oI', hoI', hoc, hod⟩ := id hst'.1
      have g1 := T.next γ s h' tk' g hk'
      have gS1 := hk' S _ (by simpa using T.SI) gS
      show wpAny _ A.in1 (tryCatch (holding [v] (call (.ref q) [v])) _ >>= _) _ _ _
      refine wpAny_bind (wpAny_tryCatch (wpAny_holding (wpAny_mono (T.turn (j + 1) v hv γ _ _ _ g1 gS1 hoI') (fun x s2 he => ?_) fun _ _ hF => hF.elim)))
      obtain ⟨γ2, g2, ky2, gS2, gI2, st2⟩ := he
      have kb2 := st2 _ _ ky
      show wpAny _ A.in1 (tryCatch (holding [v, x] (richCompare .Gt x xb >>= _)) _ >>= _) _ _ _
      refine wpAny_bind (wpAny_tryCatch (wpAny_holding (wpAny_bind (wpAny_mono (T.cmp (j + 1) (qaZ gt j) x xb γ2 s2 (fun v s' => v = .bool (gt (j + 1) (qaZ gt j)) ∧ s' = s2) g2 ky2 kb2 ⟨rfl, rfl⟩) (fun y s3 hy => ?_) fun _ _ hF => hF.elim))))
      obtain ⟨rfl, rfl⟩ := hy
      refine wpAny_bind (wpAny_holding (wpAny_truthy_bool (wpAny_bind (wpAny_letGo (wpAny_pure ?_)))))
      cases hb : gt (j + 1) (qaZ gt j) with
      | true =>
        have e : qaZ gt (j + 1) = j + 1 := by rw [qaZ, if_pos hb]
        simp only [if_true]
        obtain ⟨c2, hc2⟩ : ∃ c2, (s3.heap.update S (Obj.mapSeq fun _ => #[v, x])).get? S = some (seqObj "list" #[v, x] c2) := ⟨_, get?_update_seq gS2 fun _ => #[v, x]⟩
        have s1 := Heap.SameBut.update s3.heap S (Obj.mapSeq fun _ => #[v, x])
        have g3 := T.hold γ2 s3 (fun _ => #[v, x]) g2
        refine wpAny_bind (wpAny_updateSeq gS2 rfl (wpAny_bind (wpAny_letGo ?_)))
        rw [hname]
        exact wpAny_pure ⟨plainId_quiet PySem.F.plain_max_loop _, ih (j + 1) γ2 _ v x c2 (by omega) hlt g3 hc2 ⟨oI', (s1.2 I T.SI.symm).trans gI2, hoc, hod⟩ (by rw [e]; exact hv) (by rw [e]; exact ky2)⟩
      | false =>
        have e : qaZ gt (j + 1) = qaZ gt j := by rw [qaZ, if_neg (by rw [hb]; exact Bool.false_ne_true)]
        simp only [Bool.false_eq_true, if_false]
        refine wpAny_bind (wpAny_letGo ?_)
        rw [hname]
        exact wpAny_pure ⟨plainId_quiet PySem.F.plain_max_loop _, ih (j + 1) γ2 _ vb xb c (by omega) hlt g2 gS2 ⟨oI', gI2, hoc, hod⟩ (by rw [e]; exact hvb) (by rw [e]; exact kb2)⟩)
theorem args_maxK (a v d : Value) : argsOk "max" ⟨[a], [("key", v), ("default", d)]⟩ := by unfold argsOk; kernel_rfl
def qdw (h : Heap) (l : Addr) : Heap := (h.push { cls := .type "list_iterator", data := .fields #[.ref l, .int 0 0] }).push (seqObj "list" #[] 0)
theorem maxK_call {E : Value → Shared → Prop} {Q : Value → Shared → Prop} {d : Value} {s : Shared} (hh : A.handled = none) (hls : s.heap.IsList l vs.toArray) (T : KeyG prog w A q l s.heap.objs.size (s.heap.objs.size + 1) vs gt G Ky) {γ : Γ} (g0 : G γ { s with heap := qdw s.heap l })
    (h0 : vs = [] → ∀ γ s', G γ s' → Q d s') (h1 : vs ≠ [] → ∀ v γ s', vs[qaZ gt (vs.length - 1)]? = some v → G γ s' → Q v s') :
    wpAny (model prog w) A (call (.builtin "max") [.ref l] [("key", .ref q), ("default", d)]) Q E s := by
  have hname : (toString "max" ++ toString ".loop" : String) = "max.loop" := by decide
  have gI : (qdw s.heap l).get? s.heap.objs.size = some { cls := .type "list_iterator", data := .fields #[.ref l, .int 0 0] } := Heap.get?_push_of_some _ (Heap.get?_push_size _ rfl)
  have z : (s.heap.push { cls := .type "list_iterator", data := .fields #[.ref l, .int 0 0] }).objs.size = s.heap.objs.size + 1 := size_push' ..
  have gS : (qdw s.heap l).get? (s.heap.objs.size + 1) = some (seqObj "list" #[] 0) := by rw [← z]; exact Heap.get?_push_size _ rfl
  refine kmk_tree PySem.F.kind_max PySem.F.plain_max PySem.F.entry_max (args_maxK _ _ _) ?_
  show wpAny _ A.in1 (Builtin.Builtins.bindParams "max" ["key", "default"] 0 ⟨[], [("key", .ref q), ("default", d)]⟩ >>= _) _ _ s
  refine wpAny_bind (wpAny_of_eq (show Builtin.Builtins.bindParams "max" ["key", "default"] 0 ⟨[], [("key", .ref q), ("default", d)]⟩ = pure [some (.ref q), some d] from rfl) (wpAny_bind (wpAny_pure (wpAny_bind (wpAny_pyIter_list hls (wpAny_bind (wpAny_newList ?_ (Nat.zero_le _))))))))
  rw [hname, z]
  refine wpAny_pure ⟨plainId_quiet PySem.F.plain_max_loop _, ?_⟩
  show codeAny (model prog w) A (.builtin "max.loop" ⟨[.ref s.heap.objs.size, .ref q, .ref (s.heap.objs.size + 1)], [("default", d)]⟩) _ { s with heap := qdw s.heap l }
  have W := Walks.list (prog := prog) (w := w) (A := A.in1) hh s.heap.objs.size l T.lI vs.toArray
  have hsz : vs.toArray.size = vs.length := List.size_toArray ..
  have gI' : ({ s with heap := qdw s.heap l } : Shared).heap.get? s.heap.objs.size = some { cls := .type "list_iterator", data := .fields #[.ref l, .int 0 0] } := gI
  have gS' : ({ s with heap := qdw s.heap l } : Shared).heap.get? (s.heap.objs.size + 1) = some (seqObj "list" #[] 0) := gS
  clear gI gS
  generalize ({ s with heap := qdw s.heap l } : Shared) = t at g0 gI' gS' ⊢
  generalize s.heap.objs.size + 1 = S at T gS' ⊢
  generalize s.heap.objs.size = I at T gI' W ⊢
  refine codeAny_builtin PySem.F.entry_max_loop (by
    rw [Around.under_plainId PySem.F.plain_max_loop _]
    show wpAny _ A.in1 (seqItems? (.ref S) >>= _) _ _ _
    by_cases hv : vs = []
    · refine wpAny_bind (wpAny_seqItems gS' rfl (show wpAny _ A.in1 (tryCatch (pyNext (.ref I)) _ >>= _) _ _ _ from wpAny_bind (wpAny_tryCatch (W.done _ _ _ ⟨by rw [hsz, hv]; exact ⟨_, gI', rfl, rfl⟩, T.hl γ t g0⟩ fun h' tk' hk' => ?_))))
      have g' := T.next γ t h' tk' g0 hk'
      refine wpAny_bind (wpAny_rule (wpAny_pure ?_))
      exact h0 hv γ _ g'
    · have hne : 0 < vs.length := List.length_pos_iff.mpr hv
      refine wpAny_bind (wpAny_seqItems gS' rfl (show wpAny _ A.in1 (tryCatch (pyNext (.ref I)) _ >>= _) _ _ _ from wpAny_bind (wpAny_tryCatch (W.item 0 _ _ _ (by rw [hsz]; exact hne) ⟨⟨_, gI', rfl, rfl⟩, T.hl γ t g0⟩ fun v h' tk' hP hst' hk' => ?_))))
      have hv0 : vs[0]? = some v := by simpa using hP
      obtain ⟨oI', hoI', hoc, hod⟩ := id hst'.1
      have g1 := T.next γ t h' tk' g0 hk'
      have gS1 := hk' S _ (by simpa using T.SI) gS'
      show wpAny _ A.in1 (tryCatch (holding [v] (call (.ref q) [v])) _ >>= _) _ _ _
      refine wpAny_bind (wpAny_tryCatch (wpAny_holding (wpAny_mono (T.turn 0 v hv0 γ _ _ _ g1 gS1 hoI') (fun x s2 he => ?_) fun _ _ hF => hF.elim)))
      obtain ⟨γ2, g2, ky2, gS2, gI2, _⟩ := he
      obtain ⟨c2, hc2⟩ : ∃ c2, (s2.heap.update S (Obj.mapSeq fun _ => #[v, x])).get? S = some (seqObj "list" #[v, x] c2) := ⟨_, get?_update_seq gS2 fun _ => #[v, x]⟩
      have s1 := Heap.SameBut.update s2.heap S (Obj.mapSeq fun _ => #[v, x])
      have g3 := T.hold γ2 s2 (fun _ => #[v, x]) g2
      show wpAny _ A.in1 (updateSeq S (fun _ => #[v, x]) >>= _) _ _ _
      refine wpAny_bind (wpAny_updateSeq gS2 rfl ?_)
      rw [hname]
      exact wpAny_pure ⟨plainId_quiet PySem.F.plain_max_loop _, maxK_loop hh T (fun v' γ3 s3 e g => h1 hv v' γ3 s3 e g) _ 0 γ2 _ v x c2 rfl hne g3 hc2 ⟨oI', (s1.2 I T.SI.symm).trans gI2, hoc, hod⟩ hv0 ky2⟩)
end
end L2
namespace HT
open PySem PySem.Spec PyProof.Rows
def lexGt : List Int → List Int → Bool
  | [], [] => false
  | [], _ :: _ => false
  | _ :: _, [] => true
  | x :: xs, y :: ys => if x = y then lexGt xs ys else decide (y < x)
theorem lexGt_cons (x y : Int) (xs ys : List Int) : lexGt (x :: xs) (y :: ys) = if x = y then lexGt xs ys else decide (y < x) := rfl
theorem lexGt_nil_nil : lexGt [] [] = false := rfl
theorem lexGt_nil_cons (y : Int) (ys : List Int) : lexGt [] (y :: ys) = false := rfl
theorem lexGt_cons_nil (x : Int) (xs : List Int) : lexGt (x :: xs) [] = true := rfl
theorem rcGt_int (A : Around) (s : Shared) (a : Int) (t : Tok) (c : Int) (u : Tok) (prog : Program) (w : World) (E : Value → Shared → Prop) (Q : Value → Shared → Prop) (h : Q (.bool (decide (c < a))) s) :
    wpAny (model prog w) A (richCompare .Gt (.int a t) (.int c u)) Q E s :=
  (PyProof.Rows.gt_int h : wpAny (model prog w) A (compareOp .Gt (.int a t) (.int c u)) Q E s)
section
open PySem.SeqAt
open PySem.AutoSeq1 (wpAny_loadPart')
open PySem.MeetsSeq PySem.MeetsSeq2 PySem.MeetsSeq3
theorem tuple_gt_ints (l b : Addr) (items items2 : Array Value) (n n2 : Nat) (dd dd2 : Option Addr) (sl sl2 : Array (Option Value)) (ns ms : List Int) (hi : IntsAre items.toList ns) (hj : IntsAre items2.toList ms) :
    Meets (Builtin.«tuple.__gt__» ⟨[.ref l, .ref b], []⟩)
      (fun _ R s => s.heap.get? l = some { cls := .type "tuple", dict := dd, data := .seq items n, slots := sl } ∧ s.heap.get? b = some { cls := .type "tuple", dict := dd2, data := .seq items2 n2, slots := sl2 } ∧
        R (.ok (.ret (.bool (lexGt ns ms)))) s) :=
  .of_wp fun prog w A R s h => by
    obtain ⟨hp, g, d, tk, os⟩ := s; obtain ⟨hl, hb, h⟩ := h
    have f2 := AutoSeq1.sub_tuple_tuple
    have z1 : items.size = ns.length := by rw [← hi.length]; simp
    have z2 : items2.size = ms.length := by rw [← hj.length]; simp
    wp_walk using wpAny_loadPart' hl, wpAny_loadPart' hb, wpAny_forIn_list _ (fun rest b s' => b.1 = none ∧ s' = ⟨hp, g, d, tk, os⟩ ∧ ∃ (vs ws : List Value) (ns' ms' : List Int), rest = vs.zip ws ∧
      IntsAre vs ns' ∧ IntsAre ws ms' ∧ ns'.length + items2.size = ms'.length + items.size ∧ R (.ok (.ret (.bool (lexGt ns' ms')))) ⟨hp, g, d, tk, os⟩) _
    case turn =>
      rintro ⟨y, x⟩ rest b s' ⟨hb', rfl, vs, ws, ns', ms', hz, hvi, hwi, hlen, hR⟩
      cases hvi with
      | nil => rw [List.zip_nil_left] at hz; cases hz
      | cons a t hvi' =>
        cases hwi with
        | nil => rw [List.zip_nil_right] at hz; cases hz
        | cons c u hwi' =>
          rw [List.zip_cons_cons] at hz
          injection hz with hyx hrest
          injection hyx with hy hx
          subst hy hx
          rw [lexGt_cons] at hR
          simp only [List.length_cons] at hlen
          obtain ⟨e, he, hiff⟩ := qdW A.in1 ⟨hp, g, d, tk, os⟩ a t c u
          refine wpAny_bind (he prog w _ _ ?_)
          cases e with
          | true =>
            rw [if_pos (hiff.mp rfl)] at hR
            wp_walk
            exact ⟨rfl, rfl, _, _, _, _, hrest, hvi', hwi', by omega, hR⟩
          | false =>
            rw [if_neg (fun q => absurd (hiff.mpr q) Bool.false_ne_true)] at hR
            have hri := rcGt_int A.in1 ⟨hp, g, d, tk, os⟩ a t c u prog w
            wp_walk using hri
            exact ⟨_, rfl, by simpa using hR⟩
    case fin =>
      rintro ⟨b1, b2⟩ s' ⟨hb', rfl, vs, ws, ns', ms', hz, hvi, hwi, hlen, hR⟩
      simp only at hb'
      subst hb'
      have hv : lexGt ns' ms' = decide (items2.size < items.size) := by
        cases hvi with
        | nil =>
          cases hwi with
          | nil =>
            simp only [List.length_nil] at hlen
            rw [lexGt_nil_nil]
            exact (decide_eq_false (by omega)).symm
          | cons c u hw =>
            simp only [List.length_nil, List.length_cons] at hlen
            rw [lexGt_nil_cons]
            exact (decide_eq_false (by omega)).symm
        | cons a t hv =>
          cases hwi with
          | nil =>
            simp only [List.length_nil, List.length_cons] at hlen
            rw [lexGt_cons_nil]
            exact (decide_eq_true (by omega)).symm
          | cons c u hw =>
            rw [List.zip_cons_cons] at hz
            cases hz
      rw [hv] at hR
      wp_walk
      exact ⟨_, rfl, by simpa [Builtin.Tuple.tupleCompareSizes] using hR⟩
    case h =>
      exact ⟨rfl, rfl, items.toList, items2.toList, ns, ms, rfl, hi, hj, by omega, h⟩
end
section
variable {prog : Program} {w : World} {A : Around} {E : Value → Shared → Prop} {s : Shared}
theorem gt_tupInts {l b : Addr} {items items2 : Array Value} {ns ms : List Int} {Q : Value → Shared → Prop} (hl : IsTup s.heap l items) (hb : IsTup s.heap b items2) (hi : IntsAre items.toList ns) (hj : IntsAre items2.toList ms)
    (hu : A.units < cLine) (h : Q (.bool (lexGt ns ms)) s) : wpAny (model prog w) A (compareOp .Gt (.ref l) (.ref b)) Q E s := by
  obtain ⟨⟨cls, dd, data, sl⟩, ho, hc, n, hd⟩ := id hl
  obtain ⟨⟨cls2, dd2, data2, sl2⟩, ho2, hc2, n2, hd2⟩ := id hb
  simp only at hc hd hc2 hd2
  subst hc hd hc2 hd2
  exact richCompare_meets_room (op := .Gt) ⟨_, ho, rfl⟩ ⟨_, ho2, rfl⟩ PySem.F.slot_tuple_gt PySem.F.entry_tuple_gt (PySem.F.args_tuple_gt_2 _ _) (tuple_gt_ints l b items items2 n n2 dd dd2 sl sl2 ns ms hi hj)
    ⟨ho, ho2, show Value.bool (lexGt ns ms) ≠ Value.notImplemented ∧ Q (.bool (lexGt ns ms)) s from ⟨(fun x => nomatch x), h⟩⟩ hu
end
end HT
namespace L2
open PySem PySem.Spec PySem.Calls PyProof.Rows PySem.W
structure LamOk (scope : Scope) (body : Expr) (fn x y : Str) : Prop where
  kind : scope.kind = .function
  co : scope.isCoroutine = false
  gen : scope.isGenerator = false
  nocell : ∀ z ∈ scope.names, z.2 ≠ .cell
  loc : scope.names.lookup y = some .local
  fre : scope.names.lookup x = some .free
  glo : scope.names.lookup fn = some .globalImplicit
  bd : ∃ p0 p1 p2 pos, body = .Call (.Name fn p0) [.Name x p1, .Name y p2] [] pos
  d0 : (fn == ("__debug__" : Str)) = false
  d1 : (x == ("__debug__" : Str)) = false
  d2 : (y == ("__debug__" : Str)) = false
  d3 : (x == ("__classdict__" : Str)) = false
theorem Un.less {fs : List Addr} {L : Addr} {H H' : Hp} {h h1 h' : Heap} (k : ∀ b o, h.get? b = some o → h1.get? b = some o) (hL : h.objs.size ≤ L) (u : Un (L :: fs) [] H H' h1 h') : Un fs [] H H' h h' := by
  have ne : ∀ {b : Addr} {o : Obj}, h.get? b = some o → b ≠ L := fun e z => by
    have := Heap.lt_size e
    rw [z] at this
    exact absurd this (Nat.not_lt_of_le hL)
  refine ⟨fun b o e n hb he => u.keep b o (k b o e) n (fun z => ?_) he, fun b o e n hb he => u.slot b o (k b o e) n (List.mem_cons_of_mem _ hb) he, fun b o e n he => u.free b o (k b o e) n he, fun b o e he => u.there b o (k b o e) he, u.tups, u.frzs, u.tbls⟩
  rcases List.mem_cons.mp z with z | z
  · exact ne e z
  · exact hb z
section
variable {P : Program} {w : World} {K : PySem.W.Frag} {mg : Str → Option Value} {base : Heap} {A : Around} {outer : List Env} {s : Shared} {H : Hp} {k : Nat} {f fp c' cc : Addr} {dp : FuncData} {fn x y qual : Str} {ps : List Str} {sp : Sp} {params : Arguments} {body : Expr} {scope : Scope} {cl : List (Str × Addr)} {pm ctv v ux : Value} {xv yv : V} {Q : VK} {E : XK} {CX : CXT}
theorem lam_run (LO : LamOk scope body fn x y) (hr : Room (k + 1) A) (e0 : Env0 P w K mg base A outer s H) (ho : s.heap.get? f = some (kla_obj "<lambda>" qual params body scope cl pm c' ctv)) (hcd : s.heap.CodeRec (.ref c') qual)
    (hbind : bindArgs (kla_fn "<lambda>" qual params body scope cl pm (.ref c') ctv) ⟨[v], []⟩ = pure [(y, v)]) (hcl : cl.lookup x = some cc) (hcell : s.heap.IsCell cc (some ux))
    (F : FnOk P w K mg base CX k fp dp ps sp) (hb : Binds K dp ps []) (kp : PySem.W.keepIn K (.ref fp) = true) (hm : mg fn = some (.ref fp)) (hx : ∀ o h s2 e s3, CX o h s2 E e s3 → False) (rx : RelV xv ux) (ry : RelV yv v) (q : sp [xv, yv] H Q E) :
    codeAny (model P w) A (.call (.ref f) ⟨[v], []⟩) (fun r s' => match r with | .ok (.ret u) => CE outer P w H s Q u s' | _ => False) s := by
  have kb : ∀ b o, base.get? b = some o → s.heap.get? b = some o := fun b o e => (e0.bs b o e).1
  refine kla_callFunE hr.depth ho rfl LO.co LO.gen rfl hcd ?_
  rw [hbind]
  refine wpAny_pure (wpAny_newFunctionEnv LO.nocell (fun z hz => by rw [List.mem_singleton.mp hz]; exact LO.loc) (fun h1 hns hsb => ⟨(e0.mod.nolimit.keeps kb).fresh _ hsb, ?_⟩) LO.kind)
  show codeAny _ _ (.expr body (envX qual scope s.heap.objs.size f (.ref c') cl)) _ _
  have k1 : ∀ b o, s.heap.get? b = some o → h1.get? b = some o := fun b o e => hsb.extBut b o (Nat.ne_of_lt (Heap.lt_size e)) (Heap.get?_push_of_some _ e)
  have kb1 : ∀ b o, base.get? b = some o → h1.get? b = some o := fun b o e => k1 b o (kb b o e)
  have sz1 : s.heap.objs.size < h1.objs.size := hns.lt
  obtain ⟨p0, p1, p2, pos, rfl⟩ := LO.bd
  refine kla_codeExpr (wpAny_mono (E := fun _ _ => False) ?_ (fun u s' h => h) fun _ _ z => z.elim)
  have e1 : Env0 P w K mg base (A.deeper (envX qual scope s.heap.objs.size f (.ref c') cl)) (envX qual scope s.heap.objs.size f (.ref c') cl :: outer) { s with heap := h1, toks := s.toks + [(y, v)].length } H := by
    have bn : base.get? s.heap.objs.size = none := Heap.get?_none_of_le e0.bsz
    refine ⟨Around.frames_deeper e0.frames, e0.mod, fun b o e => ⟨kb1 b o e, (e0.bs b o e).2⟩, Nat.le_trans e0.bsz (Nat.le_of_lt sz1), Heap.FunFrames.cons (by show scope.kind ≠ _; rw [LO.kind]; exact fun z => nomatch z) rfl hns bn (e0.funs.of_keeps fun b o e _ => ⟨o, k1 b o e, rfl⟩), fun b hb => ?_, e0.hok.kept k1, e0.bare⟩
    rcases List.mem_cons.mp (show b ∈ s.heap.objs.size :: frs outer from hb) with z | z
    · rw [z]; exact e0.hok.fresh (Nat.le_refl _)
    · exact e0.frf b z
  refine wpAny_Call_Name_kw (Calls.Name_function_global LO.kind LO.glo (Calls.loadGlobal_global (e0.mod.glob.keeps kb1) hm ?_) LO.d0)
  refine PySem.W.callWith_K (h₀ := base) e0.mod.kin kp (Calls.spliced_cons (wpAny_Name (wpAny_loadName_free LO.kind LO.fre hcl (hcell.keeps k1) ?_ LO.d3) LO.d1)) rfl rfl
  have hv : (fun z => [(y, v)].reverse.lookup z) y = some v := by simp
  show wpAny _ _ (spliced ((false, eval (.Name y p2) (envX qual scope s.heap.objs.size f (.ref c') cl)) :: backTo pos (starEach [] (envX qual scope s.heap.objs.size f (.ref c') cl)))) _ _ _
  refine Calls.spliced_cons (wpAny_Name (wpAny_loadName_local LO.kind LO.loc hns hv ?_) LO.d2)
  refine Calls.spliced_nil ⟨e0.mod.kin.keeps kb1, ?_⟩
  refine wpAny_call (codeAny_mono (F.run _ _ _ H ⟨[ux, v], []⟩ [ux, v] [xv, yv] Q E (hr.deeper _) e1 (hb _ [ux, v] (e0.mod.kin.keeps kb1) (F.len _ _ _ _ q)) (.cons rx (.cons ry .nil)) q) fun r s' hq => ?_)
  cases r with
  | error e => exact (hx _ _ _ _ _ hq).elim
  | ok fl =>
    cases fl with
    | next => exact False.elim hq
    | brk => exact False.elim hq
    | cont => exact False.elim hq
    | ret u =>
      obtain ⟨v', H', os, bare, un, hok, r', q'⟩ := hq
      exact ⟨v', H', os, bare, Un.less k1 (Nat.le_refl _) un, hok, r', q'⟩
end
end L2
namespace L2
open PySem PySem.Spec PySem.Calls PyProof.Rows PySem.W
def qc1 (c : Addr) (qual : Str) : HO := .ext fun h => h.CodeRec (.ref c) qual
def unT (H : Hp) (l : Addr) : Hp := fun b => if b = l then none else H b
theorem qcB {H : Hp} {l : Addr} : unT H l l = none := if_pos rfl
theorem qbi {H : Hp} {l b : Addr} (h : b ≠ l) : unT H l b = H b := if_neg h
section
variable {P : Program} {w : World} {K : PySem.W.Frag} {mg : Str → Option Value} {base : Heap} {A : Around} {outer : List Env} {s s' : Shared} {H H' : Hp} {h h' : Heap} {l I : Addr} {xs : List V}
theorem HOk.but (x : HOk P w H h) (hI : H I = none) (k : ∀ b u, b ≠ I → h.get? b = some u → h'.get? b = some u) : HOk P w H h' := fun a o e =>
  (x a o e).stay (fun b u z q => k b u (fun y => by
    rcases z with z | z
    · rw [← z, y, hI] at e; cases e
    · rw [y, hI] at z; cases z) q) (fun _ q => q) fun _ _ q => q
theorem HOk.unT (x : HOk P w H h) (hl : H l = some (.lst xs)) : HOk P w (unT H l) h := fun a o e => by
  have ne : a ≠ l := fun z => by rw [z, qcB] at e; cases e
  rw [qbi ne] at e
  exact (x a o e).stay (fun _ _ _ q => q) (fun b q => by rw [qbi (fun z => by rw [z, hl] at q; cases q)]; exact q) fun b ys q => by rw [qbi (fun z => by rw [z, hl] at q; cases q)]; exact q
theorem HOk.reT (x : HOk P w H h) (hl : H l = none) (new : ∀ H2 : Hp, ObjOk P w H2 h l (.lst xs)) : HOk P w (upd H l (.lst xs)) h := fun a o e => by
  by_cases z : a = l
  · rw [z, qab] at e
    cases e
    rw [z]
    exact new _
  · rw [qai z] at e
    exact (x a o e).stay (fun _ _ _ q => q) (fun b q => by rw [qai (fun z => by rw [z, hl] at q; cases q)]; exact q) fun b ys q => by rw [qai (fun z => by rw [z, hl] at q; cases q)]; exact q
theorem Env0.unT (e : Env0 P w K mg base A outer s H) (hl : H l = some (.lst xs)) : Env0 P w K mg base A outer s (unT H l) :=
  ⟨e.frames, e.mod, fun b o q => ⟨(e.bs b o q).1, by rw [qbi (fun z => by have := (e.bs b o q).2; rw [z, hl] at this; cases this)]; exact (e.bs b o q).2⟩, e.bsz, e.funs, fun b hb => by rw [qbi (fun z => by have := e.frf b hb; rw [z, hl] at this; cases this)]; exact e.frf b hb, HOk.unT e.hok hl, e.bare⟩
theorem funs_un {fs : List Addr} (u : Un fs [] H H' h h') : ∀ (l : List Env), (∀ b ∈ frs l, b ∈ fs ∧ H b = none) → h.FunFrames base l → h'.FunFrames base l := by
  intro l
  induction l with
  | nil => intro _ _; trivial
  | cons env r ih =>
    intro hs hl
    obtain ⟨hk, ⟨L, o, hf, hn, ho, hd⟩, hr⟩ := hl
    have hL := hs L (by unfold frs; rw [List.filterMap_cons, hf]; exact List.mem_cons_self)
    obtain ⟨sl, e⟩ := u.slot L o ho hL.2 hL.1 (by simp)
    exact ⟨hk, ⟨L, _, hf, hn, e, hd⟩, ih (fun b hb => hs b (by unfold frs; rw [List.filterMap_cons, hf]; exact List.mem_cons_of_mem _ hb)) hr⟩
theorem Env0.un (e : Env0 P w K mg base A outer s H) (u : Un (frs outer) [] H H' s.heap s'.heap) (hok : HOk P w H' s'.heap) (bare : AllBare s'.gens) (sz : s.heap.objs.size ≤ s'.heap.objs.size) : Env0 P w K mg base A outer s' H' := by
  have nf : ∀ {b : Addr} {o : Obj}, base.get? b = some o → b ∉ frs outer := fun q hb => by rw [(e.funs.mem hb).1] at q; cases q
  refine ⟨e.frames, e.mod, fun b o q => ⟨u.keep b o (e.bs b o q).1 (e.bs b o q).2 (nf q) (by simp), u.free b o (e.bs b o q).1 (e.bs b o q).2 (by simp)⟩, Nat.le_trans e.bsz sz, funs_un u outer (fun b hb => ⟨hb, e.frf b hb⟩) e.funs, fun b hb => ?_, hok, bare⟩
  obtain ⟨_, o, ho, _⟩ := e.funs.mem hb
  exact u.free b o ho (e.frf b hb) (by simp)
end
end L2
namespace L2
open PySem PySem.Spec PySem.Calls PyProof.Rows PySem.W
section
variable {P : Program} {w : World} {K : PySem.W.Frag} {mg : Str → Option Value} {base : Heap} {A : Around} {outer : List Env} {s : Shared} {H : Hp} {k : Nat} {f fp c' cc l : Addr} {dp : FuncData} {fn x y qual : Str} {ps : List Str} {sp : Sp} {params : Arguments} {body : Expr} {scope : Scope} {cl : List (Str × Addr)} {pm ctv ux : Value} {xv : V} {Q : VK} {E : XK} {CX : CXT} {ns : List Int} {Ex : Value → Shared → Prop}
structure GH (P : Program) (w : World) (outer : List Env) (s : Shared) (H : Hp) (l : Addr) (Φ : Hp → Prop) (H' : Hp) (t : Shared) : Prop where
  un : Un (frs outer) [] (unT H l) H' s.heap t.heap
  hok : HOk P w H' t.heap
  bare : AllBare t.gens
  os : t.os = s.os
  phi : Φ H'
  nI : H' s.heap.objs.size = none
  nS : H' (s.heap.objs.size + 1) = none
  st : ∃ its c, t.heap.get? (s.heap.objs.size + 1) = some (seqObj "list" its c)
theorem lam_max (LO : LamOk scope body fn x y) (hr : Room (k + 2) A) (e0 : Env0 P w K mg base A outer s H) (ho : s.heap.get? f = some (kla_obj "<lambda>" qual params body scope cl pm c' ctv)) (hf : H f = none) (ff : f ∉ frs outer)
    (hbind : ∀ v, bindArgs (kla_fn "<lambda>" qual params body scope cl pm (.ref c') ctv) ⟨[v], []⟩ = pure [(y, v)]) (hcl : cl.lookup x = some cc) (hcell : s.heap.IsCell cc (some ux)) (hcc : H cc = none) (fcc : cc ∉ frs outer)
    (F : FnOk P w K mg base CX k fp dp ps sp) (hb : Binds K dp ps []) (kp : PySem.W.keepIn K (.ref fp) = true) (hm : mg fn = some (.ref fp)) (hx : ∀ o h s2 e s3, CX o h s2 E e s3 → False) (rx : RelV xv ux)
    (hl : H l = some (.lst (ns.map V.int))) (Φ : Hp → Prop) (p0 : Φ (unT H l)) (pc : ∀ H', Φ H' → H' c' = some (qc1 c' qual)) (keys : Nat → List Int)
    (spk : ∀ (i : Nat) (n : Int) (H' : Hp), ns[i]? = some n → Φ H' → sp [xv, .int n] H' (fun kv H2 => Φ H2 ∧ ∃ t, kv = .ref t ∧ H2 t = some (.tup ((keys i).map V.int))) E)
    (h0 : ns = [] → ∀ H', Φ H' → H' l = none → Q .non (upd H' l (.lst (ns.map V.int)))) (h1 : ns ≠ [] → ∀ (n : Int) (H' : Hp), ns[qaZ (fun i j => HT.lexGt (keys i) (keys j)) (ns.length - 1)]? = some n → Φ H' → H' l = none → Q (.int n) (upd H' l (.lst (ns.map V.int)))) :
    wpAny (model P w) A (call (.builtin "max") [.ref l] [("key", .ref f), ("default", .none)]) (fun u s' => CE outer P w H s Q u s') Ex s := by
  obtain ⟨zl, its, nl, rv, el⟩ := e0.hok l _ hl
  have lv : its.length = ns.length := by rw [← rv.length, List.length_map]
  have lt : l < s.heap.objs.size := Heap.lt_size el
  have fl : l ∉ frs outer := fun z => by have := e0.frf l z; rw [hl] at this; cases this
  have hls : s.heap.IsList l its.toArray := ⟨_, el, rfl, _, rfl⟩
  have eu := e0.unT hl
  have nf : ∀ {b : Addr}, s.heap.objs.size ≤ b → b ∉ frs outer := fun hb z => by
    obtain ⟨_, o, q, _⟩ := e0.funs.mem z
    exact absurd (Heap.lt_size q) (Nat.not_lt_of_le hb)
  have fin : ∀ {v : V} {u : Value} {H' : Hp} {t : Shared}, GH P w outer s H l Φ H' t → RelV v u → Q v (upd H' l (.lst (ns.map V.int))) → CE outer P w H s Q u t := fun {v u H' t} g r q => by
    have nl' : H' l = none := g.un.free l _ el qcB (by simp)
    have el' := g.un.keep l _ el qcB fl (by simp)
    have ne : ∀ {b : Addr}, H b = none → b ≠ l := fun e z => by rw [z, hl] at e; cases e
    have un0 : ∀ {b : Addr}, H b = none → unT H l b = none := fun e => by rw [qbi (ne e)]; exact e
    refine ⟨v, _, g.os, g.bare, ⟨fun b o e n hb he => g.un.keep b o e (un0 n) hb he, fun b o e n hb he => g.un.slot b o e (un0 n) hb he, fun b o e n he => by rw [qai (ne n)]; exact g.un.free b o e (un0 n) he, g.un.there, fun b ys e => ?_, fun b o z e => ?_, fun b qs e => ?_⟩, HOk.reT g.hok nl' fun _ => ⟨zl, its, nl, rv, el'⟩, r, q⟩
    · have nb : b ≠ l := fun z => by rw [z, hl] at e; cases e
      rw [qai nb]
      exact g.un.tups b ys (by rw [qbi nb]; exact e)
    · have nb : b ≠ l := fun z => by rw [z, hl] at e; cases e
      rw [qai nb]
      exact g.un.frzs b o z (by rw [qbi nb]; exact e)
    · have nb : b ≠ l := fun z => by rw [z, hl] at e; cases e
      rw [qai nb]
      exact g.un.tbls b qs (by rw [qbi nb]; exact e)
  have sI : s.heap.objs.size ≠ s.heap.objs.size + 1 := Nat.ne_of_lt (Nat.lt_succ_self _)
  have moved : ∀ {H' : Hp} {t : Shared} {h' : Heap} {tk : Nat} {J : Addr}, GH P w outer s H l Φ H' t → s.heap.objs.size ≤ J → H' J = none → (∀ b o, b ≠ J → t.heap.get? b = some o → h'.get? b = some o) → (∃ its c, h'.get? (s.heap.objs.size + 1) = some (seqObj "list" its c)) → GH P w outer s H l Φ H' { t with heap := h', toks := tk } := fun {H' t h' tk J} g hJ nJ kk st => by
    have ne : ∀ {b : Addr} {o : Obj}, s.heap.get? b = some o → b ≠ J := fun e z => by
      have := Heap.lt_size e
      rw [z] at this
      exact absurd this (Nat.not_lt_of_le hJ)
    refine ⟨⟨fun b o e n hb he => kk b o (ne e) (g.un.keep b o e n hb he), fun b o e n hb he => ?_, g.un.free, fun b o e he => ?_, g.un.tups, g.un.frzs, g.un.tbls⟩, HOk.but g.hok nJ kk, g.bare, g.os, g.phi, g.nI, g.nS, st⟩
    · obtain ⟨sl, q⟩ := g.un.slot b o e n hb he
      exact ⟨sl, kk b _ (ne e) q⟩
    · obtain ⟨o', q⟩ := g.un.there b o e he
      exact ⟨o', kk b _ (ne e) q⟩
  have T : KeyG P w A f l s.heap.objs.size (s.heap.objs.size + 1) its (fun i j => HT.lexGt (keys i) (keys j)) (GH P w outer s H l Φ) (fun i v (H' : Hp) => ∃ t, v = .ref t ∧ H' t = some (.tup ((keys i).map V.int))) := by
    refine ⟨fun H' t g => ⟨_, g.un.keep l _ el qcB fl (by simp), rfl, _, rfl⟩, Nat.ne_of_lt lt, Ne.symm sI, fun H' t h' tk g kk => moved g (Nat.le_refl _) g.nI (fun b o n q => kk b o (by simpa using n) q) ?_, fun H' t fu g => ?_, fun i v hv H' t oS oI g gS gI => ?_, fun i j v u H' t Q' g kv ku q => ?_⟩
    · obtain ⟨o, c, q⟩ := g.st
      exact ⟨o, c, kk _ _ (by simpa using Ne.symm sI) q⟩
    · have sb := Heap.SameBut.update t.heap (s.heap.objs.size + 1) (Obj.mapSeq fu)
      obtain ⟨o, c, q⟩ := g.st
      exact moved (tk := t.toks) g (Nat.le_succ _) g.nS (fun b o n q => by rw [sb.2 b n]; exact q) ⟨_, _, get?_update_seq q fu⟩
    · have hi : i < ns.length := by
        have := (List.getElem?_eq_some_iff.mp hv).1
        omega
      have en : ns[i]? = some ns[i] := List.getElem?_eq_getElem hi
      have rn : RelV (V.int ns[i]) v := by
        obtain ⟨u, e2, r2⟩ := rv.get (i := i) (x := .int ns[i]) (by rw [List.getElem?_map, en]; rfl)
        rw [hv] at e2
        cases e2
        exact r2
      have sz : s.heap.objs.size ≤ t.heap.objs.size := by
        obtain ⟨o, c, q⟩ := g.st
        exact Nat.le_of_lt (Nat.lt_of_succ_lt (Heap.lt_size q))
      have hfu : unT H l f = none := by rw [qbi (fun z => by rw [z, hl] at hf; cases hf)]; exact hf
      have hcu : unT H l cc = none := by rw [qbi (fun z => by rw [z, hl] at hcc; cases hcc)]; exact hcc
      obtain ⟨oc, qc, dc⟩ := hcell
      refine wpAny_call (codeAny_mono (lam_run LO hr.in1 (eu.un g.un g.hok g.bare sz).in1 (g.un.keep f _ ho hfu ff (by simp)) (g.hok c' _ (pc H' g.phi)).1 (hbind v) hcl ⟨oc, g.un.keep cc _ qc hcu fcc (by simp), dc⟩ F hb kp hm hx rx rn (spk i _ H' en g.phi)) fun r s' hq => ?_)
      cases r with
      | error e => exact False.elim hq
      | ok fl =>
        cases fl with
        | next => exact False.elim hq
        | brk => exact False.elim hq
        | cont => exact False.elim hq
        | ret u =>
          obtain ⟨v', H2, os, bare, un, hok, r', ph, t', rfl, ht'⟩ := hq
          obtain rfl : u = .ref t' := r'
          exact ⟨H2, ⟨g.un.trans un, hok, bare, os.trans g.os, ph, un.free _ _ gI g.nI (by simp), un.free _ _ gS g.nS (by simp), (by obtain ⟨o, c, q⟩ := g.st; exact ⟨o, c, un.keep _ _ q g.nS (nf (Nat.le_succ _)) (by simp)⟩)⟩, ⟨t', rfl, ht'⟩, un.keep _ _ gS g.nS (nf (Nat.le_succ _)) (by simp), un.keep _ _ gI g.nI (nf (Nat.le_refl _)) (by simp), fun j y' ⟨t2, e1, e2⟩ => ⟨t2, e1, un.tups _ _ e2⟩⟩
    · obtain ⟨a, rfl, ea⟩ := kv
      obtain ⟨b, rfl, eb⟩ := ku
      obtain ⟨_, ia, ra, ta⟩ := g.hok a _ ea
      obtain ⟨_, ib, rb, tb⟩ := g.hok b _ eb
      exact HT.gt_tupInts (items := ia.toArray) (items2 := ib.toArray) ta tb (by simpa using qbd ra) (by simpa using qbd rb) (by have := hr.un; show A.units + 1 < _; omega) q
  refine maxK_call hr.hd hls T (γ := unT H l) ⟨Un.kept fun b o q => Heap.get?_push_of_some _ (Heap.get?_push_of_some _ q), eu.hok.kept fun b o q => Heap.get?_push_of_some _ (Heap.get?_push_of_some _ q), eu.bare, rfl, p0, eu.hok.fresh (Nat.le_refl _), eu.hok.fresh (Nat.le_succ _), ?_⟩ (fun z H' t g => ?_) (fun z v H' t hv g => ?_)
  · exact ⟨_, _, by rw [← size_push' s.heap { cls := .type "list_iterator", data := .fields #[.ref l, .int 0 0] }]; exact Heap.get?_push_size _ rfl⟩
  · have e : ns = [] := by
      rw [z] at lv
      exact List.eq_nil_of_length_eq_zero lv.symm
    exact fin g (v := .non) rfl (h0 e H' g.phi (g.un.free l _ el qcB (by simp)))
  · have hi : qaZ (fun i j => HT.lexGt (keys i) (keys j)) (its.length - 1) < ns.length := by
      have := (List.getElem?_eq_some_iff.mp hv).1
      omega
    have en : ns[qaZ (fun i j => HT.lexGt (keys i) (keys j)) (its.length - 1)]? = some ns[qaZ (fun i j => HT.lexGt (keys i) (keys j)) (its.length - 1)] := List.getElem?_eq_getElem hi
    have rn : RelV (V.int ns[qaZ (fun i j => HT.lexGt (keys i) (keys j)) (its.length - 1)]) v := by
      obtain ⟨u, e2, r2⟩ := rv.get (x := .int _) (by rw [List.getElem?_map, en]; rfl)
      rw [hv] at e2
      cases e2
      exact r2
    have ne : ns ≠ [] := fun y => by rw [y] at lv; exact z (List.eq_nil_of_length_eq_zero lv)
    exact fin g rn (h1 ne _ H' (by rw [← lv]; exact en) g.phi (g.un.free l _ el qcB (by simp)))
end
end L2
namespace L2
open PySem PySem.Spec PySem.Calls PyProof.Rows PySem.W
def TabOk (H : Hp) (Pt : Addr) (pos : Pos) (qual : Str) : Prop := ∃ ps : Array Value, H Pt = some (.tbl ps) ∧ TriplesOk ps.toList ∧ (codeAmong pos ps.toList = none ∨ ∃ c', codeAmong pos ps.toList = some (.ref c') ∧ H c' = some (qc1 c' qual))
theorem code_stable {c : Addr} {qual : Str} (h1 h2 : Heap) (x : h1.CodeRec (.ref c) qual) (k : ∀ o, h1.get? c = some o → h2.get? c = some o) : h2.CodeRec (.ref c) qual := by
  obtain ⟨c2, o, vs, t, e, g, r⟩ := x
  cases e
  exact ⟨c, o, vs, t, rfl, k _ g, r⟩
theorem qbZ {c : Value} {pos : Pos} : ∀ (ps : List Value), TriplesOk ps → codeAmong pos ps = none → TriplesOk (ps ++ [rawInt pos.line, rawInt pos.col, c]) ∧ codeAmong pos (ps ++ [rawInt pos.line, rawInt pos.col, c]) = some c
  | [], _, _ => ⟨trivial, by simp [codeAmong, rawInt]⟩
  | .int a t :: .int b u :: v :: r, h, n => by
    have n' : (if (a == (pos.line : Int) && b == (pos.col : Int)) = true then some v else codeAmong pos r) = none := n
    by_cases z : (a == (pos.line : Int) && b == (pos.col : Int)) = true
    · rw [if_pos z] at n'; cases n'
    · rw [if_neg z] at n'
      obtain ⟨h1, h2⟩ := qbZ r h n'
      refine ⟨h1, ?_⟩
      show (if (a == (pos.line : Int) && b == (pos.col : Int)) = true then some v else codeAmong pos (r ++ [rawInt pos.line, rawInt pos.col, c])) = some c
      rw [if_neg z]
      exact h2
section
variable {X : Cx} {pins : List (Addr × Obj)} {s : Shared} {σ : St} {H : Hp} {c Pt : Addr} {params : Arguments} {body : Expr} {scope : Scope} {pos : Pos} {cl : List (Str × Addr)} {Q : Value → Shared → Prop} {E : Value → Shared → Prop}
theorem lam_eval (I : Inv X pins σ H s) (hcode : X.env.code = .ref c) (hC : codeHdIn X.K c Pt = true) (hPt : Pt ≠ mainGlobals) (tb : TabOk H Pt pos (X.env.qual ++ "<lambda>"))
    (hB : X.base.BuiltinsAt X.mg Pt)
    (hcl : closureFor scope X.env = pure cl) (hdef : defaultsOf params X.env = ([], []))
    (k : ∀ (f c' : Addr) (ctv : Value) (h' : Heap) (tk : Nat) (H' : Hp), Inv X pins σ H' { s with heap := h', toks := tk } → h'.get? f = some (kla_obj "<lambda>" (X.env.qual ++ "<lambda>") params body scope cl ((X.mg "__name__").getD .none) c' ctv) → s.heap.objs.size ≤ f → H f = none → H' f = none →
      H' c' = some (qc1 c' (X.env.qual ++ "<lambda>")) → TabOk H' Pt pos (X.env.qual ++ "<lambda>") → (∀ b, b ≠ Pt → ∀ o, H b = some o → H' b = some o) → Q (.ref f) { s with heap := h', toks := tk }) :
    wpAny (model X.prog X.w) X.A (eval (.Lambda params body scope pos) X.env) Q E s := by
  obtain ⟨ps, hT, ht, cs⟩ := tb
  have eT : s.heap.get? Pt = some (tabObj ps) := I.hok Pt _ hT
  have bA : s.heap.BuiltinsAt X.mg Pt := by
    obtain ⟨bm, o, b1, b2, b3, b4, b5, r⟩ := hB
    exact ⟨bm, o, b1, b2, b3, b4, I.bk _ _ b5, r⟩
  have hg : s.heap.Ns mainGlobals X.mg := I.mod.glob.keeps I.bk
  have C := codeHd_of_K I.kIn hC
  refine kla_eval hdef ?_
  rcases cs with hn | ⟨c', hs, hc'⟩
  · refine kla_makeFunction hcl I.ok.glob hg hcode C eT ht hn (Ne.symm hPt) bA fun c' ctv h' tk hx hge hlt hrec htb => ?_
    obtain ⟨tm, cm⟩ := qbZ (c := .ref c') (pos := pos) ps.toList ht hn
    have cP : c' ≠ Pt := fun z => by
      have := Heap.lt_size eT
      rw [← z] at this
      exact absurd this (Nat.not_lt_of_le hge)
    have nc : H c' = none := I.hok.fresh hge
    have kk : ∀ b o, b ≠ Pt → s.heap.get? b = some o → (h'.push (kla_obj "<lambda>" (X.env.qual ++ "<lambda>") params body scope cl ((X.mg "__name__").getD .none) c' ctv)).get? b = some o := fun b o n e => Heap.get?_push_of_some _ (hx b o n e)
    have sz : s.heap.objs.size ≤ h'.objs.size := Nat.le_of_lt (Nat.lt_of_le_of_lt hge hlt)
    have fr := Heap.get?_push_size h' (o := kla_obj "<lambda>" (X.env.qual ++ "<lambda>") params body scope cl ((X.mg "__name__").getD .none) c' ctv) rfl
    have neP : ∀ {b : Addr} {o : HO}, H b = some o → (∀ qs, o ≠ .tbl qs) → b ≠ Pt := fun e n z => by rw [z, hT] at e; cases e; exact n _ rfl
    have neC : ∀ {b : Addr} {o : HO}, H b = some o → b ≠ c' := fun e z => by rw [z, nc] at e; cases e
    have fc : h'.objs.size ≠ c' := Nat.ne_of_gt hlt
    have fP : h'.objs.size ≠ Pt := Nat.ne_of_gt (Nat.lt_of_lt_of_le (Heap.lt_size eT) sz)
    have nF : H h'.objs.size = none := I.hok.fresh sz
    have H'f : upd (upd H Pt (.tbl (ps ++ #[rawInt pos.line, rawInt pos.col, .ref c']))) c' (qc1 c' (X.env.qual ++ "<lambda>")) h'.objs.size = none := by rw [qai fc, qai fP]; exact nF
    have old : ∀ b, b ≠ Pt → ∀ o, H b = some o → upd (upd H Pt (.tbl (ps ++ #[rawInt pos.line, rawInt pos.col, .ref c']))) c' (qc1 c' (X.env.qual ++ "<lambda>")) b = some o := fun b n o e => by rw [qai (neC e), qai n]; exact e
    refine k h'.objs.size c' ctv _ tk _ (I.un (t' := tk) ⟨fun b o e n hb he => kk b o (fun z => by rw [z, hT] at n; cases n) e, fun b o e n hb he => ⟨o.slots, kk b o (fun z => by rw [z, hT] at n; cases n) e⟩, fun b o e n he => ?_, fun b o e he => ?_, fun b ys e => old b (neP e fun _ z => nomatch z) _ e, fun b o z e => old b (neP e fun _ z => nomatch z) _ e, fun b qs e => ?_⟩ fun a o e => ?_) fr sz nF H'f qab ⟨_, by rw [qai (Ne.symm cP), qab], by simpa using tm, .inr ⟨c', by simpa using cm, qab⟩⟩ old
    · rw [qai (fun z => by have := Heap.lt_size e; rw [z] at this; exact absurd this (Nat.not_lt_of_le hge)), qai (fun z => by rw [z, hT] at n; cases n)]
      exact n
    · by_cases z : b = Pt
      · rw [z]; exact ⟨_, Heap.get?_push_of_some _ htb⟩
      · exact ⟨o, kk b o z e⟩
    · by_cases z : b = Pt
      · rw [z, hT] at e
        cases e
        rw [z]
        exact ⟨_, by rw [qai (Ne.symm cP), qab]⟩
      · exact ⟨#[], by rw [old b z _ e]; simp⟩
    · by_cases za : a = c'
      · rw [za, qab] at e
        cases e
        obtain ⟨c2, oc, vs, t, e2, g2, r2⟩ := id hrec
        cases e2
        rw [za]
        exact ⟨hrec.push _, ⟨_, Heap.get?_push_of_some _ g2⟩, code_stable⟩
      · rw [qai za] at e
        by_cases zp : a = Pt
        · rw [zp, qab] at e
          cases e
          rw [zp]
          exact Heap.get?_push_of_some _ htb
        · rw [qai zp] at e
          refine (I.hok a o e).stay (fun b u z q => kk b u (fun y => ?_) q) (fun b q => old b (neP q fun _ z => nomatch z) _ q) fun b ys q => old b (neP q fun _ z => nomatch z) _ q
          rcases z with z | z
          · exact zp (z.symm.trans y)
          · rw [y, hT] at z; cases z
  · refine kla_makeFunctionHit hcl I.ok.glob hg hcode C eT ht hs bA fun ctv h' tk hx hsz => ?_
    have fr := Heap.get?_push_size h' (o := kla_obj "<lambda>" (X.env.qual ++ "<lambda>") params body scope cl ((X.mg "__name__").getD .none) c' ctv) rfl
    exact k h'.objs.size c' ctv _ tk H (I.kept (t' := tk) fun b o e => Heap.get?_push_of_some _ (hx b o e)) fr hsz (I.hok.fresh hsz) (I.hok.fresh hsz) hc' ⟨ps, hT, ht, .inr ⟨c', hs, hc'⟩⟩ fun b _ o e => e
end
end L2
namespace L2
open PySem PySem.Spec PySem.Calls PyProof.Rows PySem.W
def tMaxK (ta : TA) (ix : Nat) (sp : Sp) (E : XK) (Pt : Addr) (lpos : Pos) (qual : Str) : TE := fun σ H Q => ta σ H fun vs H1 => ∃ (l : Addr) (ns : List Int) (xv : V) (keys : Nat → List Int), vs = [.ref l] ∧ H1 l = some (.lst (ns.map V.int)) ∧ TabOk H1 Pt lpos qual ∧ σ[ix]? = some (some xv) ∧
  ∀ (H2 : Hp) (c' : Addr), (∀ b, b ≠ Pt → ∀ o, H1 b = some o → H2 b = some o) → TabOk H2 Pt lpos qual → H2 c' = some (qc1 c' qual) →
    ∃ Φ : Hp → Prop, Φ (unT H2 l) ∧ (∀ H', Φ H' → H' c' = some (qc1 c' qual)) ∧ (∀ (i : Nat) (n : Int) (H' : Hp), ns[i]? = some n → Φ H' → sp [xv, .int n] H' (fun kv H3 => Φ H3 ∧ ∃ t, kv = .ref t ∧ H3 t = some (.tup ((keys i).map V.int))) E) ∧
      (ns = [] → ∀ H', Φ H' → H' l = none → Q .non (upd H' l (.lst (ns.map V.int)))) ∧ (ns ≠ [] → ∀ (n : Int) (H' : Hp), ns[qaZ (fun i j => HT.lexGt (keys i) (keys j)) (ns.length - 1)]? = some n → Φ H' → H' l = none → Q (.int n) (upd H' l (.lst (ns.map V.int))))
section
variable {X : Cx} {CX : CXT} {k : Nat} {e : Expr} {ta : TA} {ix : Nat} {c Pt fp : Addr} {dp : FuncData} {fn x y : Str} {ps : List Str} {sp : Sp} {E : XK} {params : Arguments} {body : Expr} {scope : Scope} {lpos kp1 kp2 dpos p pos : Pos} {j : Nat}
theorem pe_maxKey (hc : X.calm = true) (hg : Gl X "max") (hm : X.mg "max" = none) (hv : bootBuiltins "max" = some (.builtin "max")) (ha : PA X [e] ta) (LO : LamOk scope body fn x y) (hr : Room (k + 2) X.A)
    (hN : X.N[ix]? = some x) (hcx : X.env.kindOf x = some .cell) (hfn : X.fn x = true) (hcode : X.env.code = .ref c) (hC : codeHdIn X.K c Pt = true) (hPt : Pt ≠ mainGlobals)
    (hB : X.base.BuiltinsAt X.mg Pt)
    (hcl : ∀ cc, X.env.cells.lookup x = some cc → closureFor scope X.env = pure [(x, cc)]) (hdef : defaultsOf params X.env = ([], []))
    (hbind : ∀ (qual : Str) (cl : List (Str × Addr)) (pm : Value) (c' : Addr) (ctv v : Value), bindArgs (kla_fn "<lambda>" qual params body scope cl pm (.ref c') ctv) ⟨[v], []⟩ = pure [(y, v)])
    (F : FnOk X.prog X.w X.K X.mg X.base CX k fp dp ps sp) (hb : Binds X.K dp ps []) (kp : PySem.W.keepIn X.K (.ref fp) = true) (hmf : X.mg fn = some (.ref fp)) (hxx : ∀ o h s2 e s3, CX o h s2 E e s3 → False)
    (he : starEach [e] X.env = [(false, eval e X.env)] := by rfl) :
    PE X (.Call (.Name "max" p) [e] [⟨some "key", .Lambda params body scope lpos, kp1⟩, ⟨some "default", .Constant .none j dpos, kp2⟩] pos) (tMaxK ta ix sp E Pt lpos (X.env.qual ++ "<lambda>")) := by
  intro pins s σ H Q I h
  refine wpAny_Call_Name_kw (qck I hg hm hv ?_ (by decide) (by decide))
  refine callWith_kw (thn (ha pos pins s σ H _ I h) fun us s1 hx => ?_) (by rw [he]; rfl) (by rw [he]; rfl)
  obtain ⟨vs, H1, I1, r1, l, ns, xv, keys, e1, hl, tb, hσ, rest⟩ := hx
  subst e1
  obtain ⟨u, rfl, rx⟩ := qcv r1
  cases rx
  have vis : Vis X.env.scope x := .inr (.inl hcx)
  obtain ⟨cc, hcc⟩ := I1.ok.has x (.inl hcx)
  refine kws_cons (lam_eval I1 hcode hC hPt tb hB (hcl cc hcc) hdef fun f c' ctv h' tk H2 I2 ho hsz nf hf hc' tb2 grow => kws_cons (Constant_none (kws_nil ?_)))
  obtain ⟨Φ, p0, pc, spk, h0, h1⟩ := rest H2 c' grow tb2 hc'
  obtain ⟨m, hn, hloc⟩ := I2.loc
  obtain ⟨u, ru, lk⟩ := hloc ix x xv hN hσ vis
  have hcell : h'.IsCell cc (some u) := by
    rcases lk with ⟨kd, _⟩ | ⟨_, c2, e2, z⟩
    · rw [hcx] at kd; cases kd
    · rw [hcc] at e2; cases e2; exact z
  have fs : ∀ {b : Addr}, b ∈ frs X.stack → b ≠ f ∧ b ≠ cc := fun {b} hb => by
    refine ⟨fun z => ?_, fun z => ?_⟩
    · obtain ⟨_, o, q, _⟩ := I1.stack.mem hb
      have := Heap.lt_size q
      rw [z] at this
      exact absurd this (Nat.not_lt_of_le hsz)
    · rcases List.mem_cons.mp (I1.stkSub b hb) with y | y
      · exact I1.cne x cc hcc (z.symm.trans y)
      · obtain ⟨_, o, q, _⟩ := I1.ok.funs.mem y
        have := Heap.lt_size q
        rw [z] at this
        exact absurd this (Nat.not_lt_of_le (I1.ok.cab x cc hfn hcc))
  have hl2 : H2 l = some (.lst (ns.map V.int)) := grow l (fun z => by obtain ⟨qs, e, _⟩ := tb; rw [z, e] at hl; cases hl) _ hl
  show wpAny _ _ (call (.builtin "max") [.ref l] [("key", .ref f), ("default", .none)]) _ _ _
  exact wpAny_mono (lam_max (Ex := X.xe) LO hr I2.env0 ho hf (fun z => (fs z).1 rfl) (fun v => hbind _ _ _ _ _ v) (by simp) hcell (I2.freeC x cc hcc) (fun z => (fs z).2 rfl) F hb kp hmf hxx ru hl2 Φ p0 pc keys spk h0 h1) (fun u s' ce => I2.after ce) fun _ _ z => z
end
end L2
namespace L2
open PySem PySem.Spec PyProof.Rows
def qe2 (Pt : Addr) (H : Hp) : Prop := H Pt = some (.tbl #[]) ∧ ∀ b, b ≠ Pt → H b = none ∨ ∃ o xs, H b = some (.frz o (.lst xs))
theorem law_callT {P : Program} {w : World} {K : PySem.W.Frag} {mg mb : Str → Option Value} {CX : CXT} {k : Nat} {fa a c Pt : Addr} {fd : FuncData} {x : Str} {sp : Sp} {s₁ : Shared} {vs : List Value} {ns : List Int}
    (KX : K.In s₁.heap) (hns : s₁.heap.Ns mainGlobals mg) (hb : s₁.heap.Ns builtinsNs mb) (hbb : ∀ x : Str, x ≠ "__name__" → mb x = bootBuiltins x) (hlim : s₁.heap.NoLimit) (hg : s₁.gens = #[])
    (ha : s₁.heap.get? a = some { cls := .type "list", data := .seq vs.toArray }) (hi : IntsAre vs ns) (hl : ns.length ≤ sizeLine) (hr : Room k callerA)
    (hC : PySem.W.codeHdIn K c Pt = true) (hT : s₁.heap.get? Pt = some (PySem.W.tabObj #[])) (hKP : K.lookup Pt = none) (hBm : s₁.heap.BuiltinsAt mg Pt)
    (F : ∀ base : Heap, K.In base → base.Ns mainGlobals mg → base.BuiltinsAt mg Pt → FnOk P w K mg base CX k fa fd [x] sp) (hbind : ∀ (s : Shared) (u : Value), BindsTo s fd ⟨[u], []⟩ [(x, u)])
    (hsp : ∀ H : Hp, qe2 Pt H → SqL K H a (ns.map V.int) → sp [.ref a] H (fun v _ => v = .bl true) fun _ _ _ => False)
    (hCX : ∀ H e s', CX [] H s₁ (fun _ _ _ => False) e s' → False) :
    codeAny (model P w) callerA (.call (.ref fa) ⟨[.ref a], []⟩) (fun r s' => r = .ok (.ret (.bool true)) ∧ OldK s₁.heap s'.heap ∧ s'.os = s₁.os ∧ AllBare s'.gens) s₁ := by
  have rv := vals_ints hi
  have lenV := hi.length
  have aP : a ≠ Pt := fun z => by rw [z, hT] at ha; cases ha
  have core : ∀ H : Hp, qe2 Pt H → SqL K H a (ns.map V.int) → HOk P w H s₁.heap → (∀ b, H b ≠ none → b = a ∨ b = Pt) → (H a ≠ none → K.lookup a = none) →
      codeAny (model P w) callerA (.call (.ref fa) ⟨[.ref a], []⟩) (fun r s' => r = .ok (.ret (.bool true)) ∧ OldK s₁.heap s'.heap ∧ s'.os = s₁.os ∧ AllBare s'.gens) s₁ := by
    intro H hO hS hok hA hK
    have base_of : ∀ {b : Addr} {o : Obj}, s₁.heap.get? b = some o → H b = none → (hidT s₁.heap H).get? b = some o := fun e n => hidT_get e n
    have noA : ∀ {b : Addr} {o : Obj} {es : Array DictEntry} {ep : Nat}, s₁.heap.get? b = some o → o.data = .dict es ep → H b = none := fun {b o es ep} e d => by
      cases q : H b with
      | none => rfl
      | some u =>
        rcases hA b (by rw [q]; simp) with e' | e'
        · subst e'
          rw [ha] at e; cases e
          have d' : Data.seq vs.toArray _ = Data.dict es ep := d
          cases d'
        · rw [e', hT] at e
          cases e
          cases d
    have nsK : ∀ {b : Addr} {m : Str → Option Value}, s₁.heap.Ns b m → (hidT s₁.heap H).Ns b m := fun {b m} ⟨o, es, ep, e, d, r⟩ => ⟨o, es, ep, base_of e (noA e d), d, r⟩
    have hKb : K.In (hidT s₁.heap H) := fun b o e => base_of (KX b o e) (by
      cases q : H b with
      | none => rfl
      | some u =>
        rcases hA b (by rw [q]; simp) with e' | e'
        · subst e'
          rw [hK (by rw [q]; simp)] at e; cases e
        · rw [e', hKP] at e; cases e)
    have hM : Mod K mg (hidT s₁.heap H) := ⟨hKb, nsK hns, ⟨mb, nsK hb, hbb⟩, let ⟨mc, h1, h2⟩ := hlim; ⟨mc, nsK h1, h2⟩⟩
    have hBb : (hidT s₁.heap H).BuiltinsAt mg Pt := by
      obtain ⟨bm, o, b1, b2, b3, b4, b5, b6, r⟩ := hBm
      refine ⟨bm, o, b1, b2, b3, b4, base_of b5 ?_, b6, r⟩
      cases q : H bm with
      | none => rfl
      | some u =>
        rcases hA bm (by rw [q]; simp) with e' | e'
        · rw [e', ha] at b5
          cases b5
          have z : (Value.type "list") = .type "module" := b6
          exact absurd z (by decide)
        · exact absurd e' b4
    have e0 : Env0 P w K mg (hidT s₁.heap H) callerA [] s₁ H := ⟨rfl, hM, fun b o e => of_hidT e, Nat.le_of_eq (hidT_size _ _), trivial, fun b hb => absurd (show b ∈ ([] : List Addr) from hb) (by simp), hok, .of_eq hg⟩
    refine codeAny_mono ((F _ hKb (nsK hns) hBb).run callerA [] s₁ H ⟨[.ref a], []⟩ [.ref a] [.ref a] _ _ hr e0 (hbind s₁ (.ref a)) (.cons rfl .nil) (hsp H hO hS)) fun r s' h => ?_
    cases r with
    | error e => exact (hCX H e s' h).elim
    | ok fl =>
      cases fl with
      | next => exact False.elim h
      | brk => exact False.elim h
      | cont => exact False.elim h
      | ret u =>
        obtain ⟨v, H', os, bare, un, hok', r', q⟩ := h
        have q' : v = .bl true := q
        subst q'
        obtain rfl : u = Value.bool true := r'
        obtain ⟨more, eT⟩ := un.tbls Pt _ hO.1
        have gT : s'.heap.get? Pt = some { cls := .none, data := .fields (#[] ++ more) } := hok' Pt _ eT
        have kept : ∀ b o, b ≠ Pt → s₁.heap.get? b = some o → s'.heap.get? b = some o := fun b o n e => by
          cases q : H b with
          | none => exact un.keep b o e q (by intro z; exact absurd (show b ∈ ([] : List Addr) from z) (by simp)) (by simp)
          | some u =>
            rcases hO.2 b n with z | ⟨ob, xs, z⟩
            · rw [q] at z; cases z
            · have z2 := un.frzs b ob _ z
              obtain ⟨e1, _⟩ := hok b _ z
              obtain ⟨e2, _⟩ := hok' b _ z2
              rw [e] at e1; cases e1
              exact e2
        obtain ⟨oc, cv, _, _, _, _, _, _, _, g1, g2, g3, g4, _⟩ := PySem.W.codeHd_of_K KX hC
        refine ⟨rfl, ⟨fun b o e => ?_, fun b o e => ?_⟩, os, bare⟩
        · by_cases z : b = Pt
          · rw [z, hT] at e
            cases e
            rw [z]
            exact .inr (.inl ⟨⟨c, oc, cv, g1, g2, g3, g4⟩, rfl, #[], more, rfl, gT⟩)
          · exact .inl (kept b o z e)
        · by_cases z : b = Pt
          · rw [z]; exact ⟨_, gT⟩
          · exact ⟨o, kept b o z e⟩
  have okT : ∀ H : Hp, H Pt = some (.tbl #[]) → ObjOk P w H s₁.heap Pt (.tbl #[]) := fun H _ => hT
  cases hk : K.lookup a with
  | some o =>
    have e := KX a o hk
    rw [ha] at e
    cases e
    refine core (fun b => if b = Pt then some (.tbl #[]) else none) ⟨if_pos rfl, fun b n => .inl (if_neg n)⟩ (.inr ⟨_, vs.toArray, _, hk, rfl, rfl, rfl, by rw [List.size_toArray, lenV]; exact hl, by simpa using rv⟩) (fun b u z => ?_) (fun b z => ?_) fun z => absurd (if_neg aP) z
    · by_cases y : b = Pt
      · have z' := (if_pos y).symm.trans z
        cases z'
        rw [y]
        exact okT _ (if_pos rfl)
      · have z' := (if_neg y).symm.trans z
        cases z'
    · by_cases y : b = Pt
      · exact .inr y
      · exact absurd (if_neg y) z
  | none =>
    refine core (fun b => if b = Pt then some (.tbl #[]) else if b = a then some (.frz { cls := .type "list", data := .seq vs.toArray } (.lst (ns.map V.int))) else none) ⟨if_pos rfl, fun b n => ?_⟩ (.inl (.inr ⟨{ cls := .type "list", data := .seq vs.toArray }, by show (if a = Pt then _ else if a = a then _ else none) = _; rw [if_neg aP, if_pos rfl]⟩)) (fun b u z => ?_) (fun b z => ?_) fun _ => hk
    · by_cases hb : b = a
      · exact .inr ⟨_, _, by show (if b = Pt then _ else if b = a then _ else none) = _; rw [if_neg n, if_pos hb]⟩
      · exact .inl (by show (if b = Pt then _ else if b = a then _ else none) = none; rw [if_neg n, if_neg hb])
    · by_cases y : b = Pt
      · have z' := (if_pos y).symm.trans z
        cases z'
        rw [y]
        exact okT _ (if_pos rfl)
      · by_cases hb : b = a
        · have z' : (if b = Pt then some (HO.tbl #[]) else if b = a then some (.frz { cls := .type "list", data := .seq vs.toArray } (.lst (ns.map V.int))) else none) = some u := z
          rw [if_neg y, if_pos hb] at z'
          cases z'
          subst hb
          exact ⟨ha, by rw [List.length_map]; exact hl, vs, _, rv, ha⟩
        · have z' : (if b = Pt then some (HO.tbl #[]) else if b = a then some (.frz { cls := .type "list", data := .seq vs.toArray } (.lst (ns.map V.int))) else none) = some u := z
          rw [if_neg y, if_neg hb] at z'
          cases z'
    · by_cases y : b = Pt
      · exact .inr y
      · by_cases hb : b = a
        · exact .inl hb
        · exact absurd (by show (if b = Pt then _ else if b = a then _ else none) = none; rw [if_neg y, if_neg hb]) z
theorem walk_ofT {l : PySem.W.OpenLaw} {n k : Nat} {q : Program} {loose : List Str} {XP : (Str → Option Value) → Heap → Prop} {YP : World → Heap → Prop} {d : DefRec} {K : Params → PySem.W.Frag} {CX : World → CXT} {sp : World → Sp} {x : Str} {c Pt : Addr}
    (hn : l.most = some n) (hn2 : n ≤ sizeLine) (hdf : d.params.defaults = []) (hr : Room k callerA)
    (hY : ∀ (w : World) (h : Heap), YP w h → (K w.params).In h ∧ h.get? Pt = some (PySem.W.tabObj #[])) (hC : ∀ w : World, PySem.W.codeHdIn (K w.params) c Pt = true) (hKP : ∀ w : World, (K w.params).lookup Pt = none)
    (F : ∀ (w : World) (mg : Str → Option Value) (fa : Addr) (h : Heap), (K w.params).In h → h.Ns mainGlobals mg → mg d.name = some (.ref fa) →
      ∃ fd : FuncData, (∀ (s : Shared) (u : Value), BindsTo s fd ⟨[u], []⟩ [(x, u)]) ∧
        ∀ base : Heap, (K w.params).In base → base.Ns mainGlobals mg → base.BuiltinsAt mg Pt → FnOk l.prog w (K w.params) mg base (CX w) k fa fd [x] (sp w))
    (hsp : ∀ (w : World) (H : Hp) (a : Addr) (ns : List Int), ns.length ≤ n → qe2 Pt H → SqL (K w.params) H a (ns.map V.int) → sp w [.ref a] H (fun v _ => v = .bl true) fun _ _ _ => False)
    (hCX : ∀ (w : World) (H : Hp) (s : Shared) (e : Value) (s' : Shared), CX w [] H s (fun _ _ _ => False) e s' → False) :
    PySem.W.WalkO q loose XP YP l.row.toRowW d [] (fun f vs => PySem.call f vs) := by
  refine Att.attach_call hn hdf fun w s₀ s₁ mg mb fa o pm cd doc a vs ns G Y ho hd hcd hmg hobj hints hlen hg => ?_
  obtain ⟨KX, hT⟩ := hY w _ Y
  obtain ⟨fd, hb, hF⟩ := F w mg fa _ KX G.T.g hmg
  have hBm : s₁.heap.BuiltinsAt mg Pt := by
    obtain ⟨bm, ob, m⟩ := PySem.W.bmod_of_top G.T
    refine ⟨bm, ob, m.name, m.ne, fun z => ?_, fun z => ?_, m.obj, m.cls, m.dict, m.data⟩
    · obtain ⟨o, es, ep, e, d, _⟩ := G.T.g
      have := m.obj
      rw [z, e] at this
      cases this
      have y := m.data
      rw [d] at y
      cases y
    · have := m.obj
      rw [z, hT] at this
      cases this
      have y := m.data
      cases y
  exact law_callT KX G.T.g G.T.b G.T.builtins G.T.nolimit hg hobj hints (Nat.le_trans hlen hn2) hr (hC w) hT (hKP w) hBm hF hb (fun H hO hS => hsp w H a ns hlen hO hS) fun H e s' => hCX w H s₁ e s'
end L2
namespace Gen
open PySem L2 Bk
structure BnX (mg : Str → Option Value) : Prop extends Bn mg where
  any : mg "any" = none
  min : mg "min" = none
  max : mg "max" = none
  sum : mg "sum" = none
  zip : mg "zip" = none
end Gen
namespace L2
open PySem PySem.Spec PyProof.Rows
section
variable {prog : Program} {w : World} {A : Around} {E : Value → Shared → Prop} {s : Shared}
theorem tuple_index {a : Addr} {o : Obj} {its : Array Value} {n : Nat} {ks : List Str} {x : Str} {t : Tok} {j : Nat} {Q : Value → Shared → Prop} (ho : s.heap.get? a = some o) (hc : o.cls = .type "tuple") (hd : o.data = .seq its n) (hl : its.size = ks.length)
    (hk : ∀ (i : Nat) (y : Str), ks[i]? = some y → ∃ u, its[i]? = some (Value.str y u)) (hj : ks[j]? = some x) (hlt : ∀ i : Nat, i < j → ks[i]? ≠ some x) (h : ∀ t', Q (.int j t') { s with toks := s.toks + 1 }) : wpAny (model prog w) A (call (.builtin "tuple.index") [.ref a, .str x t]) Q E s := by
  refine wpAny_call_entry PySem.F.slot_tuple_index ⟨o, ho, hc⟩ PySem.F.entry_tuple_index ?_ (PySem.F.args_tuple_index_2 _ _)
  unfold Builtin.«tuple.index»
  refine wpAny_bind (wpAny_of_eq (show selfAndSome "tuple.index" "index" 1 3 ⟨[.ref a, .str x t], []⟩ = pure (.ref a, [.str x t]) from rfl) ?_)
  refine wpAny_bind (wpAny_tupleItemsOf ho hd ?_)
  refine wpAny_bind (wpAny_pure (wpAny_bind (wpAny_pure ?_)))
  dsimp only
  rw [Nat.min_self, Std.Legacy.Range.forIn_eq_forIn_range']
  refine wpAny_bind (wpAny_forIn_list _ (fun rest b s' => b.1 = none ∧ s' = s ∧ ∃ i, i ≤ j ∧ rest = List.range' i (its.size - i)) _ ?_ ?_ _ _ ⟨rfl, rfl, 0, Nat.zero_le _, ?_⟩)
  · rintro i rest b s' ⟨hb, rfl, i', hi, er⟩
    have jl : j < its.size := by rw [hl]; exact (List.getElem?_eq_some_iff.mp hj).1
    obtain ⟨k, ek⟩ : ∃ k, its.size - i' = k + 1 := ⟨its.size - i' - 1, by omega⟩
    rw [ek, List.range'_succ] at er
    obtain ⟨rfl, er⟩ := List.cons.inj er
    have il : i < ks.length := by omega
    obtain ⟨u, eu⟩ := hk i ks[i] (List.getElem?_eq_getElem il)
    rw [eu]
    refine wpAny_bind (wpAny_eqBool_str ?_)
    by_cases e : ks[i] = x
    · have ij : i = j := by
        refine Nat.le_antisymm hi (Nat.le_of_not_lt fun z => hlt i z ?_)
        rw [List.getElem?_eq_getElem il, e]
      subst ij
      rw [decide_eq_true e]
      refine wpAny_bind (wpAny_bind (wpAny_mkInt (wpAny_pure (wpAny_pure ?_))))
      exact wpAny_pure ⟨_, rfl, h _⟩
    · rw [decide_eq_false e]
      have ne : i ≠ j := fun z => e (by subst z; rw [List.getElem?_eq_getElem il] at hj; exact Option.some.inj hj)
      refine wpAny_pure ⟨rfl, rfl, i + 1, by omega, ?_⟩
      rw [er, show its.size - (i + 1) = k by omega]
  · rintro b s' ⟨hb, rfl, i', hi, er⟩
    have jl : j < its.size := by rw [hl]; exact (List.getElem?_eq_some_iff.mp hj).1
    have := congrArg List.length er
    rw [List.length_range'] at this
    simp at this
    omega
  · simp [Std.Legacy.Range.size]
end
def rIndex (K : PySem.W.Frag) : V → List V → Hp → VK → Prop := fun x vs H Q => ∃ (a : Addr) (ks : List Str) (y : Str) (j : Nat), x = .ref a ∧ vs = [.str y] ∧ SqT K H a (ks.map V.str) ∧ ks[j]? = some y ∧ (∀ i : Nat, i < j → ks[i]? ≠ some y) ∧ Q (.int j) H
section
variable {X : Cx}
theorem mt_index : MtR X "tuple.index" (rIndex X.K) := by
  intro pins s σ H x xs v us Q I rx rv h
  obtain ⟨a, ks, y, j, rfl, rfl, hq, hj, hlt, q⟩ := h
  cases rx
  obtain ⟨u, rfl, ru⟩ := Vals.one rv
  obtain ⟨t, rfl⟩ := ru
  obtain ⟨its, rv', pl, hz⟩ := I.tuple hq
  have hl : its.toArray.size = ks.length := by rw [List.size_toArray, ← rv'.length, List.length_map]
  obtain ⟨o, ho, hc, n, hd⟩ := pl
  refine tuple_index (ks := ks) ho hc hd hl (fun i z e => ?_) hj hlt fun t' => ⟨.int j, H, I.tok _, ⟨t', rfl⟩, q⟩
  obtain ⟨u, e2, r2⟩ := rv'.get (i := i) (x := .str z) (by rw [List.getElem?_map, e]; rfl)
  obtain ⟨t2, rfl⟩ := r2
  exact ⟨t2, by simpa using e2⟩
end
end L2
namespace L2
open PySem PySem.Spec PyProof.Rows
end L2
namespace L2
open PySem PySem.Spec PyProof.Rows
structure KDict (P : Program) (w : World) (K : PySem.W.Frag) (a : Addr) (kvs : List (Key × Value)) : Prop where
  ex : ∃ o es ep, K.lookup a = some o ∧ o.ExactDict ∧ o.data = .dict es ep ∧ KeysOf (qaT P w) es ∧ Pairs (qaT P w) es.toList kvs ∧ (kvs.map (·.1)).Nodup
def rIxD (P : Program) (w : World) (K : PySem.W.Frag) : R2 := fun x y H Q => ∃ (a : Addr) (k : Str) (kvs : List (Key × Value)) (u : Value) (v : V), x = .ref a ∧ y = .str k ∧ KDict P w K a kvs ∧ valueAt kvs (.inr k) = some u ∧ RelV v u ∧ Q v H
theorem ix_kdict {X : Cx} : IxR X (rIxD X.prog X.w X.K) := by
  intro value slice pins s σ H x y v u Q I rx ry h hs
  obtain ⟨a, k, kvs, z, zv, rfl, rfl, ⟨o, es, ep, lk, ed, dt, ko, pr, nd⟩, hv, rz, q⟩ := h
  cases rx
  obtain ⟨t, rfl⟩ := ry
  have ho : s.heap.get? a = some o := I.bk a o (I.mod.kin a o lk)
  have dd : s.heap.DictOf (qaT X.prog X.w) a kvs := ⟨o, es, ep, ho, ed, dt, ko, pr, nd⟩
  have fin : ∀ s', Inv X pins σ H s' → EP X pins σ Q z s' := fun s' I' => ⟨zv, H, I', rz, q⟩
  exact subscriptTail_builtinR (x := z) dd.typeIs PySem.F.slot_dict_getitem.lookup
    (wpAny_getItem_of (Q := fun r s' => r = z ∧ EP X pins σ Q r s') (qbf _ _ _ _) dd.mapOf hv ⟨rfl, fin _ (I.tok _)⟩) hs
end L2
namespace Bk
open PySem L2 Gen
end Bk
namespace Gen
open PySem L2 Bk
end Gen
namespace Bk
open PySem L2 Gen
end Bk
namespace Gen
open PySem L2 Bk
end Gen
namespace Bk
open PySem L2
def propNames : List Str := props.map (·.1)
end Bk
namespace L2
open PySem PySem.Spec PyProof.Rows
end L2
namespace Gen
open PySem L2 Bk
end Gen
namespace Bd
open PySem L2 Bk Gen Gd
theorem pget {α β : Type} {F : α → β → Prop} {l1 : List α} {l2 : List β} (h : Paired F l1 l2) {i : Nat} {b : β} (e : l2[i]? = some b) : ∃ a, l1[i]? = some a ∧ F a b := by
  induction h generalizing i with
  | nil => cases e
  | @cons a b l1 l2 q t ih =>
    cases i with
    | zero => cases e; exact ⟨a, rfl, q⟩
    | succ i => exact ih (by simpa using e)
def IsProp (y : Str) (j : Nat) : Prop := propNames[j]? = some y ∧ ∀ i : Nat, i < j → propNames[i]? ≠ some y
structure PropT (K : PySem.W.Frag) (a : Addr) : Prop where
  tup : ∀ H : Hp, SqT K H a (propNames.map V.str)
  ob : ∃ o, K.lookup a = some o ∧ o.cls = .type "tuple" ∧ o.dict = none
end Bd
namespace L2
open PySem PySem.Spec
theorem list_keys_miss : typeLookup (.type "list") "keys" = pure none := am_miss_of_fast (by kernel_rfl)
theorem entry_dict_loop : entryFor table "dict.update.loop" = some Builtin.«dict.update.loop» := entryFor_of_tree (by kernel_rfl)
theorem plain_dict_loop : plainId "dict.update.loop" = true := by decide +kernel
section
variable {prog : Program} {w : World} {A : Around} {E : Value → Shared → Prop} {s : Shared}
theorem no_keys {a : Addr} {xs : Array Value} {k : Nat} {sl : Array (Option Value)} {Q : Option Value → Shared → Prop} (hA : A.handled = none) (hx : s.heap.get? a = some { cls := .type "list", dict := none, data := .seq xs k, slots := sl })
    (q : ∀ h' tk, (∀ b o, s.heap.get? b = some o → h'.get? b = some o) → Q none { s with heap := h', toks := tk }) : wpAny (model prog w) A (getAttr? (.ref a) "keys") Q E s := by
  obtain ⟨hp, g, d, tk, os⟩ := s
  have hT : ∀ tk', (⟨hp, g, d, tk', os⟩ : Shared).TypeIs (.ref a) "list" := fun _ => ⟨_, hx, rfl⟩
  have f1 := sub_AttributeError
  have f3 := F.slot_list_getattribute.lookup
  have f4 := F.slot_list_getattribute.bind (.ref a)
  have f5 := am_list_getattr_none
  have f6 := list_keys_miss
  unfold getAttr? getAttrBy?
  repeat (any_goals (first | assumption | exact hT _ | ((with_reducible show wpAny _ _ (call (Value.builtin "list.__getattribute__") _ _) _ _ _); refine call_meets F.slot_list_getattribute (hT _) am_entry_list_getattribute (F.args_list_getattribute_2 _ _) (meets_getattribute_miss_list a xs k sl "keys" _ f6 (by decide +kernel) (by decide +kernel)) ⟨hx, hA, fun h' tk' e hx' => ?_⟩) | wp_step))
  obtain ⟨t', u', he⟩ := hx'.there
  show wpAny _ _ (getattributeRaised _ _ _ _ _ _ _) _ _ _
  unfold getattributeRaised
  repeat (any_goals (first | assumption | wp_step))
  exact q _ _ hx'.keeps
end
section
variable {κ : Type} [DecidableEq κ]
def qds (key : Nat → κ) (vv : Nat → Value) : Nat → List (κ × Value)
  | 0 => []
  | i + 1 => stored (qds key vv i) (key i) (vv i)
theorem stored_le (l : List (κ × Value)) (k : κ) (v : Value) : (stored l k v).length ≤ l.length + 1 := by
  unfold stored
  split
  · rw [List.length_map]; exact Nat.le_succ _
  · rw [List.length_append]; exact Nat.le_refl _
theorem qcQ (key : Nat → κ) (vv : Nat → Value) : ∀ n, (qds key vv n).length ≤ n
  | 0 => Nat.le_refl _
  | n + 1 => Nat.le_trans (stored_le _ _ _) (Nat.succ_le_succ (qcQ key vv n))
end
def Two (h : Heap) (b : Addr) (k v : Value) : Prop := ∃ (o : Obj) (m : Nat), h.get? b = some o ∧ o.cls = .type "tuple" ∧ o.data = .seq #[k, v] m
section
variable {prog : Program} {w : World} {A : Around} {R : Result → Shared → Prop} {J : Addr} {fp wr : List Addr} {G : Array GenState → Array GenState → Prop} {n : Nat} {P : Nat → Value → Prop} {St : Nat → Shared → Prop} {κ : Type} [DecidableEq κ] {knd : KeyKind prog w κ}
theorem dict_loop (W : WalksS prog w A.in1 J fp wr G n P St) (d : Addr) (nd : d ∉ fp) (tup : Nat → Addr) (key : Nat → κ) (kv vv : Nat → Value) (hP : ∀ i v, P i v → v = .ref (tup i)) (hk : ∀ i, i < n → knd.is (key i) (kv i) = true)
    (nt : ∀ i, i < n → tup i ∉ d :: wr) (hn : n ≤ sizeLine) :
    ∀ (k i : Nat) (j : Int) (s : Shared), n - i = k → i ≤ n → St i s → s.heap.DictOf knd d (qds key vv i) → (∀ i, i < n → Two s.heap (tup i) (kv i) (vv i)) →
      (∀ s', Moved (d :: wr) G s s' → s'.heap.DictOf knd d (qds key vv n) → R (.ok (.ret .none)) s') →
      codeAny (model prog w) A (.builtin "dict.update.loop" ⟨[.ref d, .ref J, rawInt j, .none], []⟩) R s := by
  have ndw : d ∉ wr := fun q => nd (W.sub _ q)
  have sub : ∀ b ∈ wr, b ∈ d :: wr := fun b q => List.mem_cons_of_mem _ q
  intro k
  induction k with
  | zero =>
    intro i j s hk' hi st x tw fin
    obtain rfl : i = n := by omega
    refine codeAny_builtin entry_dict_loop ?_
    rw [Around.under_plainId plain_dict_loop _]
    show wpAny (model prog w) A.in1 (pyNext (.ref J) >>= _) _ _ s
    refine wpAny_bind (W.done s _ _ st fun s1 mv => ?_)
    show wpAny (model prog w) A.in1 (Builtin.Dict.addKeywords d [] >>= _) _ _ s1
    exact wpAny_bind (wpAny_pure (wpAny_pure (fin s1 (mv.mono sub) (x.at fun o e => mv.heap d _ ndw e))))
  | succ k ih =>
    intro i j s hk' hi st x tw fin
    have lt : i < n := by omega
    refine codeAny_builtin entry_dict_loop ?_
    rw [Around.under_plainId plain_dict_loop _]
    show wpAny (model prog w) A.in1 (pyNext (.ref J) >>= _) _ _ s
    refine wpAny_bind (W.item i s _ _ lt st fun v s1 hv st1 mv => ?_)
    obtain rfl := hP i v hv
    have x1 : s1.heap.DictOf knd d (qds key vv i) := x.at fun o e => mv.heap d _ ndw e
    have tw1 : ∀ i, i < n → Two s1.heap (tup i) (kv i) (vv i) := fun i hi => by
      obtain ⟨o, m, e, r⟩ := tw i hi
      exact ⟨o, m, mv.heap _ _ (fun z => nt i hi (sub _ z)) e, r⟩
    show wpAny (model prog w) A.in1 (holding [Value.ref (tup i)] _ >>= _) _ _ s1
    refine wpAny_bind (wpAny_holding ?_)
    obtain ⟨o, m, e, hc, hd⟩ := tw1 i lt
    refine wpAny_bind (wpAny_tryCatch ?_)
    unfold Builtin.Dict.pairItems
    refine wpAny_bind (wpAny_typeOf (T := "tuple") ⟨o, e, hc⟩ ?_)
    rw [if_pos (by decide)]
    refine wpAny_bind (wpAny_seqItems e hd (wpAny_pure ?_))
    show wpAny (model prog w) A.in1 (holding [kv i, vv i] (dictSet d (kv i) (vv i))) _ _ s1
    refine wpAny_holding ?_
    refine wpAny_dictSet_pairs (hk i lt) x1 (fun h' x2 sb => ?_) (Nat.le_trans (qcQ _ _ _) (by omega))
    refine wpAny_pure ⟨plainId_quiet plain_dict_loop _, ih (i + 1) (j + 1) _ (by omega) lt (W.frame _ s1 _ _ st1 (Nat.le_succ _) fun b hb o e => ?_) x2 ?_ fun s2 mv2 x4 => ?_⟩
    · rw [sb.2 b (fun z : b = d => nd (by rw [← z]; exact hb))]; exact e
    · intro i' hi'
      obtain ⟨o, m, e, r⟩ := tw1 i' hi'
      exact ⟨o, m, by rw [sb.2 _ (fun z : tup i' = d => nt i' hi' (by rw [z]; exact List.mem_cons_self))]; exact e, r⟩
    · refine fin s2 (Moved.trans W.gtrans ((mv.mono sub).then_heap (Nat.le_succ _) fun b o hb e => ?_) mv2) x4
      rw [sb.2 b (fun z : b = d => hb (by rw [z]; exact List.mem_cons_self))]; exact e
end
section
variable {prog : Program} {w : World} {A : Around} {E : Value → Shared → Prop} {s : Shared} {κ : Type} [DecidableEq κ] {knd : KeyKind prog w κ}
theorem dict_fromL {l : Addr} {its : Array Value} {nl : Nat} {sl : Array (Option Value)} {tup : Nat → Addr} {key : Nat → κ} {kv vv : Nat → Value} {Q : Value → Shared → Prop} (hA : A.handled = none) (hl : s.heap.get? l = some { cls := .type "list", dict := none, data := .seq its nl, slots := sl })
    (hv : ∀ (i : Nat) (v : Value), its[i]? = some v → v = .ref (tup i)) (hk : ∀ i, i < its.size → knd.is (key i) (kv i) = true) (tw : ∀ i, i < its.size → Two s.heap (tup i) (kv i) (vv i)) (hn : its.size ≤ sizeLine)
    (fin : ∀ (h' : Heap) (tk : Nat), h'.DictOf knd s.heap.objs.size (qds key vv its.size) → (∀ b o, b < s.heap.objs.size → s.heap.get? b = some o → h'.get? b = some o) → Q (.ref s.heap.objs.size) { s with heap := h', toks := tk }) :
    wpAny (model prog w) A (call (.type "dict") [.ref l]) Q E s := by
  refine callType_codes (Q₁ := fun obj s₁ => obj = .ref s.heap.objs.size ∧ s₁ = { s with heap := s.heap.push { cls := .type "dict", data := .dict #[] } }) F.kt_called_dict (F.kt_typeCall_dict_1 _) F.entry_dict_init (kt_code_dict_new _ ⟨rfl, rfl⟩) ?_
  rintro obj s₁ ⟨rfl, rfl⟩
  have hnew : (s.heap.push { cls := .type "dict", data := .dict #[] }).DictOf knd s.heap.objs.size [] := Heap.DictOf.new s.heap
  have hl1 : (s.heap.push { cls := .type "dict", data := .dict #[] }).get? l = some { cls := .type "list", dict := none, data := .seq its nl, slots := sl } := Heap.get?_push_of_some _ hl
  refine ⟨hnew.typeIs, F.args_dict_init_2 _ _, ?_⟩
  unfold Builtin.«dict.__init__»
  refine wpAny_bind ?_
  unfold Builtin.Dict.selfAndRest
  refine wpAny_bind (wpAny_notOrdered_dict hnew.typeIs ?_)
  show wpAny _ _ (pure (s.heap.objs.size, [Value.ref l])) _ _ _
  refine wpAny_pure ?_
  show wpAny _ _ (Builtin.Dict.updateFrom "dict.__init__" s.heap.objs.size (.ref l) [] .none) _ _ _
  unfold Builtin.Dict.updateFrom
  refine wpAny_bind (wpAny_typeOf (T := "list") ⟨_, hl1, rfl⟩ ?_)
  rw [if_pos (by decide)]
  refine wpAny_bind (no_keys (by simp [hA]) hl1 fun h1 tk1 kp => ?_)
  rw [if_pos (show (none : Option Value).isNone = true from rfl)]
  have il : h1.IsList l its := ⟨_, kp _ _ hl1, rfl, nl, rfl⟩
  have nd1 : h1.DictOf knd s.heap.objs.size [] := hnew.keep kp
  have d1 : s.heap.objs.size < h1.objs.size := Heap.lt_size (kp _ _ (Heap.get?_push_size _ rfl))
  have l0 : l < s.heap.objs.size := Heap.lt_size hl
  dsimp only
  generalize ePI : pyIter = PI
  refine wpAny_bind ?_
  wp_step
  subst ePI
  refine wpAny_bind (wpAny_pyIter_list il ?_)
  have hl2 : h1.get? l = some { cls := .type "list", dict := none, data := .seq its nl, slots := sl } := kp _ _ hl1
  have nI : l ≠ h1.objs.size := Nat.ne_of_lt (Heap.lt_size hl2)
  have h2 : A.in1.in1.handled = none := by simp [hA]
  have nS : s.heap.objs.size ∉ [h1.objs.size, l] := by
    intro z
    rcases List.mem_cons.mp z with z | z
    · exact absurd z (Nat.ne_of_lt d1)
    · rcases List.mem_cons.mp z with z | z
      · exact absurd z.symm (Nat.ne_of_lt l0)
      · cases z
  have tl : ∀ i, i < its.size → tup i < s.heap.objs.size := fun i hi => by
    obtain ⟨o, m, e, _⟩ := tw i hi
    exact Heap.lt_size e
  refine wpAny_pure ⟨plainId_quiet plain_dict_loop _, ?_⟩
  refine dict_loop (knd := knd) (A := A.in1) ((Walks.list h2 _ l nI its).toS) s.heap.objs.size nS tup key kv vv hv hk ?nt hn (its.size - 0) 0 0 _ rfl (Nat.zero_le _) ⟨⟨_, Heap.get?_push_size _ rfl, rfl, rfl⟩, (il.push _)⟩ (nd1.push _) ?tw ?fin
  case nt =>
    intro i hi z
    have := tl i hi
    rcases List.mem_cons.mp z with z | z
    · exact absurd z (Nat.ne_of_lt this)
    · have z' : tup i = h1.objs.size := by simpa using z
      exact absurd z' (Nat.ne_of_lt (Nat.lt_trans this d1))
  case tw =>
    intro i hi
    obtain ⟨o, m, e, r⟩ := tw i hi
    exact ⟨o, m, Heap.get?_push_of_some _ (kp _ _ (Heap.get?_push_of_some _ e)), r⟩
  case fin =>
    intro s' mv x
    obtain ⟨h', g', d', tk', os'⟩ := s'
    obtain rfl : g' = s.gens := mv.gens
    obtain rfl : d' = s.drawn := mv.drawn
    obtain rfl : os' = s.os := mv.os
    refine ⟨rfl, fin h' tk' x fun b o hb e => ?_⟩
    refine mv.heap b o (fun z => ?_) (Heap.get?_push_of_some _ (kp _ _ (Heap.get?_push_of_some _ e)))
    rcases List.mem_cons.mp z with z | z
    · exact absurd z (Nat.ne_of_lt hb)
    · have z' : b = h1.objs.size := by simpa using z
      omega
end
theorem qeR {α β : Type} {F : α → β → Prop} {l1 : List α} {l2 : List β} (h : Paired F l1 l2) {i : Nat} {a : α} {b : β} (e : l1[i]? = some a) (e' : l2[i]? = some b) : F a b := by
  induction h generalizing i with
  | nil => cases e
  | cons q _ ih =>
    cases i with
    | zero => cases e; cases e'; exact q
    | succ i => exact ih e e'
def qcf (kvs : List (Key × V)) : List (Key × V) := kvs.foldl (fun acc kv => putK acc kv.1 kv.2) []
theorem qcz {kvs : List (Key × V)} {i : Nat} {p : Key × V} (e : kvs[i]? = some p) : qcf (kvs.take (i + 1)) = putK (qcf (kvs.take i)) p.1 p.2 := by
  unfold qcf
  rw [List.take_succ, e, List.foldl_append]
  rfl
theorem putsK_new {kvs : List (Key × V)} (h : (kvs.map Prod.fst).Nodup) : qcf kvs = kvs := by
  have all : ∀ i, i ≤ kvs.length → qcf (kvs.take i) = kvs.take i := by
    intro i
    induction i with
    | zero => intro _; rfl
    | succ i ih =>
      intro hi
      have e : kvs[i]? = some kvs[i] := List.getElem?_eq_getElem hi
      rw [qcz e, ih (by omega), List.take_succ, e]
      refine putK_new _ ?_
      cases ev : valV (kvs.take i) kvs[i].1 with
      | none => rfl
      | some v =>
        exfalso
        unfold valV at ev
        obtain ⟨q, eq, _⟩ := Option.map_eq_some_iff.mp ev
        have q1 := List.find?_some eq
        have q2 := List.mem_of_find?_eq_some eq
        obtain ⟨j, hj, ej⟩ := List.getElem_of_mem q2
        have jl : j < i := by rw [List.length_take] at hj; omega
        rw [List.getElem_take] at ej
        have n1 := (List.pairwise_iff_getElem.mp h) j i (by rw [List.length_map]; omega) (by rw [List.length_map]; exact hi) jl
        refine n1 ?_
        rw [List.getElem_map, List.getElem_map, ej]
        simpa using q1
  have := all kvs.length (Nat.le_refl _)
  rwa [List.take_length] at this
section
variable {X : Cx}
theorem qbW (hc : X.calm = true) : qbU X (.type "dict") (fun xs H Q => ∃ (p : Addr) (as : List Addr) (kvs : List (Key × V)), xs = [.ref p] ∧ SqL X.K H p (as.map V.ref) ∧ Paired (fun (a : Addr) (kv : Key × V) => SqT X.K H a [kV kv.1, kv.2]) as kvs ∧
    ∀ d, H d = none → Q (.ref d) (upd H d (.dK (qcf kvs)))) := by
  intro pins s σ H xs us Q I r h
  obtain ⟨p, as, kvs, rfl, hp, pr, q⟩ := h
  obtain ⟨u, rfl, rx⟩ := qcv r
  cases rx
  obtain ⟨its, rv, pl, hz⟩ := I.list hp
  have hh := I.ok.hd hc
  have la : as.length = kvs.length := Paired.length pr
  have li : its.toArray.size = kvs.length := by rw [List.size_toArray, ← rv.length, List.length_map, la]
  rw [List.length_map, la] at hz
  have sk : ∀ i : Nat, ∃ u : Value × Value, ∀ (a : Addr) (kv : Key × V), as[i]? = some a → kvs[i]? = some kv → Two s.heap a u.1 u.2 ∧ RelV (kV kv.1) u.1 ∧ RelV kv.2 u.2 := by
    intro i
    by_cases hi : i < kvs.length
    · have ek : kvs[i]? = some kvs[i] := List.getElem?_eq_getElem hi
      have ea : as[i]? = some as[i] := List.getElem?_eq_getElem (by omega)
      obtain ⟨vs, rt, ⟨o, eo, hc', m, hd'⟩, _⟩ := I.tuple (qeR pr ea ek)
      cases rt with
      | cons r1 rt =>
        cases rt with
        | cons r2 rt =>
          cases rt
          exact ⟨(_, _), fun a kv e e' => by
            rw [ea] at e
            rw [ek] at e'
            cases e
            cases e'
            exact ⟨⟨o, m, eo, hc', hd'⟩, r1, r2⟩⟩
    · exact ⟨(.none, .none), fun a kv _ e => by rw [List.getElem?_eq_none (by omega)] at e; cases e⟩
  obtain ⟨f, hf⟩ := Classical.skolem.mp sk
  have kat : ∀ i, i < kvs.length → kvs[i]? = some ((kvs[i]?).getD (.inl 0, .int 0)) := fun i hi => by rw [List.getElem?_eq_getElem hi]; rfl
  have aat : ∀ i, i < kvs.length → as[i]? = some ((as[i]?).getD 0) := fun i hi => by rw [List.getElem?_eq_getElem (by omega : i < as.length)]; rfl
  have rel : ∀ i, i ≤ kvs.length → KV (qcf (kvs.take i)) (qds (fun i => ((kvs[i]?).getD (.inl 0, .int 0)).1) (fun i => (f i).2) i) := by
    intro i
    induction i with
    | zero => intro _; exact .nil
    | succ i ih =>
      intro hi
      have e := kat i hi
      rw [qcz e]
      exact (ih (by omega)).put _ (hf i _ _ (aat i hi) e).2.2
  have rl := rel kvs.length (Nat.le_refl _)
  rw [List.take_length] at rl
  have ll : (qcf kvs).length ≤ sizeLine := by
    rw [rl.length]
    exact Nat.le_trans (qcQ _ _ _) hz
  obtain ⟨o, n, eo, oc, od, oda⟩ := pl
  obtain ⟨z1, z2, z3, z4⟩ := o
  simp only at oc od oda
  subst oc od oda
  refine dict_fromL (knd := qaT X.prog X.w) (tup := fun i => (as[i]?).getD 0) (key := fun i => ((kvs[i]?).getD (.inl 0, .int 0)).1) (kv := fun i => (f i).1) (vv := fun i => (f i).2) hh eo ?_ ?_ ?_ (by rw [li]; exact hz) ?_
  · intro i v ev
    have hi : i < kvs.length := by
      rw [← li]
      exact (Array.getElem?_eq_some_iff.mp ev).1
    have ev' : its[i]? = some v := by simpa using ev
    have : RelV (.ref ((as[i]?).getD 0)) v := qeR rv (by rw [List.getElem?_map, aat i hi]; rfl) ev'
    exact this
  · intro i hi
    rw [li] at hi
    exact qeD (hf i _ _ (aat i hi) (kat i hi)).2.1
  · intro i hi
    rw [li] at hi
    exact (hf i _ _ (aat i hi) (kat i hi)).1
  · intro h' tk dd kp
    rw [li] at dd
    exact ⟨.ref s.heap.objs.size, _, I.laid (a := s.heap.objs.size) (o := .dK (qcf kvs)) (t' := tk) (fun b o z => kp b o (Heap.lt_size z) z) (Nat.le_refl _) (dk_new ll (beq_eq_false_iff_ne.mpr (Ne.symm (Nat.ne_of_lt I.big))) rl dd), rfl, q _ (I.hok.fresh (Nat.le_refl _))⟩
end
end L2
namespace L2
open PySem PySem.Spec
end L2
namespace L2
open PySem PySem.Spec
theorem b_dict : bootBuiltins "dict" = some (.type "dict") := by decide +kernel
def qew (K : PySem.W.Frag) : List V → Hp → VK → Prop := fun xs H Q => ∃ (p : Addr) (as : List Addr) (kvs : List (Key × V)), xs = [.ref p] ∧ SqL K H p (as.map V.ref) ∧ Paired (fun (a : Addr) (kv : Key × V) => SqT K H a [kV kv.1, kv.2]) as kvs ∧ ∀ d, H d = none → Q (.ref d) (upd H d (.dK (qcf kvs)))
theorem qce {X : Cx} (K : PySem.W.Frag) (hK : X.K = K) (hc : X.calm = true) : qbU X (.type "dict") (qew K) := by
  subst hK
  exact qbW hc
end L2
namespace Fc
open PySem L2 Bk Gen Gd Bd
structure BnD (mg : Str → Option Value) : Prop extends BnX mg where
  dict : mg "dict" = none
def OdAt (H : Hp) (a : Addr) (p : Str × Int) : Prop := H a = some (.tup [.str p.1, .int p.2])
theorem OdAt.same {H H' : Hp} {a : Addr} {p : Str × Int} (s : Same H H') (h : OdAt H a p) : OdAt H' a p := s _ _ h
def oddK (odd : List (Str × Int)) : List (Key × V) := odd.map fun p => (.inr p.1, V.int p.2)
theorem qb2 {odd : List (Str × Int)} (h : (odd.map Prod.fst).Nodup) : qcf (oddK odd) = oddK odd := by
  refine putsK_new ?_
  have e : (oddK odd).map Prod.fst = (odd.map Prod.fst).map (Sum.inr : Str → Key) := by
    unfold oddK
    rw [List.map_map, List.map_map]
    rfl
  rw [e]
  exact List.Pairwise.map _ (fun a b n z => n (Sum.inr.inj z)) h
theorem qcU (c : Str) : ∀ odd : List (Str × Int), valV (oddK odd) (.inr c) = ((odd.find? fun p => decide (p.1 = c)).map Prod.snd).map V.int
  | [] => rfl
  | p :: r => by
    by_cases e : p.1 = c
    · rw [show oddK (p :: r) = (Sum.inr p.1, V.int p.2) :: oddK r from rfl, qb5 (by show (Sum.inr p.1 : Key) = _; rw [e]), List.find?_cons_of_pos (by simpa using e)]
      rfl
    · rw [show oddK (p :: r) = (Sum.inr p.1, V.int p.2) :: oddK r from rfl, qb3 (fun z => e (Sum.inr.inj z)), List.find?_cons_of_neg (by simpa using e), qcU c r]
theorem qdf {K : PySem.W.Frag} {H : Hp} : ∀ {as : List Addr} {odd : List (Str × Int)}, Paired (OdAt H) as odd → Paired (fun (a : Addr) (kv : Key × V) => SqT K H a [kV kv.1, kv.2]) as (oddK odd)
  | _, _, .nil => .nil
  | _, _, .cons q t => .cons (SqT.of q) (qdf t)
end Fc
namespace K14
open PySem L2 Bk Gen
def top (i : Nat) : Stmt := PySem.Challenge.pw_leafpress_k14_whole_winners_hold.main.body.getD i (.Pass ⟨0, 0, 0, 0⟩)
abbrev sStream : Stmt := top 31
abbrev sTake : Stmt := top 32
abbrev sWord : Stmt := top 33
abbrev sName : Stmt := top 34
abbrev sPieces : Stmt := top 35
abbrev sOwn : Stmt := top 36
abbrev sAdd : Stmt := top 37
abbrev sText : Stmt := top 38
abbrev sItem : Stmt := top 39
abbrev sBook : Stmt := top 40
section
variable {P : Program} {w : World} {K : PySem.W.Frag} {mg : Str → Option Value} {base : Heap}
theorem scStream : FnScope ["_law_script", "_law_k"] ["_law_script", "_law_k"] (qag sStream) := ⟨rfl, rfl, rfl, by decide +kernel, rfl, by decide +kernel, by decide +kernel⟩
theorem ok_stream {f : Addr} {fd : FuncData} (F : Fun K "_law_stream" "_law_stream" sStream f fd) (T : Bn mg) : FnOk P w K mg base CX0 1 f fd ["_law_script", "_law_k"] (qcV K) := by
  refine F.ok scStream (fun vs H Q E h => ?_) (fun cdv A outer s H vs Q E hr h => ?_)
  · obtain ⟨a, ns, k, rfl, _⟩ := h
    rfl
  · obtain ⟨a, ns, k, rfl, hS, k0, k1, q⟩ := h
    refine ⟨_, (qad (qaK (qal op_lt (pv 1) (qaB call_len_seq (by rfl) T.len b_len (qaa (pv 0) pa_nil)) (qas _)) (qaf (qau (qaA (qaa (qaj ix_list (pv 0) (pv 1) (fun _ _ => rfl)) (qaa (qaw op_add (qaw op_add (qaw op_mod (qaj ix_list (pv 0) (pv 1) (fun _ _ => rfl)) qae) (qaw op_mul (pv 1) (pv 1))) qae) pa_nil))))) pss_nil)
      (qaf (qau (qaA (qaa (qaw op_add (qaw op_mul (qaw op_mul (pv 1) (pv 1)) qae) qae) (qaa (qaw op_add (pv 1) qae) pa_nil)))))), ?_⟩
    try dsimp only [cxOf, Cx.nox]
    have kk : 0 ≤ k * k ∧ k * k ≤ 10000 := by
      have h1 := Int.mul_nonneg k0 k0
      have h2 : k * k ≤ 100 * 100 := Int.mul_le_mul k1 k1 k0 (by decide)
      omega
    refine ⟨_, rfl, _, rfl, a, _, rfl, .inl hS, _, _, rfl, rfl, _, rfl, ?_⟩
    refine ite2 (fun c => ?_) (fun c => ?_)
    · have c' : k < (((ns.map V.int).length : Nat) : Int) := of_decide_eq_true c
      rw [List.length_map] at c'
      obtain ⟨v, hv⟩ := int_at (ns := ns) k0 c'
      refine ⟨_, rfl, _, rfl, a, _, _, _, rfl, rfl, hS, hv, ?_⟩
      refine ⟨_, rfl, _, rfl, a, _, _, _, rfl, rfl, hS, hv, _, _, rfl, rfl, (by show (0 : Int) < 2147483629; decide), _, rfl, _, rfl, _, _, rfl, rfl, .inl ⟨by omega, by omega⟩, _, _, rfl, rfl, _, _, rfl, rfl, (by show 2 ≤ sizeLine; decide), fun l hl => ?_⟩
      have m1 := Int.emod_nonneg v (show (2147483629 : Int) ≠ 0 by decide)
      have m2 := Int.emod_lt_of_pos v (show (0 : Int) < 2147483629 by decide)
      exact q l _ hl ⟨v, _, qab, by omega, by omega⟩ (qac hl _)
    · refine ⟨_, rfl, _, rfl, _, _, rfl, rfl, .inl ⟨by omega, by omega⟩, _, _, rfl, rfl, .inl ⟨by omega, by omega⟩, _, _, rfl, rfl, _, rfl, _, _, rfl, rfl, (by show 2 ≤ sizeLine; decide), fun l hl => ?_⟩
      exact q l _ hl ⟨_, _, qab, by omega, by omega⟩ (qac hl _)
theorem scTake : FnScope ["_law_stream_here", "_law_most", "_law_digit"] ["_law_stream_here", "_law_most"] (qag sTake) := ⟨rfl, rfl, rfl, by decide +kernel, rfl, by decide +kernel, by decide +kernel⟩
theorem ok_take {f : Addr} {fd : FuncData} (F : Fun K "_law_take" "_law_take" sTake f fd) : FnOk P w K mg base CX0 1 f fd ["_law_stream_here", "_law_most"] spTake := by
  refine F.ok scTake (fun vs H Q E h => ?_) (fun cdv A outer s H vs Q E hr h => ?_)
  · obtain ⟨st, m, rfl, _⟩ := h
    rfl
  · obtain ⟨st, m, rfl, ⟨x, y, hst, y0, y1⟩, m0, m1, q0⟩ := h
    have q : ∀ r x' y' : Int, 0 ≤ r → r < m → 0 ≤ y' → y' < 4294967296 → Q (.int r) (upd H st (.lst [.int x', .int y'])) := fun r x' y' r0 r1 z0 z1 => q0 r _ r0 r1 ⟨x', y', qab, z0, z1⟩ fun b o n e => by rw [qai n]; exact e
    refine ⟨_, (qad (qaK (PW.pt (qcw (qal op_eq (qaj ix_list (pv 0) qae (fun _ _ => rfl)) qae (qas _)) (qbX (qal op_eq (qaj ix_list (pv 0) qae (fun _ _ => rfl)) (qcu un_neg qae) (qas _))))) (qad (qb8 (qaw op_mod (qaw op_add (qaw op_mul (qaj ix_list (pv 0) qae (fun _ _ => rfl)) qae) qae) qae) (qdJ (pv 0) qae set_list))
      (qaf (qau (qaw op_mod (qaw op_mod (qaw op_mul (qaj ix_list (pv 0) qae (fun _ _ => rfl)) (qaj ix_list (pv 0) qae (fun _ _ => rfl))) qae) (pv 1))))) pss_nil)
      (qad (qap (i := 2) scTake.nd (by rfl) (by trivial) (qaw op_mod (qaj ix_list (pv 0) qae (fun _ _ => rfl)) (pv 1)))
      (qad (qb8 (qaw op_fdivL (qaj ix_list (pv 0) qae (fun _ _ => rfl)) (pv 1)) (qdJ (pv 0) qae set_list))
      (qaf (qau (pv 2)))))), ?_⟩
    try dsimp only [cxOf, Cx.nox]
    have mm : ∀ v : Int, 0 ≤ v % m ∧ v % m < m := fun v => ⟨Int.emod_nonneg v (by omega), Int.emod_lt_of_pos v m0⟩
    have empty : ∀ Q' : VK, Q' = Q → tSeq (tAsg (tOp (rI (fun _ j => 0 < j) fun i j => .int (i % j)) (tOp (rI0 fun i j => .int (i + j)) (tOp (rI CMul fun i j => .int (i * j)) (tOp (rIxL K) (tVar 0) (tC (.int 1))) (tC (.int 48271))) (tC (.int 12345))) (tC (.int 2147483647))) (gSub (tVar 0) (tC (.int 1)) rSetL))
        (tRet (tOp (rI (fun _ j => 0 < j) fun i j => .int (i % j)) (tOp (rI (fun _ j => 0 < j) fun i j => .int (i % j)) (tOp (rI CMul fun i j => .int (i * j)) (tOp (rIxL K) (tVar 0) (tC (.int 1))) (tOp (rIxL K) (tVar 0) (tC (.int 1)))) (tC (.int 2147483629))) (tVar 1)))
        { nx := fun _ _ => False, rt := Q' } [some (.ref st), some (.int m), none] H := by
      rintro Q' rfl
      refine ⟨_, rfl, st, _, _, _, rfl, rfl, SqL.of hst, rfl, _, _, rfl, rfl, .inl ⟨by omega, by omega⟩, _, _, rfl, rfl, _, _, rfl, rfl, (by show (0 : Int) < 2147483647; decide), _, rfl, st, _, 1, 1, rfl, rfl, hst, rfl, ?_⟩
      have z0 := Int.emod_nonneg (y * 48271 + 12345) (show (2147483647 : Int) ≠ 0 by decide)
      have z1 := Int.emod_lt_of_pos (y * 48271 + 12345) (show (0 : Int) < 2147483647 by decide)
      have hst' : upd H st (.lst [.int x, .int ((y * 48271 + 12345) % 2147483647)]) st = some (.lst [.int x, .int ((y * 48271 + 12345) % 2147483647)]) := qab
      refine ⟨_, rfl, st, _, _, _, rfl, rfl, SqL.of hst', rfl, _, rfl, st, _, _, _, rfl, rfl, SqL.of hst', rfl, _, _, rfl, rfl, .inl (show -(2 ^ 64) < (y * 48271 + 12345) % 2147483647 ∧ (y * 48271 + 12345) % 2147483647 < 2 ^ 64 from ⟨by omega, by omega⟩), _, _, rfl, rfl, (by show (0 : Int) < 2147483629; decide), _, rfl, _, _, rfl, rfl, m0, ?_⟩
      exact q _ x _ (mm _).1 (mm _).2 z0 (by omega)
    refine ⟨_, rfl, st, _, _, _, rfl, rfl, SqL.of hst, rfl, rfl, _, rfl, ?_⟩
    by_cases x0 : x = 0
    · rw [decide_eq_true (show V.int x = V.int 0 by rw [x0])]
      refine iteT (iteT ?_)
      exact empty _ rfl
    · rw [decide_eq_false (show ¬ V.int x = V.int 0 from fun z => x0 (V.int.inj z))]
      refine iteF ⟨_, rfl, st, _, _, _, rfl, rfl, SqL.of hst, rfl, _, rfl, rfl, _, rfl, ?_⟩
      by_cases x1 : x = -1
      · rw [decide_eq_true (show V.int x = V.int (-1) by rw [x1])]
        refine iteT ?_
        exact empty _ rfl
      · rw [decide_eq_false (show ¬ V.int x = V.int (-1) from fun z => x1 (V.int.inj z))]
        refine iteF ?_
        refine ⟨_, rfl, st, _, _, _, rfl, rfl, SqL.of hst, rfl, _, rfl, _, _, rfl, rfl, m0, ?_⟩
        refine ⟨_, rfl, st, _, _, _, rfl, rfl, SqL.of hst, rfl, _, rfl, _, _, rfl, rfl, ⟨m0, by omega⟩, _, rfl, st, _, 0, 0, rfl, rfl, hst, rfl, ?_⟩
        refine ⟨_, rfl, ?_⟩
        exact q _ (x / m) y (mm x).1 (mm x).2 y0 y1
end
end K14
namespace K14
open PySem L2 Bk Gen Gd Bd Fc
abbrev sWinnerOf : Stmt := top 22
def lamOf : Stmt → Option (Arguments × Expr × Scope × Pos)
  | .FunctionDef _ _ b _ _ _ _ _ _ _ => match b.getLast? with
    | some (.Return (some (.Call _ _ (⟨_, .Lambda a e s p, _⟩ :: _) _)) _) => some (a, e, s, p)
    | _ => none
  | _ => none
def lam : Arguments × Expr × Scope × Pos := (lamOf sWinnerOf).getD (⟨[], [], none, [], [], none, []⟩, .Constant .none 0 ⟨0, 0, 0, 0⟩, default, ⟨0, 0, 0, 0⟩)
theorem lo_lam : LamOk lam.2.2.1 lam.2.1 "precedence" "rules" "number" := ⟨by decide +kernel, by decide +kernel, by decide +kernel, by decide +kernel, by decide +kernel, by decide +kernel, by decide +kernel, ⟨_, _, _, _, rfl⟩, by decide, by decide, by decide, by decide⟩
theorem lam_names : lam.2.2.1.names = [(Str.ofString "number", .local), (Str.ofString "rules", .free), (Str.ofString "precedence", .globalImplicit)] := by decide +kernel
theorem hclos {env : Env} {cc : Addr} (e : env.cells.lookup (Str.ofString "rules") = some cc) : closureFor lam.2.2.1 env = pure [(Str.ofString "rules", cc)] := by
  unfold closureFor
  rw [lam_names]
  simp [cellOf, e]
section
variable {P : Program} {w : World} {K : PySem.W.Frag} {mg : Str → Option Value} {base : Heap}
theorem scWinner : FnScope ["rules", "fitting", "word", "setting"] ["rules", "fitting", "word"] (qag sWinnerOf) := ⟨rfl, rfl, rfl, by decide +kernel, rfl, by decide +kernel, by decide +kernel⟩
end
end K14
namespace K14
open PySem L2 Bk Gen Gd Bd Fc
abbrev sCond : Stmt := top 15
abbrev sPrec : Stmt := top 23
def said (x : Rl) : List Str := [x.k, x.wi, x.mrk]
def qaQ (l : List Str) : List Str := l.filter fun y => decide (y ≠ noName)
def qbb (x : Rl) : Int := (qaQ (said x)).length
def spCond : Sp := fun vs H Q _ => ∃ (r : Addr) (x : Rl), vs = [.ref r] ∧ RlAt (fun _ => True) H r x ∧ ∀ H', Same H H' → Q (.int (qbb x)) H'
def qbp (H : Hp) (R : Addr) (rl : List Rl) : Prop := ∃ rs : List Addr, H R = some (.lst (rs.map V.ref)) ∧ Paired (RlAt (fun _ => True) H) rs rl
def spPrec : Sp := fun vs H Q _ => ∃ (R : Addr) (n : Nat) (x : Rl) (rl : List Rl), vs = [.ref R, .int n] ∧ qbp H R rl ∧ rl[n]? = some x ∧ ∀ (t : Addr) (H' : Hp), Same H H' → H t = none → H' t = some (.tup ([x.rank, qbb x, (n : Int)].map V.int)) → Q (.ref t) H'
section
variable {P : Program} {w : World} {K : PySem.W.Frag} {mg : Str → Option Value} {base : Heap}
theorem scCond : FnScope ["rule"] ["rule"] (qag sCond) := ⟨rfl, rfl, rfl, by decide +kernel, rfl, by decide +kernel, by decide +kernel⟩
theorem ok_cond {f : Addr} {fd : FuncData} (F : Fun K "count_conditions" "count_conditions" sCond f fd) (T : BnD mg) (t1 : ∃ t, mg "OF_KIND" = some (.int 1 t)) (t2 : ∃ t, mg "WITHIN" = some (.int 2 t)) (t3 : ∃ t, mg "MARK" = some (.int 3 t)) : FnOk P w K mg base CX0 1 f fd ["rule"] spCond := by
  refine F.ok scCond (fun vs H Q E h => ?_) (fun cdv A outer s H vs Q E hr h => ?_)
  · obtain ⟨r, x, rfl, _⟩ := h
    rfl
  · obtain ⟨r, x, rfl, ⟨_, sa, sv, hr', _, hs, pr⟩, q⟩ := h
    obtain ⟨_, g_OF_KIND⟩ := t1
    obtain ⟨_, g_WITHIN⟩ := t2
    obtain ⟨_, g_MARK⟩ := t3
    refine ⟨_, (qaf (qau (qaB call_len_seq (by rfl) T.len b_len (qaa (qa0 (own := ["told"]) (by rfl) (CompScope.plain (by rfl) (by decide +kernel) (by decide +kernel) (by decide +kernel)) (qeg (qaC (qaa (qaj ix_tup (pv 0) (qax (v := .int 1) (by rfl) g_OF_KIND ⟨_, rfl⟩) (fun _ _ => rfl)) (qaa (qaj ix_tup (pv 0) (qax (v := .int 2) (by rfl) g_WITHIN ⟨_, rfl⟩) (fun _ _ => rfl)) (qaa (qaj ix_tup (pv 0) (qax (v := .int 3) (by rfl) g_MARK ⟨_, rfl⟩) (fun _ _ => rfl)) pa_nil))))) (fun cl C s2 H2 fp => (qan (i := 0) (by show (["told"] : List Str).Nodup; decide +kernel) (by rfl) (by trivial) (by trivial))) (fun cl C s2 H2 fp => (qbw (qal op_ne (pv 0) qam (qas _)))) (fun cl C s2 H2 fp => (pv 0))) pa_nil)))), ?_⟩
    try dsimp only [cxOf, Cx.nox]
    refine ⟨_, rfl, r, _, _, _, rfl, rfl, SqT.of hr', rfl, _, rfl, r, _, _, _, rfl, rfl, SqT.of hr', rfl, _, rfl, r, _, _, _, rfl, rfl, SqT.of hr', rfl, by show 3 ≤ sizeLine; decide, fun t ht => ?_⟩
    have s1 := qac ht (.tup [.str x.k, .str x.wi, .str x.mrk])
    have hT : upd H t (.tup [.str x.k, .str x.wi, .str x.mrk]) t = some (.tup ((said x).map V.str)) := qab
    generalize upd H t (.tup [.str x.k, .str x.wi, .str x.mrk]) = H1 at s1 hT ⊢
    refine ⟨t, rfl, ⟨_, SqT.of hT⟩, qdD (xs := (said x).map V.str) (fun i ys σ' H' => H' = H1 ∧ ys = (qaQ ((said x).take i)).map V.str ∧ ∃ z, σ' = [z]) (by show 3 < sizeLine; decide) ⟨rfl, rfl, none, rfl⟩ ?_ ?_ ?_⟩
    · rintro i ys σ' H' hi ⟨rfl, rfl, _⟩
      refine ⟨SqT.of hT, ?_⟩
      rw [List.length_map]
      refine Nat.le_trans (List.length_filter_le _ _) ?_
      rw [List.length_take]
      exact Nat.min_le_left _ _
    · rintro i y ys σ' H' hy ⟨rfl, rfl, z, rfl⟩
      rw [List.getElem?_map] at hy
      obtain ⟨u, eu, rfl⟩ := Option.map_eq_some_iff.mp hy
      refine ⟨_, rfl, rfl, _, rfl, ?_⟩
      have tk : (said x).take (i + 1) = (said x).take i ++ [u] := by rw [List.take_succ, eu]; rfl
      have fl : qaQ ((said x).take (i + 1)) = qaQ ((said x).take i) ++ qaQ [u] := by rw [tk]; exact List.filter_append ..
      by_cases hu : u = noName
      · have e1 : qaQ [u] = [] := by unfold qaQ; rw [hu]; rfl
        rw [decide_eq_true (show V.str u = V.str (Str.ofString "") by rw [hu]; rfl)]
        refine iteF ⟨rfl, ?_, _, rfl⟩
        rw [fl, e1, List.append_nil]
      · have e1 : qaQ [u] = [u] := by unfold qaQ; rw [List.filter_cons, if_pos (decide_eq_true hu)]; rfl
        rw [decide_eq_false (show ¬ V.str u = V.str (Str.ofString "") from fun z => hu (V.str.inj z))]
        refine iteT ⟨_, rfl, rfl, ?_, _, rfl⟩
        rw [fl, e1, List.map_append]
        rfl
    · rintro ys σ' H' ⟨rfl, rfl, _⟩ D hD
      have sD := qac hD (.lst ((qaQ ((said x).take ((said x).map V.str).length)).map V.str))
      refine ⟨D, _, rfl, .inl (SqL.of qab), ?_⟩
      have e := q _ (s1.trans sD)
      rw [List.length_map]
      exact e
theorem scPrec : FnScope ["rules", "number"] ["rules", "number"] (qag sPrec) := ⟨rfl, rfl, rfl, by decide +kernel, rfl, by decide +kernel, by decide +kernel⟩
theorem ok_prec {f : Addr} {fd : FuncData} (F : Fun K "precedence" "precedence" sPrec f fd) (tR : ∃ t, mg "RANK" = some (.int 0 t)) (F_count_conditions : Fx P w K mg base CX0 1 "count_conditions" ["rule"] spCond) : FnOk P w K mg base CX0 2 f fd ["rules", "number"] spPrec := by
  refine F.ok scPrec (fun vs H Q E h => ?_) (fun cdv A outer s H vs Q E hr h => ?_)
  · obtain ⟨R, n, x, rl, rfl, _⟩ := h
    rfl
  · obtain ⟨R, n, x, rl, rfl, ⟨rs, hR, pr⟩, ex, q⟩ := h
    obtain ⟨_, g_RANK⟩ := tR
    have hr_count_conditions := hr
    refine ⟨_, (qaf (qau (qaC (qaa (qaj ix_tup (qaj ix_list (pv 0) (pv 1) (fun _ _ => rfl)) (qax (v := .int 0) (by rfl) g_RANK ⟨_, rfl⟩) (fun _ _ => rfl)) (qaa (qar F_count_conditions hr_count_conditions (by rfl) qaq (qaa (qaj ix_list (pv 0) (pv 1) (fun _ _ => rfl)) pa_nil)) (qaa (pv 1) pa_nil)))))), ?_⟩
    try dsimp only [cxOf, Cx.nox]
    obtain ⟨r, er, rx⟩ := pget pr ex
    obtain ⟨_, sa, sv, hr', _⟩ := id rx
    refine ⟨_, rfl, _, rfl, R, _, _, _, rfl, rfl, SqL.of hR, qaz er, r, _, _, _, rfl, rfl, SqT.of hr', rfl, ?_⟩
    refine ⟨_, rfl, _, rfl, R, _, _, _, rfl, rfl, SqL.of hR, qaz er, r, x, rfl, rx, fun H1 s1 => ?_⟩
    refine ⟨_, rfl, by show 3 ≤ sizeLine; decide, fun t ht => ?_⟩
    exact q t _ (s1.trans (qac ht _)) (s1.free ht) qab
end
end K14
namespace K14
open PySem L2 Bk Gen
section
variable {P : Program} {w : World} {K : PySem.W.Frag} {mg : Str → Option Value} {base : Heap}
theorem scWord : FnScope ["_law_stream_here", "_law_most", "_law_signs", "_law_word_here", "_law_k"] ["_law_stream_here", "_law_most"] (qag sWord) := ⟨rfl, rfl, rfl, by decide +kernel, rfl, by decide +kernel, by decide +kernel⟩
theorem ok_word {f : Addr} {fd : FuncData} (F : Fun K "_law_word" "_law_word" sWord f fd) (T : Bn mg) (F_take : Fx P w K mg base CX0 1 "_law_take" ["_law_stream_here", "_law_most"] spTake) : FnOk P w K mg base CX0 2 f fd ["_law_stream_here", "_law_most"] spWord := by
  refine F.ok scWord (fun vs H Q E h => ?_) (fun cdv A outer s H vs Q E hr h => ?_)
  · obtain ⟨st, m, rfl, _⟩ := h
    rfl
  · obtain ⟨st, m, rfl, S, m1, m2, q⟩ := h
    have hr_take := hr
    refine ⟨_, (qad (qap (i := 2) scWord.nd (by rfl) (by trivial) qam)
      (qad (qap (i := 3) scWord.nd (by rfl) (by trivial) qam)
      (qad (qa4 PassesOwn.never (by rfl) (qaD (by rfl) T.range (qaa (qaw op_add qae (qar F_take hr_take (by rfl) qaq (qaa (pv 0) (qaa (pv 1) pa_nil)))) pa_nil)) (qan (i := 4) scWord.nd (by rfl) (by trivial))
      (qaf (qap (i := 3) scWord.nd (by rfl) (by trivial) (qaw op_add_str (pv 3) (qaj ix_str (pv 2) (qar F_take hr_take (by rfl) qaq (qaa (pv 0) (qaa qae pa_nil))) (fun _ _ => rfl))))))
      (qaf (qau (pv 3)))))), ?_⟩
    try dsimp only [cxOf, Cx.nox]
    refine ⟨_, rfl, _, rfl, st, m, rfl, S, by omega, by omega, fun r H1 r0 r1 S1 K1 => ⟨_, _, rfl, rfl, _, rfl, by omega, by omega, qaI (fun i σ H2 => ∃ (x : Str) (v : Option V), σ = [some (.ref st), some (.int m), some (.str signs), some (.str x), v] ∧ x.length = i ∧ (∀ c ∈ x.cps.toList, c ∈ wordSigns) ∧ StOk H2 st ∧ Keep1 st H H2)
      ⟨noName, none, rfl, rfl, (fun c hc => by rw [noName_nil] at hc; cases hc), S1, K1⟩ ?_ ?_⟩⟩
    · rintro i σ H2 hi ⟨x, v, rfl, lx, cx, S2, K2⟩
      refine ⟨_, rfl, _, rfl, _, rfl, st, 72, rfl, S2, by decide, by decide, fun r2 H3 r20 r21 S3 K3 => ?_⟩
      obtain ⟨c, ec, ic⟩ := signs_at r20 r21
      refine ⟨_, _, _, rfl, rfl, signs_le, ec, _, _, rfl, rfl, ?_, ?_⟩
      · show x.length + 1 ≤ sizeLine
        exact Nat.le_of_lt (qak (by omega))
      exact ⟨x ++ sg c, _, rfl, by rw [qc6, lx]; rfl, qeh cx ic, S3, K2.trans K3⟩
    · rintro σ H2 ⟨x, v, rfl, lx, cx, S2, K2⟩
      refine ⟨_, rfl, ?_⟩
      exact q x H2 ⟨by omega, by omega, cx⟩ (by omega) S2 K2
theorem scName : FnScope ["_law_stream_here", "_law_many", "_law_letters", "_law_size", "_law_name_here", "_law_k"] ["_law_stream_here", "_law_many"] (qag sName) := ⟨rfl, rfl, rfl, by decide +kernel, rfl, by decide +kernel, by decide +kernel⟩
theorem ok_name {f : Addr} {fd : FuncData} (F : Fun K "_law_name" "_law_name" sName f fd) (T : Bn mg) (F_take : Fx P w K mg base CX0 1 "_law_take" ["_law_stream_here", "_law_most"] spTake) : FnOk P w K mg base CX0 2 f fd ["_law_stream_here", "_law_many"] spName := by
  refine F.ok scName (fun vs H Q E h => ?_) (fun cdv A outer s H vs Q E hr h => ?_)
  · obtain ⟨st, n, rfl, _⟩ := h
    rfl
  · obtain ⟨st, n, rfl, S, n0, n1, q⟩ := h
    have hr_take := hr
    refine ⟨_, (qad (qap (i := 2) scName.nd (by rfl) (by trivial) qam)
      (qad (qap (i := 3) scName.nd (by rfl) (by trivial) (qaw op_add qae (qar F_take hr_take (by rfl) qaq (qaa (pv 0) (qaa qae pa_nil)))))
      (qad (qap (i := 4) scName.nd (by rfl) (by trivial) (qaw op_add_str (qaj ix_str (pv 2) (qaw op_mod (pv 1) qae) (fun _ _ => rfl)) (qaj ix_str (pv 2) (qaw op_mod (qaw op_add (qaw op_fdiv (pv 1) qae) (qar F_take hr_take (by rfl) qaq (qaa (pv 0) (qaa qae pa_nil)))) qae) (fun _ _ => rfl))))
      (qad (qa4 PassesOwn.never (by rfl) (qaD (by rfl) T.range (qaa (pv 3) pa_nil)) (qan (i := 5) scName.nd (by rfl) (by trivial))
      (qaf (qap (i := 4) scName.nd (by rfl) (by trivial) (qaw op_add_str (qaw op_add_str (qaR sl_str (pv 4) po_none (qaW (qaw op_mod (pv 5) qae))) (qaj ix_str (pv 2) (qar F_take hr_take (by rfl) qaq (qaa (pv 0) (qaa qae pa_nil))) (fun _ _ => rfl))) (qaR sl_str (pv 4) (qaW (qaw op_mod (pv 5) qae)) po_none)))))
      (qaf (qau (pv 4))))))), ?_⟩
    try dsimp only [cxOf, Cx.nox]
    refine ⟨_, rfl, st, 6, rfl, S, by decide, by decide, fun r H1 r0 r1 S1 K1 => ⟨_, _, rfl, rfl, ?_⟩⟩
    have m0 := Int.emod_nonneg n (show (26 : Int) ≠ 0 by decide)
    have m1 := Int.emod_lt_of_pos n (show (0 : Int) < 26 by decide)
    obtain ⟨c, ec, ic⟩ := qcP m0 m1
    refine ⟨_, rfl, _, rfl, _, _, rfl, rfl, (by show (0 : Int) < 26; decide), _, _, _, rfl, rfl, small_le, ec, ?_⟩
    refine ⟨_, rfl, _, rfl, _, _, rfl, rfl, ⟨by decide, by decide⟩, _, rfl, st, 3, rfl, S1, by decide, by decide, fun r2 H2 r20 r21 S2 K2 => ⟨_, _, rfl, rfl, _, _, rfl, rfl, (by show (0 : Int) < 26; decide), ?_⟩⟩
    have k0 := Int.emod_nonneg (n / 26 + r2) (show (26 : Int) ≠ 0 by decide)
    have k1 := Int.emod_lt_of_pos (n / 26 + r2) (show (0 : Int) < 26 by decide)
    obtain ⟨d, ed, id'⟩ := qcP k0 k1
    refine ⟨_, _, _, rfl, rfl, small_le, ed, _, _, rfl, rfl, by show 1 + 1 ≤ sizeLine; decide, ?_⟩
    refine ⟨_, rfl, _, rfl, by omega, by omega, qaI (fun i σ H3 => ∃ (x : Str) (v : Option V), σ = [some (.ref st), some (.int n), some (.str small), some (.int (1 + r)), some (.str x), v] ∧ x.length = i + 2 ∧ (∀ c ∈ x.cps.toList, qdz c) ∧ StOk H3 st ∧ Keep1 st H H3)
      ⟨sg c ++ sg d, none, rfl, rfl, qeh (qd3 ic) id', S2, K1.trans K2⟩ ?_ ?_⟩
    · rintro i σ H3 hi ⟨x, v, rfl, lx, cx, S3, K3⟩
      have j0 := Int.emod_nonneg (0 + (i : Int)) (show (2 : Int) ≠ 0 by decide)
      have j1 := Int.emod_lt_of_pos (0 + (i : Int)) (show (0 : Int) < 2 by decide)
      have xl : x.length ≤ sizeLine := Nat.le_of_lt (qak (by omega))
      refine ⟨_, rfl, _, rfl, _, _, rfl, rfl, (by show (0 : Int) < 2; decide), _, rfl, _, rfl, xl, ?_⟩
      refine ⟨_, rfl, _, rfl, st, 26, rfl, S3, by decide, by decide, fun r3 H4 r30 r31 S4 K4 => ?_⟩
      obtain ⟨e, ee, ie⟩ := qcP r30 r31
      refine ⟨_, _, _, rfl, rfl, small_le, ee, ?_⟩
      rw [slice_to j0 (by omega)]
      have a1 : (⟨(x.cps.toList.take ((0 + (i : Int)) % 2).toNat).toArray⟩ : Str).length = ((0 + (i : Int)) % 2).toNat := by
        show (List.toArray _).size = _
        rw [List.size_toArray, List.length_take, Array.length_toList]
        show min _ x.length = _
        omega
      refine ⟨_, _, rfl, rfl, ?_, ?_⟩
      · rw [a1]
        show _ + 1 ≤ sizeLine
        exact Nat.le_of_lt (qak (by omega))
      refine ⟨_, rfl, _, rfl, _, _, rfl, rfl, (by show (0 : Int) < 2; decide), _, rfl, _, rfl, xl, ?_⟩
      rw [slice_from j0 (by omega)]
      have a2 : (⟨(x.cps.toList.drop ((0 + (i : Int)) % 2).toNat).toArray⟩ : Str).length = x.length - ((0 + (i : Int)) % 2).toNat := by
        show (List.toArray _).size = _
        rw [List.size_toArray, List.length_drop, Array.length_toList]
        rfl
      refine ⟨_, _, rfl, rfl, ?_, ?_⟩
      · rw [qc6, a1, a2]
        show _ + 1 + _ ≤ sizeLine
        exact Nat.le_of_lt (qak (by omega))
      refine ⟨_, _, rfl, ?_, ?_, S4, K3.trans K4⟩
      · rw [qc6, qc6, a1, a2]
        show _ + 1 + _ = _
        omega
      · refine qcY (qcY (fun c hc => cx c ?_) (qd3 ie)) fun c hc => cx c ?_
        · exact List.mem_of_mem_take (by simpa using hc)
        · exact List.mem_of_mem_drop (by simpa using hc)
    · rintro σ H3 ⟨x, v, rfl, lx, cx, S3, K3⟩
      refine ⟨_, rfl, ?_⟩
      exact q x H3 ⟨by omega, by omega, cx⟩ S3 K3
end
end K14
namespace K14
open PySem L2 Bk Gen
section
variable {P : Program} {w : World} {K : PySem.W.Frag} {mg : Str → Option Value} {base : Heap}
theorem scPieces : FnScope ["_law_stream_here", "_law_notes", "_law_names", "_law_pieces_here", "_law_done", "_law_k"] ["_law_stream_here", "_law_notes", "_law_names"] (qag sPieces) := ⟨rfl, rfl, rfl, by decide +kernel, rfl, by decide +kernel, by decide +kernel⟩
theorem ok_pieces {f : Addr} {fd : FuncData} (F : Fun K "_law_pieces" "_law_pieces" sPieces f fd) (T : Bn mg) (F_take : Fx P w K mg base CX0 1 "_law_take" ["_law_stream_here", "_law_most"] spTake) (F_word : Fx P w K mg base CX0 2 "_law_word" ["_law_stream_here", "_law_most"] spWord) : FnOk P w K mg base CX0 3 f fd ["_law_stream_here", "_law_notes", "_law_names"] spPieces := by
  refine F.ok scPieces (fun vs H Q E h => ?_) (fun cdv A outer s H vs Q E hr h => ?_)
  · obtain ⟨st, p, n, nms, rfl, _⟩ := h
    rfl
  · obtain ⟨st, p, n, nms, rfl, S, n2, pne, hp, nne, nle, nok, q⟩ := h
    have hr_take : Room 1 _ := hr.mono (by decide)
    have hr_word := hr
    have hu := hr.units
    refine ⟨_, (qad (qap (i := 3) scPieces.nd (by rfl) (by trivial) (qaA pa_nil))
      (qad (qap (i := 4) scPieces.nd (by rfl) (by trivial) qae)
      (qad (qa4 PassesOwn.never (by rfl) (qaD (by rfl) T.range (qaa (qaw op_add qae (qar F_take hr_take (by rfl) qaq (qaa (pv 0) (qaa qae pa_nil)))) pa_nil)) (qan (i := 5) scPieces.nd (by rfl) (by trivial))
      (qad (qaK (PW.pt (qbn (qal (qea hu) (pv 2) (qaA pa_nil) (qas _)) (qa7 (qal op_eq (qar F_take hr_take (by rfl) qaq (qaa (pv 0) (qaa qae pa_nil))) qae (qas _))))) (qaf (qaN (qbI PySem.F.plainAttrs_list PySem.F.slot_list_append PySem.F.type_list_append mt_append (pv 3) (qaa (qaC (qaa qam (qaa (qaj ix_list (pv 2) (qar F_take hr_take (by rfl) qaq (qaa (pv 0) (qaa (qaB call_len_seq (by rfl) T.len b_len (qaa (pv 2) pa_nil)) pa_nil))) (fun _ _ => rfl)) (qaa (qar F_take hr_take (by rfl) qaq (qaa (pv 0) (qaa qae pa_nil))) pa_nil)))) pa_nil)))) (qaf (qaN (qbI PySem.F.plainAttrs_list PySem.F.slot_list_append PySem.F.type_list_append mt_append (pv 3) (qaa (qaC (qaa qam (qaa (qar F_word hr_word (by rfl) qaq (qaa (pv 0) (qaa qae pa_nil))) (qaa (qar F_take hr_take (by rfl) qaq (qaa (pv 0) (qaa qae pa_nil))) pa_nil)))) pa_nil)))))
      (qaf (qaK (PW.pt (qbn (qal op_lt (pv 4) (pv 1) (qas _)) (qa7 (qal op_eq (qar F_take hr_take (by rfl) qaq (qaa (pv 0) (qaa qae pa_nil))) qae (qas _))))) (qad (qaN (qbI PySem.F.plainAttrs_list PySem.F.slot_list_append PySem.F.type_list_append mt_append (pv 3) (qaa (qaC (qaa qam (qaa (pv 4) (qaa qae pa_nil)))) pa_nil)))
      (qaf (qap (i := 4) scPieces.nd (by rfl) (by trivial) (qaw op_add (pv 4) qae)))) pss_nil))))
      (qaf (qau (qaw op_cat (pv 3) (qa0 (own := ["_law_k"]) (by rfl) (CompScope.plain (by rfl) (by decide +kernel) (by decide +kernel) (by decide +kernel)) (pi_range2 (by rfl) T.range (qaa (pv 4) (qaa (pv 1) pa_nil))) (fun cl C s2 H2 fp => (qan (i := 0) (by show (["_law_k"] : List Str).Nodup; decide +kernel) (by rfl) (by trivial) (by trivial))) (fun cl C s2 H2 fp => qa6) (fun cl C s2 H2 fp => (qaC (qaa qam (qaa (pv 0) (qaa qae pa_nil)))))))))))), ?_⟩
    try dsimp only [cxOf, Cx.nox]
    refine ⟨by show 0 ≤ sizeLine; decide, fun l hl => ?_⟩
    have lst : l ≠ st := qah S.some hl
    have s0 := qac hl (.lst [])
    refine ⟨_, rfl, st, 7, rfl, S.same s0, by decide, by decide, fun r H1 r0 r1 S1 K1 => ⟨_, _, rfl, rfl, _, rfl, by omega, by omega, qaI (fun i σ H2 => ∃ (dn : Nat) (v : Option V) (vs : List V) (its : List Th), σ = [some (.ref st), some (.int n), some (.ref p), some (.ref l), some (.int dn), v] ∧ dn ≤ n ∧ H2 l = some (.lst vs) ∧ Paired (ItAt (fun b => H b = none ∧ b ≠ l) H2) vs its ∧ (∀ x ∈ its, PcOk x) ∧
      (i = 0 → its = []) ∧ (0 < i → ∃ x r, its = x :: r ∧ isNote x = false) ∧ qaU its = nums dn ∧ its.length ≤ i + dn ∧ StOk H2 st ∧ Keep1 st H H2)
      ⟨0, none, [], [], rfl, Nat.zero_le _, K1 _ _ lst qab, .nil, (fun x hx => nomatch hx), (fun _ => rfl), (fun z => absurd z (Nat.lt_irrefl 0)), rfl, Nat.zero_le _, S1, s0.keep.trans K1⟩ ?_ ?_⟩⟩
    · rintro i σ H2 hi ⟨dn, v, vs, its, rfl, hdn, hl2, pr, ok, h0, h1, nn, le, S2, K2⟩
      have lenv : vs.length = its.length := pr.length
      have hp2 : H2 p = some (.lst (nms.map V.str)) := K2 _ _ pne hp
      refine ⟨_, rfl, by show 0 ≤ sizeLine; decide, fun t0 ht0 => ?_⟩
      have s2 := qac ht0 (.lst [])
      refine ⟨_, _, .lst (s2 _ _ hp2) (qe4 nms), .lst qab .nil, strs_ok nok, rfl, fun z => absurd (by simpa using z) nne, fun _ => ⟨_, rfl, iteT ?_⟩⟩
      refine ⟨_, rfl, st, 5, rfl, S2.same s2, by decide, by decide, fun r3 H3 r30 r31 S3 K3 => ⟨rfl, _, rfl, ?_⟩⟩
      have K23 : Keep1 st H2 H3 := s2.keep.trans K3
      have hl3 := K23 _ _ lst hl2
      have hp3 := K23 _ _ pne hp2
      refine ite2 (fun _ => ?_) (fun _ => ?_)
      · -- a name
        refine ⟨_, rfl, .inl ⟨rfl, _, SqL.of hl3⟩, _, rfl, _, rfl, _, rfl, p, _, rfl, .inl (SqL.of hp3), ?_⟩
        have npos : 0 < nms.length := List.length_pos_iff.mpr nne
        refine ⟨st, ((nms.map V.str).length : Int), rfl, S3, by rw [List.length_map]; omega, by rw [List.length_map]; omega, fun r4 H4 r40 r41 S4 K4 => ?_⟩
        obtain ⟨y, ey, my⟩ := qbs r40 r41
        have hp4 := K4 _ _ pne hp3
        refine ⟨p, _, _, _, rfl, rfl, SqL.of hp4, ey, _, rfl, st, 4, rfl, S4, by decide, by decide, fun r5 H5 r50 r51 S5 K5 => ⟨by show 3 ≤ sizeLine; decide, fun t ht => ?_⟩⟩
        have s5 := qac ht (.tup [.str (Str.ofString "page"), .str y, .int r5])
        have K25 : Keep1 st H2 _ := ((K23.trans K4).trans K5).trans s5.keep
        have hl5 := K25 _ _ lst hl2
        refine ⟨l, _, _, rfl, rfl, hl5, qak (by omega), ?_⟩
        have it5 : ItAt (fun b => H b = none ∧ b ≠ l) (upd H5 t (.tup [.str (Str.ofString "page"), .str y, .int r5])) (.ref t) (.tri .page (.inl y) r5) := ⟨t, rfl, ⟨(K2.trans ((K23.trans K4).trans K5)).back (qah S5.some ht) ht, qah ⟨_, ((K23.trans K4).trans K5) _ _ lst hl2⟩ ht⟩, qab⟩
        have S6 := S5.same s5
        have pk : PcOk (.tri .page (.inl y) r5) := ⟨nok y my, by omega, by omega⟩
        have nt : isNote (.tri .page (.inl y) r5) = false := rfl
        have nu : noteNum (.tri .page (.inl y) r5) = none := rfl
        generalize (Th.tri .page (.inl y) r5) = x0 at it5 pk nt nu
        generalize upd H5 t (.tup [.str (Str.ofString "page"), .str y, .int r5]) = H6 at K25 hl5 it5 S6 ⊢
        have k6 : KeepN (fun b => H b = none ∧ b ≠ l) H2 (upd H6 l (.lst (vs ++ [.ref t]))) := fun b o nb e => by
          rw [qai nb.2]
          exact K25 _ _ (fun z => by obtain ⟨o', e'⟩ := S.some; rw [z, e'] at nb; cases nb.1) e
        have it6 : ItAt (fun b => H b = none ∧ b ≠ l) (upd H6 l (.lst (vs ++ [.ref t]))) (.ref t) x0 := it5.keep (fun b o nb e => by rw [qai nb.2]; exact e) fun _ n _ => n
        have pr6 := (pr.mono fun v x q => q.keep k6 fun _ n _ => n).snoc it6
        have S7 : StOk (upd H6 l (.lst (vs ++ [.ref t]))) st := by
          obtain ⟨x, y, e, z⟩ := S6
          exact ⟨x, y, by rw [qai (Ne.symm lst)]; exact e, z⟩
        have K7 : Keep1 st H (upd H6 l (.lst (vs ++ [.ref t]))) := fun b o nb e => by
          rw [qai (qao e hl)]
          exact K25 _ _ nb (K2 _ _ nb e)
        have hl7 : upd H6 l (.lst (vs ++ [.ref t])) l = some (.lst (vs ++ [.ref t])) := qab
        have ok7 : ∀ x ∈ its ++ [x0], PcOk x := fun x hx => by
          rcases List.mem_append.mp hx with hx | hx
          · exact ok x hx
          · have : x = x0 := by simpa using hx
            rw [this]; exact pk
        have nn7 : qaU (its ++ [x0]) = nums dn := by
          rw [qbt, nn]
          simp [qaU, nu]
        have h17 : ∃ x r, its ++ [x0] = x :: r ∧ isNote x = false := by
          cases its with
          | nil => exact ⟨x0, [], rfl, nt⟩
          | cons a b =>
            obtain ⟨x, r, ex, nx⟩ := h1 (by
              rcases Nat.eq_zero_or_pos i with z | z
              · exact absurd (h0 z) (by simp)
              · exact z)
            cases ex
            exact ⟨a, b ++ [x0], rfl, nx⟩
        generalize upd H6 l (.lst (vs ++ [.ref t])) = H7 at it6 pr6 S7 K7 hl7 k6 ⊢
        refine ⟨_, rfl, _, rfl, _, _, rfl, rfl, _, rfl, ?_⟩
        refine ite2 (fun cdn => ?_) (fun _ => ?_)
        case' _ =>
          have cdn' : dn < n := by
            have := of_decide_eq_true cdn
            omega
          refine ⟨_, rfl, st, 2, rfl, S7, by decide, by decide, fun r8 H8 r80 r81 S8 K8 => ⟨rfl, _, rfl, ?_⟩⟩
          have hl8 := K8 _ _ lst hl7
          have pr8 := pr6.mono fun v x q => q.keep (K8.mono (N' := fun b => H b = none ∧ b ≠ l) fun b nb z => by obtain ⟨o', e'⟩ := S.some; rw [z, e'] at nb; cases nb.1) fun _ n _ => n
          refine ite2 (fun _ => ?_) (fun _ => ?_)
          case' _ =>
            refine ⟨_, rfl, .inl ⟨rfl, _, SqL.of hl8⟩, _, rfl, by show 3 ≤ sizeLine; decide, fun t9 ht9 => ?_⟩
            have s9 := qac ht9 (.tup [.str (Str.ofString "note"), .int (dn : Int), .int 0])
            refine ⟨l, _, _, rfl, rfl, s9 _ _ hl8, qak (by rw [List.length_append, lenv]; simp; omega), _, rfl, _, _, rfl, rfl, ?_⟩
            have t9l : t9 ≠ l := qah ⟨_, hl8⟩ ht9
            have it9 : ItAt (fun b => H b = none ∧ b ≠ l) (upd (upd H8 t9 (.tup [.str (Str.ofString "note"), .int (dn : Int), .int 0])) l (.lst (vs ++ [.ref t] ++ [.ref t9]))) (.ref t9) (.tri .note (.inr dn) 0) := ⟨t9, rfl, ⟨(K7.trans K8).back (qah S8.some ht9) ht9, t9l⟩, by rw [qai t9l]; exact qab⟩
            refine ⟨dn + 1, _, _, its ++ [x0] ++ [.tri .note (.inr dn) 0], rfl, cdn', qab, (pr8.mono fun v x q => q.keep (fun b o nb e => by rw [qai nb.2]; exact s9 _ _ e) fun _ n _ => n).snoc it9, ?_, (fun z => absurd z (Nat.succ_ne_zero _)), ?_, ?_, ?_, ?_, ?_⟩
            · intro x hx
              rcases List.mem_append.mp hx with hx | hx
              · exact ok7 x hx
              · have : x = .tri .note (.inr dn) 0 := by simpa using hx
                rw [this]; exact ⟨by omega, by omega, rfl⟩
            · intro _
              obtain ⟨x, r, e, nx⟩ := h17
              rw [e]
              exact ⟨x, _, rfl, nx⟩
            · rw [qbt, nn7, qcc]; rfl
            · rw [List.length_append, List.length_append]; simp; omega
            · obtain ⟨x, y, e, z⟩ := S8.same s9
              exact ⟨x, y, by rw [qai (Ne.symm lst)]; exact e, z⟩
            · intro b o nb e
              rw [qai (qao e hl)]
              exact s9 _ _ (K8 _ _ nb (K7 _ _ nb e))
          · exact ⟨dn, _, _, its ++ [x0], rfl, hdn, hl8, pr8, ok7, (fun z => absurd z (Nat.succ_ne_zero _)), (fun _ => h17), nn7, by rw [List.length_append]; simp; omega, S8, K7.trans K8⟩
        · exact ⟨dn, _, _, its ++ [x0], rfl, hdn, hl7, pr6, ok7, (fun z => absurd z (Nat.succ_ne_zero _)), (fun _ => h17), nn7, by rw [List.length_append]; simp; omega, S7, K7⟩
      · refine ⟨_, rfl, .inl ⟨rfl, _, SqL.of hl3⟩, _, rfl, st, 6, rfl, S3, by decide, by decide, fun y H4 wy _ S4 K4 => ?_⟩
        refine ⟨_, rfl, st, 4, rfl, S4, by decide, by decide, fun r5 H5 r50 r51 S5 K5 => ⟨by show 3 ≤ sizeLine; decide, fun t ht => ?_⟩⟩
        have s5 := qac ht (.tup [.str (Str.ofString "word"), .str y, .int r5])
        have K25 : Keep1 st H2 _ := ((K23.trans K4).trans K5).trans s5.keep
        have hl5 := K25 _ _ lst hl2
        refine ⟨l, _, _, rfl, rfl, hl5, qak (by omega), ?_⟩
        have it5 : ItAt (fun b => H b = none ∧ b ≠ l) (upd H5 t (.tup [.str (Str.ofString "word"), .str y, .int r5])) (.ref t) (.tri .word (.inl y) r5) := ⟨t, rfl, ⟨(K2.trans ((K23.trans K4).trans K5)).back (qah S5.some ht) ht, qah ⟨_, ((K23.trans K4).trans K5) _ _ lst hl2⟩ ht⟩, qab⟩
        have S6 := S5.same s5
        have pk : PcOk (.tri .word (.inl y) r5) := ⟨wy, by omega, by omega⟩
        have nt : isNote (.tri .word (.inl y) r5) = false := rfl
        have nu : noteNum (.tri .word (.inl y) r5) = none := rfl
        generalize (Th.tri .word (.inl y) r5) = x0 at it5 pk nt nu
        generalize upd H5 t (.tup [.str (Str.ofString "word"), .str y, .int r5]) = H6 at K25 hl5 it5 S6 ⊢
        have k6 : KeepN (fun b => H b = none ∧ b ≠ l) H2 (upd H6 l (.lst (vs ++ [.ref t]))) := fun b o nb e => by
          rw [qai nb.2]
          exact K25 _ _ (fun z => by obtain ⟨o', e'⟩ := S.some; rw [z, e'] at nb; cases nb.1) e
        have it6 : ItAt (fun b => H b = none ∧ b ≠ l) (upd H6 l (.lst (vs ++ [.ref t]))) (.ref t) x0 := it5.keep (fun b o nb e => by rw [qai nb.2]; exact e) fun _ n _ => n
        have pr6 := (pr.mono fun v x q => q.keep k6 fun _ n _ => n).snoc it6
        have S7 : StOk (upd H6 l (.lst (vs ++ [.ref t]))) st := by
          obtain ⟨x, y, e, z⟩ := S6
          exact ⟨x, y, by rw [qai (Ne.symm lst)]; exact e, z⟩
        have K7 : Keep1 st H (upd H6 l (.lst (vs ++ [.ref t]))) := fun b o nb e => by
          rw [qai (qao e hl)]
          exact K25 _ _ nb (K2 _ _ nb e)
        have hl7 : upd H6 l (.lst (vs ++ [.ref t])) l = some (.lst (vs ++ [.ref t])) := qab
        have ok7 : ∀ x ∈ its ++ [x0], PcOk x := fun x hx => by
          rcases List.mem_append.mp hx with hx | hx
          · exact ok x hx
          · have : x = x0 := by simpa using hx
            rw [this]; exact pk
        have nn7 : qaU (its ++ [x0]) = nums dn := by
          rw [qbt, nn]
          simp [qaU, nu]
        have h17 : ∃ x r, its ++ [x0] = x :: r ∧ isNote x = false := by
          cases its with
          | nil => exact ⟨x0, [], rfl, nt⟩
          | cons a b =>
            obtain ⟨x, r, ex, nx⟩ := h1 (by
              rcases Nat.eq_zero_or_pos i with z | z
              · exact absurd (h0 z) (by simp)
              · exact z)
            cases ex
            exact ⟨a, b ++ [x0], rfl, nx⟩
        generalize upd H6 l (.lst (vs ++ [.ref t])) = H7 at it6 pr6 S7 K7 hl7 k6 ⊢
        refine ⟨_, rfl, _, rfl, _, _, rfl, rfl, _, rfl, ?_⟩
        refine ite2 (fun cdn => ?_) (fun _ => ?_)
        case' _ =>
          have cdn' : dn < n := by
            have := of_decide_eq_true cdn
            omega
          refine ⟨_, rfl, st, 2, rfl, S7, by decide, by decide, fun r8 H8 r80 r81 S8 K8 => ⟨rfl, _, rfl, ?_⟩⟩
          have hl8 := K8 _ _ lst hl7
          have pr8 := pr6.mono fun v x q => q.keep (K8.mono (N' := fun b => H b = none ∧ b ≠ l) fun b nb z => by obtain ⟨o', e'⟩ := S.some; rw [z, e'] at nb; cases nb.1) fun _ n _ => n
          refine ite2 (fun _ => ?_) (fun _ => ?_)
          case' _ =>
            refine ⟨_, rfl, .inl ⟨rfl, _, SqL.of hl8⟩, _, rfl, by show 3 ≤ sizeLine; decide, fun t9 ht9 => ?_⟩
            have s9 := qac ht9 (.tup [.str (Str.ofString "note"), .int (dn : Int), .int 0])
            refine ⟨l, _, _, rfl, rfl, s9 _ _ hl8, qak (by rw [List.length_append, lenv]; simp; omega), _, rfl, _, _, rfl, rfl, ?_⟩
            have t9l : t9 ≠ l := qah ⟨_, hl8⟩ ht9
            have it9 : ItAt (fun b => H b = none ∧ b ≠ l) (upd (upd H8 t9 (.tup [.str (Str.ofString "note"), .int (dn : Int), .int 0])) l (.lst (vs ++ [.ref t] ++ [.ref t9]))) (.ref t9) (.tri .note (.inr dn) 0) := ⟨t9, rfl, ⟨(K7.trans K8).back (qah S8.some ht9) ht9, t9l⟩, by rw [qai t9l]; exact qab⟩
            refine ⟨dn + 1, _, _, its ++ [x0] ++ [.tri .note (.inr dn) 0], rfl, cdn', qab, (pr8.mono fun v x q => q.keep (fun b o nb e => by rw [qai nb.2]; exact s9 _ _ e) fun _ n _ => n).snoc it9, ?_, (fun z => absurd z (Nat.succ_ne_zero _)), ?_, ?_, ?_, ?_, ?_⟩
            · intro x hx
              rcases List.mem_append.mp hx with hx | hx
              · exact ok7 x hx
              · have : x = .tri .note (.inr dn) 0 := by simpa using hx
                rw [this]; exact ⟨by omega, by omega, rfl⟩
            · intro _
              obtain ⟨x, r, e, nx⟩ := h17
              rw [e]
              exact ⟨x, _, rfl, nx⟩
            · rw [qbt, nn7, qcc]; rfl
            · rw [List.length_append, List.length_append]; simp; omega
            · obtain ⟨x, y, e, z⟩ := S8.same s9
              exact ⟨x, y, by rw [qai (Ne.symm lst)]; exact e, z⟩
            · intro b o nb e
              rw [qai (qao e hl)]
              exact s9 _ _ (K8 _ _ nb (K7 _ _ nb e))
          · exact ⟨dn, _, _, its ++ [x0], rfl, hdn, hl8, pr8, ok7, (fun z => absurd z (Nat.succ_ne_zero _)), (fun _ => h17), nn7, by rw [List.length_append]; simp; omega, S8, K7.trans K8⟩
        · exact ⟨dn, _, _, its ++ [x0], rfl, hdn, hl7, pr6, ok7, (fun z => absurd z (Nat.succ_ne_zero _)), (fun _ => h17), nn7, by rw [List.length_append]; simp; omega, S7, K7⟩
    · rintro σ H2 ⟨dn, v, vs, its, rfl, hdn, hl2, pr, ok, h0, h1, nn, le, S2, K2⟩
      have lenv : vs.length = its.length := pr.length
      have npos : 0 < (1 + r).toNat := by omega
      obtain ⟨x1, rs, ei, ni⟩ := h1 npos
      refine ⟨_, rfl, _, rfl, _, rfl, _, _, rfl, ⟨by omega, by omega, by omega, by omega⟩, qbz (fun i ys σ' H3 => (∃ z, σ' = [z]) ∧ ys.length = i ∧ Same H2 H3 ∧ Paired (ItAt (fun b => H b = none ∧ b ≠ l) H3) ys ((nums (dn + i)).drop dn |>.map fun k => Th.tri .note (.inr k) 0)) (by have := qak (n := 100) (by decide); omega) ⟨⟨none, rfl⟩, rfl, Same.refl _, ?_⟩ ?_ ?_ ?_⟩
      · rw [show (nums (dn + 0)).drop dn = [] from by rw [List.drop_eq_nil_iff]; simp [nums]]
        exact .nil
      · rintro i ys σ' H3 hi ⟨_, e, _⟩
        omega
      · rintro i ys σ' H3 hi ⟨⟨z, rfl⟩, e, s3, p3⟩
        refine ⟨_, rfl, by show 3 ≤ sizeLine; decide, fun t ht => ?_⟩
        have s4 := qac ht (.tup [.str (Str.ofString "note"), .int ((dn : Int) + i), .int 0])
        refine ⟨⟨_, rfl⟩, by rw [List.length_append, e]; rfl, s3.trans s4, ?_⟩
        rw [note_more]
        refine (p3.mono fun v x q => q.keep s4.keep fun _ n _ => n).snoc ⟨t, rfl, ⟨(K2.trans s3.keep).back (qah (S2.same s3).some ht) ht, qah ⟨_, s3 _ _ hl2⟩ ht⟩, ?_⟩
        rw [qab]
        show some (HO.tup [.str (Str.ofString "note"), .int ((dn : Int) + i), .int 0]) = some (HO.tup [.str (Str.ofString "note"), .int ((dn + i : Nat) : Int), .int 0])
        rw [Int.natCast_add]
      · rintro ys σ' H3 ⟨_, e, s3, p3⟩ D hD
        have sD := qac hD (.lst ys)
        have hl4 := sD _ _ (s3 _ _ hl2)
        refine ⟨l, D, _, _, rfl, rfl, hl4, qab, ?_, fun s hs => ?_⟩
        · rw [lenv, e]
          exact Nat.le_of_lt (qak (by omega))
        have sE := qac hs (.lst (vs ++ ys))
        have s3E : Same H2 _ := (s3.trans sD).trans sE
        have en : dn + ((n : Int) - dn).toNat = n := by omega
        rw [en] at p3
        refine q s (its ++ ((nums n).drop dn).map fun k => Th.tri .note (.inr k) 0) _ ⟨?_, ?_, ?_, ?_⟩ ⟨?_, vs ++ ys, qab, ?_⟩ (S2.same s3E) (K2.trans s3E.keep)
        · intro x hx
          rcases List.mem_append.mp hx with hx | hx
          · exact ok x hx
          · obtain ⟨k, hk, rfl⟩ := List.mem_map.mp hx
            have hk' := List.mem_of_mem_drop hk
            obtain ⟨j, hj, rfl⟩ := List.mem_map.mp (show k ∈ (List.range n).map fun (i : Nat) => (i : Int) from hk')
            have := List.mem_range.mp hj
            exact ⟨by omega, by omega, rfl⟩
        · rw [ei]
          exact ⟨x1, _, rfl, ni⟩
        · rw [qbt, nn, notes_of]
          have : nums dn = (nums n).take dn := nums_take hdn
          rw [this, List.take_append_drop]
        · rw [List.length_append, List.length_map, List.length_drop]
          have : (nums n).length = n := by simp [nums]
          omega
        · exact (K2.trans (s3.trans sD).keep).back (qah (S2.same (s3.trans sD)).some hs) hs
        · refine qa3 (pr.mono fun v x q => q.keep s3E.keep fun b n _ => n.1) (p3.mono fun v x q => q.keep (sD.trans sE).keep fun b n _ => n.1)
end
end K14
namespace K14
open PySem L2 Bk Gen
section
variable {P : Program} {w : World} {K : PySem.W.Frag} {mg : Str → Option Value} {base : Heap}
theorem scOwn : FnScope ["_law_nodes", "_law_stream_here", "_law_names", "_law_name_here", "_law_marks"] ["_law_nodes", "_law_stream_here"] (qag sOwn) := ⟨rfl, rfl, rfl, by decide +kernel, rfl, by decide +kernel, by decide +kernel⟩
theorem ok_own {f : Addr} {fd : FuncData} (F : Fun K "_law_own" "_law_own" sOwn f fd) (T : Bn mg) (F_take : Fx P w K mg base CX0 1 "_law_take" ["_law_stream_here", "_law_most"] spTake) (F_name : Fx P w K mg base CX0 2 "_law_name" ["_law_stream_here", "_law_many"] spName) : FnOk P w K mg base CX0 3 f fd ["_law_nodes", "_law_stream_here"] spOwn := by
  refine F.ok scOwn (fun vs H Q E h => ?_) (fun cdv A outer s H vs Q E hr h => ?_)
  · obtain ⟨H0, p, st, ds, rfl, _⟩ := h
    rfl
  · obtain ⟨H0, p, st, ds, rfl, G, hlen, q⟩ := h
    have hr_take : Room 1 _ := hr.mono (by decide)
    have hr_name := hr
    refine ⟨_, (qad (qcb (i := 2) (by rfl) scOwn.nd (by rfl) (by trivial) (own := ["_law_row_here"]) (CompScope.plain (by rfl) (by decide +kernel) (by decide +kernel) (by decide +kernel)) (qa2 (pv 0)) (fun cl C s2 H2 fp => (qan (i := 0) (by show (["_law_row_here"] : List Str).Nodup; decide +kernel) (by rfl) (by trivial) (by trivial))) (fun cl C s2 H2 fp => qa6) (fun cl C s2 H2 fp => (qaj (r := rIxT K) ix_tup (pv 0) qae (fun _ _ => rfl))))
      (qad (qap (i := 3) scOwn.nd (by rfl) (by trivial) qam)
      (qad (qaK (qal op_eq (qar F_take hr_take (by rfl) qaq (qaa (pv 1) (qaa qae pa_nil))) qae (qas _)) (qaf (qap (i := 3) scOwn.nd (by rfl) (by trivial) (qar F_name hr_name (by rfl) qaq (qaa (pv 1) (qaa (qaB call_len_seq (by rfl) T.len b_len (qaa (pv 0) pa_nil)) pa_nil))))) pss_nil)
      (qad (qaK (qal op_in_seq (pv 3) (pv 2) (by with_unfolding_all rfl)) (qaf (qap (i := 3) scOwn.nd (by rfl) (by trivial) qam)) pss_nil)
      (qad (qcb (i := 4) (by rfl) scOwn.nd (by rfl) (by trivial) (own := ["_law_k"]) (ix := [1]) (frees := ["_law_stream_here"]) (CompScope.frees (by rfl) (by decide +kernel) (by decide +kernel) (by decide +kernel) (by rfl) (by decide +kernel) (by first | exact qb1 (by rfl) | exact qcg (by rfl) (by rfl))) (qaD (by rfl) T.range (qaa (qar F_take hr_take (by rfl) qaq (qaa (pv 1) (qaa qae pa_nil))) pa_nil)) (fun cl C s2 H2 fp => (qan (i := 0) (by show (["_law_k", "_law_stream_here"] : List Str).Nodup; decide +kernel) (by rfl) (by trivial) (by trivial))) (fun cl C s2 H2 fp => qa6) (fun cl C s2 H2 fp => (qaj (r := rIxL K) ix_list (qaA (qaa qam (qaa qam (qaa qam (qaa qam pa_nil))))) (qar F_take hr_take (by rfl) qaq (qaa (pv 1) (qaa qae pa_nil))) (fun _ _ => rfl))))
      (qaf (qau (qaA (qaa (pv 3) (qaa (qaB (call_sortedS (by rfl) (by rfl)) (by rfl) T.sorted b_sorted (qaa (qaP (call_setS (by rfl)) (by rfl) T.set b_set (qaa (pv 4) pa_nil)) pa_nil)) pa_nil)))))))))), ?_⟩
    try dsimp only [cxOf, Cx.nox]
    obtain ⟨as, hp, nd⟩ := G.bk
    have lenas : as.length = ds.length := nd.length
    have zl : (as.map V.ref).length < sizeLine := by rw [List.length_map]; exact qak (by omega)
    refine ⟨_, rfl, p, rfl, ⟨_, SqL.of hp⟩, qaO (fun i ys σ' H' => H' = H ∧ ys = (ds.take i).map (fun d => V.str d.nm) ∧ ∃ z, σ' = [z]) zl ⟨rfl, rfl, none, rfl⟩ ?_ ?_ ?_⟩
    · rintro i ys σ' H' hi ⟨rfl, rfl, _⟩
      exact ⟨SqL.of hp, by rw [List.length_map, List.length_take]; exact Nat.min_le_left _ _⟩
    · rintro i x ys σ' H' hx ⟨rfl, rfl, z, rfl⟩
      obtain ⟨a, ea, rfl⟩ := qbH hx
      obtain ⟨d, ed, na, m, s', ha, _⟩ := nd.at ea
      refine ⟨_, rfl, a, _, _, _, rfl, rfl, SqT.of ha, rfl, ?_⟩
      exact ⟨rfl, (take_more _ ed).symm, _, rfl⟩
    rintro ys σ' H' ⟨rfl, rfl, z, rfl⟩ N hN
    rw [List.length_map, lenas, List.take_length]
    have eN : ds.map (fun d => V.str d.nm) = (ds.map (·.nm)).map V.str := by rw [List.map_map]; rfl
    rw [eN]
    have s1 := qac hN (.lst ((ds.map (·.nm)).map V.str))
    have hN1 : upd H' N (.lst ((ds.map (·.nm)).map V.str)) N = some (.lst ((ds.map (·.nm)).map V.str)) := qab
    have S1 := G.so.same s1
    have nst : N ≠ st := qah G.so.some hN
    generalize upd H' N (.lst ((ds.map (·.nm)).map V.str)) = H1 at s1 hN1 S1 ⊢
    refine ⟨_, rfl, st, 3, rfl, S1, by decide, by decide, fun r2 H2 r20 r21 S2 K2 => ⟨rfl, _, rfl, ?_⟩⟩
    refine ite2 (fun _ => ?c1) (fun _ => ?c2)
    case' c1 =>
      refine ⟨_, rfl, _, rfl, p, _, rfl, .inl (SqL.of (K2 _ _ G.pne (s1 _ _ hp))), st, _, rfl, S2, by rw [List.length_map]; omega, by rw [List.length_map]; omega, fun nm H3 nk0 S3 K3 => ?_⟩
      have nk : nm = noName ∨ Name nm := .inr nk0
      have K13 := K2.trans K3
      clear nk0 K3 K2 S2
    case' c2 =>
      have nk : noName = noName ∨ Name noName := .inl rfl
      have S3 := S2
      have K13 := K2
      clear K2 S2
    all_goals
      have hN3 := K13 _ _ nst hN1
      refine ⟨_, rfl, _, rfl, N, _, rfl, .inl (SqL.of hN3), rfl, qbh _, _, rfl, ?_⟩
      refine ite2 (fun _ => (?_ : NmOk ds noName → _) (.inl rfl)) (fun cin => (?_ : NmOk ds _ → _) (nmok_of nk (inV_strs (nms := ds.map (·.nm)) (not_in cin))))
      all_goals
        intro nk2
        refine ⟨_, rfl, st, 3, rfl, S3, by decide, by decide, fun r4 H4 r40 r41 S4 K4 => ⟨_, rfl, by omega, by omega, qbz (fun i ys σ' H5 => ∃ ks : List Str, ys = ks.map V.str ∧ ks.length = i ∧ (∀ x ∈ ks, x ∈ fourMarks) ∧ (∃ z, σ' = [z, some (.ref st)]) ∧ StOk H5 st ∧ Keep1 st H4 H5) (qak (by omega)) ⟨[], rfl, rfl, (fun x hx => nomatch hx), ⟨none, rfl⟩, S4, KeepN.refl⟩ ?_ ?_ ?_⟩⟩
        · rintro i ys σ' H5 hi ⟨ks, rfl, e, _⟩
          rw [List.length_map]
          omega
        · rintro i ys σ' H5 hi ⟨ks, rfl, e, mk, ⟨z, rfl⟩, S5, K5⟩
          refine ⟨by show 4 ≤ sizeLine; decide, fun t ht => ?_⟩
          have s5 := qac ht (.lst (fourMarks.map V.str))
          refine ⟨_, rfl, st, 4, rfl, S5.same s5, by decide, by decide, fun r6 H6 r60 r61 S6 K6 => ?_⟩
          obtain ⟨y, ey, my⟩ := qbs (nms := fourMarks) r60 r61
          refine ⟨t, _, _, _, rfl, rfl, SqL.of (K6 _ _ (qah S5.some ht) qab), ey, ?_⟩
          refine ⟨ks ++ [y], by rw [List.map_append]; rfl, by rw [List.length_append, e]; rfl, fun x hx => ?_, ⟨_, rfl⟩, S6, (K5.trans s5.keep).trans K6⟩
          rcases List.mem_append.mp hx with hx | hx
          · exact mk x hx
          · have : x = y := by simpa using hx
            rw [this]; exact my
        · rintro ys σ' H5 ⟨ks, rfl, e, mk, _, S5, K5⟩ D hD
          have sD := qac hD (.lst (ks.map V.str))
          refine ⟨_, rfl, _, rfl, D, ks, rfl, SqL.of qab, by unfold scanBound; omega, fun d6 hd6 => ?_⟩
          have s6 := qac hd6 (setS w d6 (once ks))
          refine ⟨d6, once ks, rfl, qab, ?_, fun m ms hm pm so => ⟨by show 2 ≤ sizeLine; decide, fun l hl => ?_⟩⟩
          · have := once_le ks
            omega
          have s7 := qac hm (.lst (ms.map V.str))
          have s8 := fun o => qac hl o
          have S7 := S5.same ((sD.trans s6).trans s7)
          have KB : Keep1 st H' _ := ((s1.keep.trans K13).trans K4).trans (K5.trans ((sD.trans s6).trans s7).keep)
          have KC : Keep1 st H' _ := ((s1.keep.trans K13).trans K4).trans (K5.trans (sD.trans s6).keep)
          exact q l m _ ms _ (KB.back (qah S7.some hl) hl) (KC.back (qah (S5.same (sD.trans s6)).some hm) hm) qab (s8 _ _ _ qab) (marks_of mk (by omega) pm so) nk2 (S7.same (s8 _)) (KB.trans (s8 _).keep)
theorem scAdd : FnScope ["_law_nodes", "_law_elder", "_law_kind", "_law_stuff", "_law_stream_here", "_law_own_here"] ["_law_nodes", "_law_elder", "_law_kind", "_law_stuff", "_law_stream_here"] (qag sAdd) := ⟨rfl, rfl, rfl, by decide +kernel, rfl, by decide +kernel, by decide +kernel⟩
theorem ok_add {f : Addr} {fd : FuncData} (F : Fun K "_law_add" "_law_add" sAdd f fd) (T : Bn mg) (F_own : Fx P w K mg base CX0 3 "_law_own" ["_law_nodes", "_law_stream_here"] spOwn) : FnOk P w K mg base CX0 4 f fd ["_law_nodes", "_law_elder", "_law_kind", "_law_stuff", "_law_stream_here"] spAdd := by
  refine F.ok scAdd (fun vs H Q E h => ?_) (fun cdv A outer s H vs Q E hr h => ?_)
  · obtain ⟨H0, p, st, s, e, k, its, ds, rfl, _⟩ := h
    rfl
  · obtain ⟨H0, p, st, s, e, k, its, ds, rfl, G, hst, hlen, q⟩ := h
    have hr_own := hr
    refine ⟨_, (qad (qap (i := 5) scAdd.nd (by rfl) (by trivial) (qar F_own hr_own (by rfl) qaq (qaa (pv 0) (qaa (pv 4) pa_nil))))
      (qad (qaN (qbI PySem.F.plainAttrs_list PySem.F.slot_list_append PySem.F.type_list_append mt_append (pv 0) (qaa (qaC (qaa (pv 1) (qaa (pv 2) (qaa (qaj ix_list (pv 5) qae (fun _ _ => rfl)) (qaa (qaj ix_list (pv 5) qae (fun _ _ => rfl)) (qaa (pv 3) pa_nil)))))) pa_nil)))
      (qaf (qau (qaw op_sub (qaB call_len_seq (by rfl) T.len b_len (qaa (pv 0) pa_nil)) qae))))), ?_⟩
    try dsimp only [cxOf, Cx.nox]
    refine ⟨_, rfl, _, rfl, H0, p, st, ds, rfl, G, hlen, fun l m nm mks H1 hl hm el em mk nk S1 K1 => ?_⟩
    have G1 := G.keep1 K1 S1
    obtain ⟨as, hp, nd⟩ := G1.bk
    have lenas : as.length = ds.length := nd.length
    refine ⟨_, rfl, .inl ⟨rfl, _, SqL.of hp⟩, _, rfl, _, rfl, _, rfl, l, _, _, _, rfl, rfl, SqL.of el, rfl, _, rfl, l, _, _, _, rfl, rfl, SqL.of el, rfl, _, rfl, by show 5 ≤ sizeLine; decide, fun a ha => ?_⟩
    have s2 := qac ha (.tup [.int e, .str k.s, .str nm, .ref m, .ref s])
    have G2 := G1.same s2
    have hp2 := s2 _ _ hp
    have nd2 := nd.keep (N' := New H0 p) s2.keep fun _ n _ => n
    refine ⟨p, _, _, rfl, rfl, hp2, qak (by rw [List.length_map]; omega), ?_⟩
    have na : NdAt (New H0 p) (upd H1 a (.tup [.int e, .str k.s, .str nm, .ref m, .ref s])) a ⟨e, k, nm, mks, its⟩ := ⟨G1.fresh ha, m, s, qab, G.fresh hm, s2 _ _ em, (hst.keep (N' := New H0 p) (K1.mono fun b n => G.nst n) fun _ n _ => n).keep s2.keep fun _ n _ => n⟩
    have G3 := G2.push hp2 nd2 na
    refine ⟨_, rfl, p, _, rfl, .inl (SqL.of qab), _, _, rfl, rfl, ?_⟩
    have el : ((as.map V.ref ++ [V.ref a]).length : Int) - 1 = ds.length := by
      rw [List.length_append, List.length_map, lenas]
      simp
    show Q (.int (((as.map V.ref ++ [V.ref a]).length : Int) - 1)) _
    rw [el]
    refine q ⟨e, k, nm, mks, its⟩ _ rfl rfl rfl mk nk G3 fun b o n eb => ?_
    rw [qai n.2]
    exact s2 _ _ (K1 _ _ n.1 eb)
end
end K14
namespace K14
open PySem L2 Bk Gen
section
variable {P : Program} {w : World} {K : PySem.W.Frag} {mg : Str → Option Value} {base : Heap}
theorem scText : FnScope ["_law_nodes", "_law_elder", "_law_kind", "_law_stream_here", "_law_names", "_law_notes", "_law_at", "_law_k"] ["_law_nodes", "_law_elder", "_law_kind", "_law_stream_here"] (qag sText) := ⟨rfl, rfl, rfl, by decide +kernel, rfl, by decide +kernel, by decide +kernel⟩
theorem ok_text {f : Addr} {fd : FuncData} (F : Fun K "_law_text" "_law_text" sText f fd) (T : Bn mg) (F_take : Fx P w K mg base CX0 1 "_law_take" ["_law_stream_here", "_law_most"] spTake) (F_pieces : Fx P w K mg base CX0 3 "_law_pieces" ["_law_stream_here", "_law_notes", "_law_names"] spPieces) (F_add : Fx P w K mg base CX0 4 "_law_add" ["_law_nodes", "_law_elder", "_law_kind", "_law_stuff", "_law_stream_here"] spAdd) : FnOk P w K mg base CX0 5 f fd ["_law_nodes", "_law_elder", "_law_kind", "_law_stream_here"] spText := by
  refine F.ok scText (fun vs H Q E h => ?_) (fun cdv A outer s H vs Q E hr h => ?_)
  · obtain ⟨H0, p, st, e, lv, k, ds, rfl, _⟩ := h
    rfl
  · obtain ⟨H0, p, st, e, lv, k, ds, rfl, G, hk, hlen, hlv, nok, nms, q⟩ := h
    have hr_take : Room 1 _ := hr.mono (by decide)
    have hr_pieces : Room 3 _ := hr.mono (by decide)
    have hr_add := hr
    refine ⟨_, (qad (qap (i := 4) scText.nd (by rfl) (by trivial) (qaw op_cat (qa0 (own := ["_law_row_here"]) (by rfl) (CompScope.plain (by rfl) (by decide +kernel) (by decide +kernel) (by decide +kernel)) (qa2 (pv 0)) (fun cl C s2 H2 fp => (qan (i := 0) (by show (["_law_row_here"] : List Str).Nodup; decide +kernel) (by rfl) (by trivial) (by trivial))) (fun cl C s2 H2 fp => (qbw (qal op_ne (qaj (r := rIxT K) ix_tup (pv 0) qae (fun _ _ => rfl)) qam (qas _)))) (fun cl C s2 H2 fp => (qaj (r := rIxT K) ix_tup (pv 0) qae (fun _ _ => rfl)))) (qaA (qaa qam pa_nil))))
      (qad (qap (i := 5) scText.nd (by rfl) (by trivial) (qaj ix_list (qaA (qaa qae (qaa qae (qaa qae (qaa qae (qaa qae pa_nil)))))) (qar F_take hr_take (by rfl) qaq (qaa (pv 3) (qaa qae pa_nil))) (fun _ _ => rfl)))
      (qad (qap (i := 6) scText.nd (by rfl) (by trivial) (qar F_add hr_add (by rfl) qaq (qaa (pv 0) (qaa (pv 1) (qaa (pv 2) (qaa (qar F_pieces hr_pieces (by rfl) qaq (qaa (pv 3) (qaa (pv 5) (qaa (pv 4) pa_nil)))) (qaa (pv 3) pa_nil)))))))
      (qaf (qa4 PassesOwn.never (by rfl) (qaD (by rfl) T.range (qaa (pv 5) pa_nil)) (qan (i := 7) scText.nd (by rfl) (by trivial))
      (qaf (qaN (qar F_add hr_add (by rfl) qaq (qaa (pv 0) (qaa (pv 6) (qaa qam (qaa (qar F_pieces hr_pieces (by rfl) qaq (qaa (pv 3) (qaa qae (qaa (pv 4) pa_nil)))) (qaa (pv 3) pa_nil))))))))))))), ?_⟩
    try dsimp only [cxOf, Cx.nox]
    obtain ⟨as, hp, nd⟩ := G.bk
    have lenas : as.length = ds.length := nd.length
    have zl : (as.map V.ref).length < sizeLine := by rw [List.length_map]; exact qak (by omega)
    refine ⟨_, rfl, p, rfl, ⟨_, SqL.of hp⟩, qaO (fun i ys σ' H' => H' = H ∧ ys = (((ds.take i).filter fun d => d.nm ≠ noName).map (·.nm)).map V.str ∧ ∃ z, σ' = [z]) zl ⟨rfl, rfl, none, rfl⟩ ?_ ?_ ?_⟩
    · rintro i ys σ' H' hi ⟨rfl, rfl, _⟩
      refine ⟨SqL.of hp, ?_⟩
      rw [List.length_map, List.length_map]
      exact Nat.le_trans (List.length_filter_le _ _) (by rw [List.length_take]; exact Nat.min_le_left _ _)
    · rintro i x ys σ' H' hx ⟨rfl, rfl, z, rfl⟩
      obtain ⟨a, ea, rfl⟩ := qbH hx
      obtain ⟨d, ed, na, m, s', ha, _⟩ := nd.at ea
      refine ⟨_, rfl, a, _, _, _, rfl, rfl, SqT.of ha, rfl, rfl, _, rfl, ?_⟩
      have et : ds.take (i + 1) = ds.take i ++ [d] := by rw [List.take_succ, ed]; rfl
      by_cases hd : d.nm = noName
      · rw [decide_eq_true (show V.str d.nm = V.str (Str.ofString "") from congrArg V.str hd)]
        refine iteF ?_
        refine ⟨rfl, ?_, _, rfl⟩
        rw [et, List.filter_append]
        simp [hd]
      · rw [decide_eq_false (show ¬ V.str d.nm = V.str (Str.ofString "") from fun z => hd (V.str.inj z))]
        refine iteT ?_
        refine ⟨_, rfl, a, _, _, _, rfl, rfl, SqT.of ha, rfl, ?_⟩
        refine ⟨rfl, ?_, _, rfl⟩
        rw [et, List.filter_append]
        simp [hd]
    rintro ys σ' H' ⟨rfl, rfl, z, rfl⟩ N0 hN0
    rw [List.length_map, lenas, List.take_length]
    have fn : ∀ x ∈ (ds.filter fun d => d.nm ≠ noName).map (·.nm), Name x := fun x hx => by
      obtain ⟨d, hd, rfl⟩ := List.mem_map.mp hx
      obtain ⟨h1, h2⟩ := List.mem_filter.mp hd
      rcases nok d h1 with z | z
      · exact absurd z (by simpa using h2)
      · exact z
    have fl : ((ds.filter fun d => d.nm ≠ noName).map (·.nm)).length ≤ ds.length := by rw [List.length_map]; exact List.length_filter_le _ _
    generalize (ds.filter fun d => d.nm ≠ noName).map (·.nm) = nn at fn fl ⊢
    have s1 := qac hN0 (.lst (nn.map V.str))
    refine ⟨by show 1 ≤ sizeLine; decide, fun t ht => ?_⟩
    have s2 := s1.trans (qac ht (.lst [V.str (Str.ofString "nowhere")]))
    have e1 : upd (upd H' N0 (.lst (nn.map V.str))) t (.lst [V.str (Str.ofString "nowhere")]) N0 = some (.lst (nn.map V.str)) := (qac ht _) _ _ qab
    refine ⟨N0, t, _, _, rfl, rfl, e1, qab, ?_, fun N hN => ?_⟩
    · rw [List.length_map]
      exact Nat.le_of_lt (qak (by show nn.length + 1 ≤ 1000; omega))
    have eN : nn.map V.str ++ [V.str (Str.ofString "nowhere")] = (nn ++ [Str.ofString "nowhere"]).map V.str := by rw [List.map_append]; rfl
    rw [eN]
    have s3 := s2.trans (qac hN (.lst ((nn ++ [Str.ofString "nowhere"]).map V.str)))
    have hN3 : upd (upd (upd H' N0 (.lst (nn.map V.str))) t (.lst [V.str (Str.ofString "nowhere")])) N (.lst ((nn ++ [Str.ofString "nowhere"]).map V.str)) N = some (.lst ((nn ++ [Str.ofString "nowhere"]).map V.str)) := qab
    have mn : ∀ x ∈ nn ++ [Str.ofString "nowhere"], Name x := fun x hx => by
      rcases List.mem_append.mp hx with hx | hx
      · exact fn x hx
      · have : x = Str.ofString "nowhere" := by simpa using hx
        rw [this]; exact nowhere_name
    have ml : (nn ++ [Str.ofString "nowhere"]).length ≤ 1000 := by rw [List.length_append]; show nn.length + 1 ≤ 1000; omega
    have me : nn ++ [Str.ofString "nowhere"] ≠ [] := by simp
    generalize nn ++ [Str.ofString "nowhere"] = nx at hN3 mn ml me s3 ⊢
    generalize upd (upd (upd H' N0 (.lst (nn.map V.str))) t (.lst [V.str (Str.ofString "nowhere")])) N (.lst (nx.map V.str)) = H1 at hN3 s3 ⊢
    have G1 := G.same s3
    have nst : N ≠ st := qah (G.so.same s2).some hN
    have np : N ≠ p := qah ⟨_, s2 _ _ hp⟩ hN
    clear e1 s1 s2 eN hN ht hN0 fn fl
    refine ⟨by show 5 ≤ sizeLine; decide, fun t2 ht2 => ?_⟩
    have s4 := qac ht2 (.lst [V.int 0, V.int 0, V.int 1, V.int 0, V.int 2])
    refine ⟨_, rfl, st, 5, rfl, G1.so.same s4, by decide, by decide, fun r5 H5 r50 r51 S5 K5 => ?_⟩
    obtain ⟨n, n2, en⟩ := notes_at r50 r51
    refine ⟨t2, _, _, _, rfl, rfl, SqL.of (K5 _ _ (qah G1.so.some ht2) qab), en, ?_⟩
    have K15 : Keep1 st H1 H5 := s4.keep.trans K5
    have G5 := G1.keep1 K15 S5
    have hN5 := K15 _ _ nst hN3
    refine ⟨_, rfl, _, rfl, _, rfl, _, rfl, _, rfl, _, rfl, st, N, n, nx, rfl, S5, n2, nst, hN5, me, ml, mn, fun s6 its H6 pc sa S6 K6 => ?_⟩
    have G6 := G5.keep1 K6 S6
    refine ⟨_, rfl, H0, p, st, s6, e, k, its, ds, rfl, G6, sa.keep (N' := New H0 p) KeepN.refl fun b nb _ => G5.fresh nb, by omega, fun d H7 de dk dst dm dn G7 K7 => ?_⟩
    have hN7 := K7 _ _ ⟨nst, np⟩ (K6 _ _ nst hN5)
    have K17 : qbL st p H' H7 := ((s3.keep.trans K15.two).trans K6.two).trans K7
    refine ⟨_, rfl, _, rfl, by omega, by omega, qaI (fun i σ H8 => ∃ (nts : List Nd) (v : Option V), σ = [some (.ref p), some (.int e), some (.str k.s), some (.ref st), some (.ref N), some (.int n), some (.int ds.length), v] ∧ nts.length = i ∧ Gs H0 st p H8 (ds ++ (d :: nts)) ∧
      (∀ c ∈ nts, c.e = (ds.length : Int) ∧ c.k = .note ∧ Pieces 0 c.st ∧ qcx c.mks ∧ (c.nm = noName ∨ Name c.nm)) ∧ Names (ds ++ (d :: nts)) ∧ H8 N = some (.lst (nx.map V.str)) ∧ qbL st p H' H8)
      ⟨[], none, rfl, rfl, G7, (fun c hc => nomatch hc), qbo nms dn, hN7, K17⟩ ?_ ?_⟩
    · rintro i σ H8 hi ⟨nts, v, rfl, ln, G8, hc, na, hN8, K8⟩
      refine ⟨_, rfl, _, rfl, _, rfl, _, rfl, st, N, 0, nx, rfl, G8.so, by decide, nst, hN8, me, ml, mn, fun s9 its9 H9 pc9 sa9 S9 K9 => ?_⟩
      have G9 := G8.keep1 K9 S9
      have l9 : (ds ++ (d :: nts)).length ≤ 200 := by rw [List.length_append, List.length_cons]; omega
      refine ⟨_, rfl, H0, p, st, s9, (ds.length : Int), .note, its9, ds ++ (d :: nts), rfl, G9, sa9.keep (N' := New H0 p) KeepN.refl fun b nb _ => G8.fresh nb, l9, fun c HA ce ck cst cm cn GA KA => ?_⟩
      have ea : ds ++ (d :: nts) ++ [c] = ds ++ (d :: (nts ++ [c])) := by simp
      rw [ea] at GA
      refine ⟨nts ++ [c], _, rfl, by rw [List.length_append, ln]; rfl, GA, fun c' hc' => ?_, by rw [← ea]; exact qbo na cn, KA _ _ ⟨nst, np⟩ (K9 _ _ nst hN8), (K8.trans K9.two).trans KA⟩
      rcases List.mem_append.mp hc' with h | h
      · exact hc c' h
      · have : c' = c := by simpa using h
        subst this
        exact ⟨ce, ck, by rw [cst]; exact pc9, cm, cn.or⟩
    · rintro σ H8 ⟨nts, v, rfl, ln, G8, hc, na, hN8, K8⟩
      refine q (d :: nts) H8 (text_more hk hlv de dk (by rw [dst]; exact pc) dm dn (by omega) hc na) ?_ G8 K8
      rw [List.length_cons]
      omega
end
end K14
namespace K14
open PySem L2 Bk Gen
section
variable {P : Program} {w : World} {K : PySem.W.Frag} {mg : Str → Option Value} {base : Heap}
theorem scItem : FnScope ["_law_nodes", "_law_elder", "_law_level", "_law_room", "_law_stream_here", "_law_kinds", "_law_sides", "_law_kind", "_law_at", "_law_k"] ["_law_nodes", "_law_elder", "_law_level", "_law_room", "_law_stream_here"] (qag sItem) := ⟨rfl, rfl, rfl, by decide +kernel, rfl, by decide +kernel, by decide +kernel⟩
theorem qcS {f : Addr} {fd : FuncData} {n : Nat} (F : Fun K "_law_item" "_law_item" sItem f fd) (T : Bn mg) (F_take : Fx P w K mg base CX0 1 "_law_take" ["_law_stream_here", "_law_most"] spTake) (F_add : Fx P w K mg base CX0 4 "_law_add" ["_law_nodes", "_law_elder", "_law_kind", "_law_stuff", "_law_stream_here"] spAdd) (F_text : Fx P w K mg base CX0 5 "_law_text" ["_law_nodes", "_law_elder", "_law_kind", "_law_stream_here"] spText)
    (F_item : Fx P w K mg base CX0 (6 + n) "_law_item" ["_law_nodes", "_law_elder", "_law_level", "_law_room", "_law_stream_here"] (qbM n)) : FnOk P w K mg base CX0 (6 + n + 1) f fd ["_law_nodes", "_law_elder", "_law_level", "_law_room", "_law_stream_here"] (qbM (n + 1)) := by
  refine F.ok scItem (fun vs H Q E h => ?_) (fun cdv A outer s H vs Q E hr h => ?_)
  · obtain ⟨H0, p, st, e, lv, R, de, ds, rfl, _⟩ := h
    rfl
  · obtain ⟨H0, p, st, e, lv, R, de, ds, rfl, G, hde, hct, l1, l4, hn, R1, R12, hlen, nok, nms, q⟩ := h
    have hr_take : Room 1 _ := hr.mono (by omega)
    have hr_add : Room 4 _ := hr.mono (by omega)
    have hr_text : Room 5 _ := hr.mono (by omega)
    have hr_item := hr
    refine ⟨_, (qad (qap (i := 5) scItem.nd (by rfl) (by trivial) (qaA (qaa qam (qaa qam (qaa qam (qaa qam (qaa qam (qaa qam (qaa qam (qaa qam pa_nil))))))))))
      (qad (qap (i := 6) scItem.nd (by rfl) (by trivial) (qe6 (qbk op_eq (qaj ix_tup (qaj ix_list (pv 0) (pv 1) (fun _ _ => rfl)) qae (fun _ _ => rfl)) qam (qas _)) (qeT (qbk op_eq (qaj ix_tup (qaj ix_list (pv 0) (pv 1) (fun _ _ => rfl)) qae (fun _ _ => rfl)) qam (qas _)))))
      (qad (qap (i := 7) scItem.nd (by rfl) (by trivial) (qaj ix_list (pv 5) (qar F_take hr_take (by rfl) qaq (qaa (pv 4) (qaa (qaj ix_list (qaA (qaa qae (qaa qae pa_nil))) (qaP call_int1 (by rfl) T.int b_int (qaa (pv 6) pa_nil)) (fun _ _ => rfl)) pa_nil))) (fun _ _ => rfl)))
      (qad (qaK (PW.pt (qcw (PW.pt (qbn (qal op_eq (pv 7) qam (qas _)) (qa7 (qal op_eq (qaj ix_tup (qaj ix_list (pv 0) (pv 1) (fun _ _ => rfl)) qae (fun _ _ => rfl)) qam (qas _))))) (qbX (PW.pt (qbn (qal op_gt (pv 2) qae (qas _)) (qa7 (qal op_notIn_seq (pv 7) (qaA (qaa qam (qaa qam (qaa qam pa_nil)))) (by with_unfolding_all rfl)))))))) (qaf (qap (i := 7) scItem.nd (by rfl) (by trivial) qam)) pss_nil)
      (qad (qaK (PW.pt (qbn (qal op_ge (qaB call_len_seq (by rfl) T.len b_len (qaa (pv 0) pa_nil)) (pv 3) (qas _)) (qa7 (qal op_notIn_seq (pv 7) (qaA (qaa qam (qaa qam (qaa qam pa_nil)))) (by with_unfolding_all rfl))))) (qaf (qap (i := 7) scItem.nd (by rfl) (by trivial) qam)) pss_nil)
      (qad (qaK (PW.pt (qcw (qal op_eq (pv 7) qam (qas _)) (qbX (qal op_eq (pv 7) qam (qas _))))) (qaf (qaN (qar F_text hr_text (by rfl) qaq (qaa (pv 0) (qaa (pv 1) (qaa (pv 7) (qaa (pv 4) pa_nil))))))) (qaf (qaK (qal op_eq (pv 7) qam (qas _)) (qaf (qaN (qar F_add hr_add (by rfl) qaq (qaa (pv 0) (qaa (pv 1) (qaa (pv 7) (qaa (qaA (qaa (qaw op_add qae (qar F_take hr_take (by rfl) qaq (qaa (pv 4) (qaa qae pa_nil)))) (qaa (qaw op_add qae (qar F_take hr_take (by rfl) qaq (qaa (pv 4) (qaa qae pa_nil)))) pa_nil))) (qaa (pv 4) pa_nil)))))))) (qad (qap (i := 8) scItem.nd (by rfl) (by trivial) (qar F_add hr_add (by rfl) qaq (qaa (pv 0) (qaa (pv 1) (qaa (pv 7) (qaa (qaA pa_nil) (qaa (pv 4) pa_nil)))))))
      (qaf (qa4 PassesOwn.never (by rfl) (qaD (by rfl) T.range (qaa (qaw op_add (qar F_take hr_take (by rfl) qaq (qaa (pv 4) (qaa qae pa_nil))) (qaP call_int1 (by rfl) T.int b_int (qaa (qbk op_ne (pv 7) qam (qas _)) pa_nil))) pa_nil)) (qan (i := 9) scItem.nd (by rfl) (by trivial))
      (qaf (qaN (qar F_item hr_item (by rfl) qaq (qaa (pv 0) (qaa (pv 8) (qaa (qaw op_add (pv 2) qae) (qaa (pv 3) (qaa (pv 4) pa_nil))))))))))))))
      (qaf (qaK (qal op_eq (pv 7) qam (qas _)) (qaf (qaN (qar F_text hr_text (by rfl) qaq (qaa (pv 0) (qaa (pv 1) (qaa qam (qaa (pv 4) pa_nil))))))) pss_nil)))))))), ?_⟩
    try dsimp only [cxOf, Cx.nox]
    refine ⟨by show 8 ≤ sizeLine; decide, fun kl hkl => ?_⟩
    have s1 := qac hkl (.lst (kindsL.map fun k => V.str k.s))
    have G1 := G.same s1
    have hk1 : upd H kl (.lst (kindsL.map fun k => V.str k.s)) kl = some (.lst (kindsL.map fun k => V.str k.s)) := qab
    have kst : kl ≠ st := qah G.so.some hkl
    have kp : kl ≠ p := qah G.psome hkl
    have K1 : qbL st p H (upd H kl (.lst (kindsL.map fun k => V.str k.s))) := s1.keep
    dsimp only [qaS]
    show tSeq _ _ _ [some (.ref p), some (.int e), some (.int lv), some (.int R), some (.ref st), some (.ref kl), none, none, none, none] (upd H kl (.lst (kindsL.map fun k => V.str k.s)))
    generalize upd H kl (.lst (kindsL.map fun k => V.str k.s)) = H1 at s1 G1 hk1 K1 ⊢
    obtain ⟨as, hp, nd⟩ := G1.bk
    obtain ⟨a, ea, na⟩ := nd.get hde
    obtain ⟨m, s', ha, _⟩ := na.ex
    refine qbF (fun σ' H' => ∃ sd : Bool, σ' = [some (.ref p), some (.int e), some (.int lv), some (.int R), some (.ref st), some (.ref kl), some (.bl sd), none, none, none] ∧ H1 = H' ∧ (sd = true ↔ de.k = .shelf ∨ de.k = .grid)) (fun D' hD => ?_) ?_
    · refine ⟨_, rfl, _, rfl, p, _, _, _, rfl, rfl, SqL.of hp, qaz ea, a, _, _, _, rfl, rfl, SqT.of ha, rfl, rfl, _, rfl, ?_⟩
      rw [show decide (V.str de.k.s = V.str (Str.ofString "shelf")) = decide (de.k = .shelf) from kdt de.k .shelf]
      refine ite2 (fun c => ?_) (fun c => ?_)
      · exact hD _ _ ⟨true, rfl, rfl, ⟨fun _ => .inl (of_decide_eq_true c), fun _ => rfl⟩⟩
      · refine ⟨_, rfl, _, rfl, p, _, _, _, rfl, rfl, SqL.of hp, qaz ea, a, _, _, _, rfl, rfl, SqT.of ha, rfl, rfl, ?_⟩
        rw [show decide (V.str de.k.s = V.str (Str.ofString "grid")) = decide (de.k = .grid) from kdt de.k .grid]
        refine hD _ _ ⟨decide (de.k = .grid), rfl, rfl, ⟨fun z => .inr (of_decide_eq_true z), fun z => ?_⟩⟩
        rcases z with z | z
        · exact absurd (decide_eq_true z) c
        · exact decide_eq_true z
    rintro _ _ ⟨sd, rfl, rfl, hsd⟩
    refine qbF (fun σ' H' => ∃ k : Kd, σ' = [some (.ref p), some (.int e), some (.int lv), some (.int R), some (.ref st), some (.ref kl), some (.bl sd), some (.str k.s), none, none] ∧ Keep1 st H1 H' ∧ StOk H' st ∧ qe1 de.k k) (fun D' hD => ?_) ?_
    · refine ⟨_, rfl, _, rfl, by show 2 ≤ sizeLine; decide, fun t ht => ?_⟩
      have s2 := qac ht (.lst [V.int 8, V.int 6])
      refine ⟨_, rfl, .inr ⟨sd, rfl, t, _, _, _, rfl, rfl, SqL.of qab, eight_six sd, st, _, rfl, G1.so.same s2, by split <;> decide, by split <;> decide, fun r H3 r0 r1 S3 K3 => ?_⟩⟩
      have r8 : r < 8 := by revert r1; split <;> omega
      obtain ⟨k, ek, hk⟩ := kinds_at r0 r8
      refine ⟨kl, _, _, _, rfl, rfl, SqL.of (K3 _ _ kst (s2 _ _ hk1)), ek, ?_⟩
      exact hD _ _ ⟨k, rfl, s2.keep.trans K3, S3, kind0_of hct hsd r1 hk⟩
    rintro _ H3 ⟨k0, rfl, K13, S3, hk0⟩
    have G3 := G1.keep1 K13 S3
    have K03 : qbL st p H H3 := K1.trans K13.two
    obtain ⟨as3, hp3, nd3⟩ := G3.bk
    obtain ⟨a3, ea3, na3⟩ := nd3.get hde
    obtain ⟨m3, s3', ha3, _⟩ := na3.ex
    refine qbF (fun σ' H' => ∃ k : Kd, σ' = [some (.ref p), some (.int e), some (.int lv), some (.int R), some (.ref st), some (.ref kl), some (.bl sd), some (.str k.s), none, none] ∧ Same H3 H' ∧ mayHold de.k k = true ∧ (3 < lv → Leaf k) ∧ (k = .text ∨ k = .picture ∨ k = .case ∨ k = .shelf ∨ k = .grid ∨ k = .head ∨ k = .aside)) (fun D' hD => ?_) ?_
    · refine qbj (fun b H' => Same H3 H' ∧ (b = false → mayHold de.k k0 = true ∧ (3 < lv → Leaf k0))) (fun Q' hQ => ?_) (fun b H' hb => ?_)
      · refine ⟨_, rfl, rfl, _, rfl, ?_⟩
        rw [show decide (V.str k0.s = V.str (Str.ofString "aside")) = decide (k0 = .aside) from kdt k0 .aside]
        have second : ∀ (b1 : Bool), (b1 = false → mayHold de.k k0 = true) → if b1 = true then Q' true H3 else tAnd (qe3 (tOp (rI0 fun i j => .bl (decide (j < i))) (tVar 2) (tC (.int 3)))) (qe3 (tOp (rIn K true) (tVar 7) (tLst (qbG (tC (.str (Str.ofString "text"))) (qbG (tC (.str (Str.ofString "head"))) (qbG (tC (.str (Str.ofString "picture"))) tNil))))))
            [some (.ref p), some (.int e), some (.int lv), some (.int R), some (.ref st), some (.ref kl), some (.bl sd), some (.str k0.s), none, none] H3 Q' := by
          intro b1 hm
          cases b1 with
          | true => exact iteT (hQ _ _ ⟨Same.refl _, (fun z => nomatch z)⟩)
          | false =>
            refine iteF ⟨_, rfl, _, _, rfl, rfl, _, rfl, ?_⟩
            refine ite2 (fun c => ?_) (fun c => ?_)
            · refine ⟨_, rfl, by show 3 ≤ sizeLine; decide, fun t ht => ⟨t, leafL.map (fun k => V.str k.s), rfl, .inl (SqL.of qab), rfl, rfl, _, rfl, ?_⟩⟩
              refine hQ _ _ ⟨qac ht _, fun z => ⟨hm rfl, fun _ => ?_⟩⟩
              rw [if_pos rfl, qdK] at z
              simpa using z
            · exact hQ _ _ ⟨Same.refl _, fun _ => ⟨hm rfl, fun z => absurd (decide_eq_true (show (3 : Int) < (lv : Int) by omega)) c⟩⟩
        refine ite2 (fun c => ?_) (fun c => ?_)
        · refine ⟨_, rfl, _, rfl, p, _, _, _, rfl, rfl, SqL.of hp3, qaz ea3, a3, _, _, _, rfl, rfl, SqT.of ha3, rfl, rfl, _, rfl, ?_⟩
          rw [show decide (V.str de.k.s = V.str (Str.ofString "aside")) = decide (de.k = .aside) from kdt de.k .aside]
          refine second _ fun z => ?_
          rcases hk0.1 with y | y
          · exact y
          · exact absurd y.2 (of_decide_eq_false z)
        · refine second false fun _ => ?_
          rcases hk0.1 with y | y
          · exact y
          · exact absurd (decide_eq_true y.1) c
      · obtain ⟨sb, hb⟩ := hb
        cases b with
        | true => exact iteT (hD _ _ ⟨.text, rfl, sb, qdL hct, (fun _ => .inl rfl), .inl rfl⟩)
        | false => exact iteF (hD _ _ ⟨k0, rfl, sb, (hb rfl).1, (hb rfl).2, hk0.2⟩)
    rintro _ H4 ⟨k1, rfl, s34, may1, lv1, one1⟩
    have G4 := G3.same s34
    have K04 : qbL st p H H4 := K03.trans s34.keep
    obtain ⟨as4, hp4, nd4⟩ := G4.bk
    have len4 : as4.length = ds.length := nd4.length
    refine qbF (fun σ' H' => ∃ k : Kd, σ' = [some (.ref p), some (.int e), some (.int lv), some (.int R), some (.ref st), some (.ref kl), some (.bl sd), some (.str k.s), none, none] ∧ Same H4 H' ∧ Kind2 de.k k lv R ds.length) (fun D' hD => ?_) ?_
    · refine qbj (fun b H' => Same H4 H' ∧ (b = false → R ≤ ds.length → Leaf k1)) (fun Q' hQ => ?_) (fun b H' hb => ?_)
      · refine ⟨_, rfl, p, _, rfl, .inl (SqL.of hp4), _, rfl, _, _, rfl, rfl, _, rfl, ?_⟩
        refine ite2 (fun c => ?_) (fun c => ?_)
        · refine ⟨_, rfl, by show 3 ≤ sizeLine; decide, fun t ht => ⟨t, leafL.map (fun k => V.str k.s), rfl, .inl (SqL.of qab), rfl, rfl, _, rfl, ?_⟩⟩
          refine hQ _ _ ⟨qac ht _, fun z _ => ?_⟩
          rw [if_pos rfl, qdK] at z
          simpa using z
        · refine hQ _ _ ⟨Same.refl _, fun _ z => absurd (decide_eq_true ?_) c⟩
          rw [List.length_map, len4]
          omega
      · obtain ⟨sb, hb⟩ := hb
        cases b with
        | true => exact iteT (hD _ _ ⟨.picture, rfl, sb, may_picture hct, (fun _ => .inr (.inr rfl)), (fun _ => .inr (.inr rfl)), .inr (.inl rfl)⟩)
        | false => exact iteF (hD _ _ ⟨k1, rfl, sb, may1, lv1, hb rfl, one1⟩)
    rintro _ H5 ⟨k2, rfl, s45, hk2⟩
    have G5 := G4.same s45
    have K05 : qbL st p H H5 := K04.trans s45.keep
    have notA : ∀ (k : Kd), k ≠ .aside → decide (V.str k.s = V.str (Str.ofString "aside")) = false := fun k hk => by
      rw [show decide (V.str k.s = V.str (Str.ofString "aside")) = decide (k = .aside) from kdt k .aside]
      exact decide_eq_false hk
    refine qbF (fun σ' H' => ∃ (more : List Nd) (v8 v9 : Option V), σ' = [some (.ref p), some (.int e), some (.int lv), some (.int R), some (.ref st), some (.ref kl), some (.bl sd), some (.str k2.s), v8, v9] ∧ More e lv ds more [k2] ∧ (R ≤ ds.length → more.length ≤ 3) ∧ (ds.length < R → ds.length + more.length + (if k2 = .aside then 3 else 0) ≤ cap R lv) ∧ ds.length + more.length ≤ 103 ∧ (k2 = .aside → ds.length < R) ∧ Gs H0 st p H' (ds ++ more) ∧ qbL st p H5 H') (fun D' hD => ?_) ?_
    · have texts : (k2 = .text ∨ k2 = .head) → spText ([.ref p, .int e, .str k2.s, .ref st] ++ []) H5 (fun _ H' => D'.nx [some (.ref p), some (.int e), some (.int lv), some (.int R), some (.ref st), some (.ref kl), some (.bl sd), some (.str k2.s), none, none] H') E0 := fun hk => by
        have na : k2 ≠ .aside := by rcases hk with rfl | rfl <;> decide
        refine ⟨H0, p, st, e, lv, k2, ds, rfl, G5, hk, by omega, by omega, nok, nms, fun more H6 mo m3 G6 K6 => ?_⟩
        refine hD _ _ ⟨more, none, none, rfl, mo, (fun _ => m3), (fun z => ?_), by omega, (fun z => absurd z na), G6, K6⟩
        rw [if_neg na]
        have := qdP (R := R) (lv := lv) z
        omega
      refine ⟨_, rfl, rfl, _, rfl, ?_⟩
      rw [show decide (V.str k2.s = V.str (Str.ofString "text")) = decide (k2 = .text) from kdt k2 .text]
      refine ite2 (fun c => ?_) (fun c => ?_)
      · exact iteT ⟨_, rfl, _, rfl, _, rfl, _, rfl, texts (.inl (of_decide_eq_true c))⟩
      refine ⟨_, rfl, rfl, _, rfl, ?_⟩
      rw [show decide (V.str k2.s = V.str (Str.ofString "head")) = decide (k2 = .head) from kdt k2 .head]
      refine ite2 (fun c2 => ?_) (fun c2 => ?_)
      · exact ⟨_, rfl, _, rfl, _, rfl, _, rfl, texts (.inr (of_decide_eq_true c2))⟩
      refine ⟨_, rfl, rfl, _, rfl, ?_⟩
      rw [show decide (V.str k2.s = V.str (Str.ofString "picture")) = decide (k2 = .picture) from kdt k2 .picture]
      refine ite2 (fun c3 => ?_) (fun c3 => ?_)
      · -- a picture
        have hkp : k2 = .picture := of_decide_eq_true c3
        refine ⟨_, rfl, _, rfl, _, rfl, _, rfl, st, 60, rfl, G5.so, by decide, by decide, fun r6 H6 r60 r61 S6 K6 => ⟨_, _, rfl, rfl, _, rfl, st, 60, rfl, S6, by decide, by decide, fun r7 H7 r70 r71 S7 K7 => ⟨_, _, rfl, rfl, by show 2 ≤ sizeLine; decide, fun t ht => ?_⟩⟩⟩
        have s8 := qac ht (.lst [.int (1 + r6), .int (1 + r7)])
        have K58 : Keep1 st H5 _ := (K6.trans K7).trans s8.keep
        have G8 := G5.keep1 K58 (S7.same s8)
        refine ⟨_, rfl, H0, p, st, t, e, k2, [.int (1 + r6), .int (1 + r7)], ds, rfl, G8, ⟨(G5.keep1 (K6.trans K7) S7).fresh ht, _, qab, .cons rfl (.cons rfl .nil)⟩, by omega, fun d H9 de' dk dst dm dn G9 K9 => ?_⟩
        refine hD _ _ ⟨[d], none, none, rfl, by rw [hkp] at dk ⊢; exact pic_more de' (by omega) dk dst ⟨by omega, by omega⟩ ⟨by omega, by omega⟩ dm dn nms, (fun _ => by simp), (fun z => ?_), by simp; omega, (fun z => by rw [hkp] at z; cases z), G9, K58.two.trans K9⟩
        rw [hkp, if_neg (by decide)]
        have := qdP (R := R) (lv := lv) z
        simp
        omega
      · -- a box
        have hb : k2 = .case ∨ k2 = .shelf ∨ k2 = .grid ∨ k2 = .aside := by
          have n1 : k2 ≠ .text := fun z => c (decide_eq_true z)
          have n2 : k2 ≠ .head := fun z => c2 (decide_eq_true z)
          have n3 : k2 ≠ .picture := fun z => c3 (decide_eq_true z)
          rcases hk2.one with h | h | h | h | h | h | h <;> simp_all
        have nl : ¬ Leaf k2 := by rcases hb with h | h | h | h <;> rw [h] <;> decide
        have lv3 : lv ≤ 3 := Nat.le_of_not_lt fun z => nl (hk2.lvl z)
        have hR : ds.length < R := Nat.lt_of_not_le fun z => nl (hk2.room z)
        have ct2 : Cont k2 := by rcases hb with h | h | h | h <;> rw [h] <;> simp [Cont]
        refine ⟨_, rfl, _, rfl, _, rfl, by show 0 ≤ sizeLine; decide, fun t ht => ?_⟩
        have s6 := qac ht (.lst [])
        refine ⟨_, rfl, H0, p, st, t, e, k2, [], ds, rfl, G5.same s6, ⟨G5.fresh ht, _, qab, .nil⟩, by omega, fun d H7 de' dk dst dm dn G7 K7 => ?_⟩
        have K57 : qbL st p H5 H7 := s6.keep.trans K7
        refine ⟨_, rfl, st, 3, rfl, G7.so, by decide, by decide, fun r8 H8 r80 r81 S8 K8 => ⟨_, rfl, rfl, .inr ⟨_, rfl, _, _, rfl, rfl, ?_⟩⟩⟩
        rw [show decide (V.str k2.s = V.str (Str.ofString "case")) = decide (k2 = .case) from kdt k2 .case]
        have G8 := G7.keep1 K8 S8
        have cnt : ∃ c : Nat, r8 + (if (!decide (k2 = Kd.case)) = true then 1 else 0) = (c : Int) ∧ c ≤ 3 ∧ (k2 ≠ .case → 1 ≤ c) := by
          refine ⟨(r8 + (if (!decide (k2 = Kd.case)) = true then 1 else 0)).toNat, ?_, ?_, fun z => ?_⟩
          · split <;> omega
          · split <;> omega
          · rw [decide_eq_false z]
            simp
            omega
        obtain ⟨c, ec, c3', c1⟩ := cnt
        refine ⟨(c : Int), congrArg (fun z => [V.int z]) ec, by omega, by omega, qaI (fun j σ H9 => ∃ (sub : List Nd) (ks : List Kd) (v : Option V), σ = [some (.ref p), some (.int e), some (.int lv), some (.int R), some (.ref st), some (.ref kl), some (.bl sd), some (.str k2.s), some (.int ds.length), v] ∧ Kids ds.length lv k2 (ds ++ [d]) sub ks ∧ (0 < j → ks ≠ []) ∧ CapB R lv j (ds.length + 1 + sub.length) ∧ Gs H0 st p H9 (ds ++ [d] ++ sub) ∧ qbL st p H5 H9)
          ⟨[], [], none, rfl, ⟨.nil, (fun d hd => nomatch hd), by rw [List.append_nil]; exact qbo nms dn, by rw [List.append_nil]; exact nms_push nok dn, (fun c hc => nomatch hc), trivial⟩, (fun z => absurd z (Nat.lt_irrefl 0)), .inl (by simp; omega), by rw [List.append_nil]; exact G8, K57.trans K8.two⟩ ?_ ?_⟩
        · rintro j σ H9 hj ⟨sub, ks, v, rfl, kids, hks, cb, G9, K9⟩
          have j3 : j < 3 := by simp at hj; omega
          have l9 : (ds ++ [d] ++ sub).length = ds.length + 1 + sub.length := by rw [List.length_append, List.length_append]; rfl
          have le60 := qeb cb (by omega) R12
          refine ⟨_, rfl, _, rfl, _, rfl, _, _, rfl, rfl, _, rfl, _, rfl, H0, p, st, ds.length, lv + 1, R, d, ds ++ [d] ++ sub, rfl, G9, ?_, by rw [dk]; exact ct2, by omega, by omega, by omega, R1, R12, by omega, kids.ok, kids.nm, fun more ks' HA mo ik m3 mc GA KA => ?_⟩
          · rw [List.append_assoc, List.getElem?_append_right (Nat.le_refl _)]
            simp
          rw [dk] at ik
          refine ⟨sub ++ more, ks ++ ks', _, rfl, kids.more l9 mo ik, (fun _ => by have := ik.ne; simp [this]), ?_, by rw [← List.append_assoc]; exact GA, K9.trans KA⟩
          refine qdn cb (fun z => ?_) (fun z => ?_)
          · have := m3 (by omega)
            rw [List.length_append]
            omega
          · have := mc (by omega)
            rw [List.length_append]
            omega
        · rintro σ H9 ⟨sub, ks, v, rfl, kids, hks, cb, G9, K9⟩
          have cc : ((c : Int)).toNat ≤ 3 := by simpa using c3'
          have cb' := capB_end cb cc l1 lv3
          have le60 := qeb cb cc R12
          have ee : ds ++ (d :: sub) = ds ++ [d] ++ sub := by simp
          refine hD _ _ ⟨d :: sub, _, v, rfl, ?_, (fun z => absurd z (by omega)), (fun _ => ?_), by rw [List.length_cons]; omega, (fun _ => hR), by rw [ee]; exact G9, K9⟩
          · have := box_more (lv := lv) de' (by omega) (by rw [dk]; exact hb) dst dm dn (by rw [dk]; exact kids) (by rw [dk]; exact fun z => hks (by have := c1 z; simp; omega))
            rw [dk] at this
            exact this
          · rw [List.length_cons]
            split <;> omega
    rintro _ H6 ⟨more, v8, v9, rfl, mo, m3, mc, ml, hA, G6, K6⟩
    have K06 : qbL st p H H6 := K05.trans K6
    refine ⟨_, rfl, rfl, _, rfl, ?_⟩
    rw [show decide (V.str k2.s = V.str (Str.ofString "aside")) = decide (k2 = .aside) from kdt k2 .aside]
    refine ite2 (fun c => ?_) (fun c => ?_)
    · have hk : k2 = .aside := of_decide_eq_true c
      refine ⟨_, rfl, _, rfl, _, rfl, H0, p, st, e, lv, .text, ds ++ more, rfl, G6, .inl rfl, by rw [List.length_append]; omega, by omega, mo.nms nok, mo.nm, fun more' H7 mo' m3' G7 K7 => ?_⟩
      have hR := hA hk
      have mc' := mc hR
      rw [if_pos hk] at mc'
      refine q (more ++ more') ([k2] ++ [.text]) H7 (mo.cat mo') (.inr ⟨by rw [hk]; rfl, by rw [← hk]; exact hk2.may, qdL hct⟩) (fun z => absurd z (by omega)) (fun _ => by rw [List.length_append]; omega) (by rw [← List.append_assoc]; exact G7) (K06.trans K7)
    · have hk : k2 ≠ .aside := fun z => c (decide_eq_true z)
      refine q more [k2] H6 mo (.inl ⟨k2, rfl, hk, hk2.may⟩) m3 (fun z => ?_) G6 K06
      have := mc z
      rw [if_neg hk] at this
      omega
end
end K14
namespace K14
open PySem L2 Bk Gen
section
variable {P : Program} {w : World} {K : PySem.W.Frag} {mg : Str → Option Value} {base : Heap}
theorem scBook : FnScope ["_law_stream_here", "_law_many", "_law_room", "_law_nodes", "_law_k"] ["_law_stream_here", "_law_many", "_law_room"] (qag sBook) := ⟨rfl, rfl, rfl, by decide +kernel, rfl, by decide +kernel, by decide +kernel⟩
theorem ok_book {f : Addr} {fd : FuncData} (F : Fun K "_law_book" "_law_book" sBook f fd) (T : Bn mg) (F_text : Fx P w K mg base CX0 5 "_law_text" ["_law_nodes", "_law_elder", "_law_kind", "_law_stream_here"] spText) (F_item : Fx P w K mg base CX0 10 "_law_item" ["_law_nodes", "_law_elder", "_law_level", "_law_room", "_law_stream_here"] (qbM 4)) : FnOk P w K mg base CX0 11 f fd ["_law_stream_here", "_law_many", "_law_room"] spBook := by
  refine F.ok scBook (fun vs H Q E h => ?_) (fun cdv A outer s H vs Q E hr h => ?_)
  · obtain ⟨st, m, R, rfl, _⟩ := h
    rfl
  · obtain ⟨st, m, R, rfl, S, m1, m4, R1, R12, q⟩ := h
    have hr_text : Room 5 _ := hr.mono (by decide)
    have hr_item := hr
    have hu := hr.units
    refine ⟨_, (qad (qap (i := 3) scBook.nd (by rfl) (by trivial) (qaA (qaa (qaC (qaa (qcu un_neg qae) (qaa qam (qaa qam (qaa (qaA pa_nil) (qaa (qaA pa_nil) pa_nil)))))) pa_nil)))
      (qad (qa4 PassesOwn.never (by rfl) (qaD (by rfl) T.range (qaa (pv 1) pa_nil)) (qan (i := 4) scBook.nd (by rfl) (by trivial))
      (qaf (qaN (qar F_item hr_item (by rfl) qaq (qaa (pv 3) (qaa qae (qaa qae (qaa (pv 2) (qaa (pv 0) pa_nil)))))))))
      (qad (qaK (qal (qdV hu) (qa0 (own := ["_law_row_here"]) (by rfl) (CompScope.plain (by rfl) (by decide +kernel) (by decide +kernel) (by decide +kernel)) (qa2 (pv 3)) (fun cl C s2 H2 fp => (qan (i := 0) (by show (["_law_row_here"] : List Str).Nodup; decide +kernel) (by rfl) (by trivial) (by trivial))) (fun cl C s2 H2 fp => (qbw (PW.pt (qbn (qal op_eq (qaj (r := rIxT K) ix_tup (pv 0) qae (fun _ _ => rfl)) qae (qas _)) (qa7 (qal op_ne (qaj (r := rIxT K) ix_tup (pv 0) qae (fun _ _ => rfl)) qam (qas _))))))) (fun cl C s2 H2 fp => (pv 0))) (qaA pa_nil) (qas _)) (qaf (qaN (qar F_text hr_text (by rfl) qaq (qaa (pv 3) (qaa qae (qaa qam (qaa (pv 0) pa_nil))))))) pss_nil)
      (qaf (qau (qaw op_cat (qaR sl_list (pv 3) po_none (qaW qae)) (qaR sl_list (pv 3) (qaW qae) po_none))))))), ?_⟩
    try dsimp only [cxOf, Cx.nox]
    refine ⟨_, rfl, by show 0 ≤ sizeLine; decide, fun mk hmk => ⟨by show 0 ≤ sizeLine; decide, fun sf hsf => ⟨by show 5 ≤ sizeLine; decide, fun a ha => ⟨by show 1 ≤ sizeLine; decide, fun p hp => ?_⟩⟩⟩⟩
    have s1 := qac hmk (.lst [])
    have s2 := qac hsf (.lst [])
    have s3 := qac ha (.tup [.int (-1), .str (Str.ofString "body"), .str (Str.ofString ""), .ref mk, .ref sf])
    have s4 := qac hp (.lst [V.ref a])
    have s14 : Same H _ := ((s1.trans s2).trans s3).trans s4
    have fr : ∀ {H' : Hp} {b : Addr}, Same H H' → H' b = none → H b = none := fun ss hb => ss.free hb
    have hp0 : H p = none := ((s1.trans s2).trans s3).free hp
    have G1 : Gs H st p (upd (upd (upd (upd H mk (.lst [])) sf (.lst [])) a (.tup [.int (-1), .str (Str.ofString "body"), .str (Str.ofString ""), .ref mk, .ref sf])) p (.lst [V.ref a])) [bodyNd] := by
      refine ⟨S.same s14, S.some, hp0, s14.keep, [a], qab, .cons ⟨⟨(s1.trans s2).free ha, ne_of (s4 _ _ qab) qab (by intro z; cases z)⟩, mk, sf, s4 _ _ qab, ⟨hmk, qah ⟨_, (s2.trans s3) _ _ qab⟩ hp |>.symm⟩, (s2.trans (s3.trans s4)) _ _ qab, ⟨s1.free hsf, (qah ⟨_, s3 _ _ qab⟩ hp).symm⟩, [], (s3.trans s4) _ _ qab, .nil⟩ .nil⟩
    generalize upd (upd (upd (upd H mk (.lst [])) sf (.lst [])) a (.tup [.int (-1), .str (Str.ofString "body"), .str (Str.ofString ""), .ref mk, .ref sf])) p (.lst [V.ref a]) = H1 at G1 s14 ⊢
    refine ⟨_, rfl, _, rfl, by omega, by omega, qaI (fun j σ H2 => ∃ (sub : List Nd) (ks : List Kd) (v : Option V), σ = [some (.ref st), some (.int m), some (.int R), some (.ref p), v] ∧ Kids 0 0 .body [bodyNd] sub ks ∧ (0 < j → ∃ k ∈ ks, k ≠ .aside) ∧ CapB R 0 j (1 + sub.length) ∧ Gs H st p H2 (bodyNd :: sub))
      ⟨[], [], none, rfl, kids0, (fun z => absurd z (Nat.lt_irrefl 0)), .inl (by simp; omega), G1⟩ ?_ ?_⟩
    · rintro j σ H2 hj ⟨sub, ks, v, rfl, kids, hks, cb, G2⟩
      have j4 : j < 4 := by simp at hj; omega
      have le60 : 1 + sub.length ≤ 60 := by
        unfold CapB cap at cb
        simp at cb
        omega
      refine ⟨_, rfl, _, rfl, _, rfl, H, p, st, 0, 1, R, bodyNd, bodyNd :: sub, rfl, G2, rfl, .inl rfl, by decide, by decide, by decide, R1, R12, by rw [List.length_cons]; omega, kids.ok, kids.nm, fun more ks' H3 mo ik m3 mc G3 K3 => ?_⟩
      refine ⟨sub ++ more, ks ++ ks', _, rfl, kids.more (by show (bodyNd :: sub).length = 0 + 1 + sub.length; rw [List.length_cons]; omega) mo ik, (fun _ => ?_), ?_, G3⟩
      · obtain ⟨k, hk, nk⟩ := ik.block
        exact ⟨k, List.mem_append_right _ hk, nk⟩
      · refine qdn cb (fun z => ?_) (fun z => ?_)
        · have := m3 (by rw [List.length_cons]; omega)
          rw [List.length_append]
          omega
        · have := mc (by rw [List.length_cons]; omega)
          rw [List.length_cons] at this
          rw [List.length_append]
          show 1 + (sub.length + more.length) ≤ cap R 1
          omega
    · rintro σ H2 ⟨sub, ks, v, rfl, kids, hks, cb, G2⟩
      obtain ⟨kb, mkb, nkb⟩ := hks (by simp; omega)
      have le : 1 + sub.length ≤ R + 39 := by
        unfold CapB cap at cb
        simp at cb
        omega
      have fms : ∀ d ∈ bodyNd :: sub, Form d := fun d hd => by
        rcases List.mem_cons.mp hd with rfl | h
        · exact body_form
        · exact kids.fm d h
      obtain ⟨as, hp2, nd⟩ := G2.bk
      have lenas : as.length = 1 + sub.length := by rw [nd.length, List.length_cons]; omega
      have zl : (as.map V.ref).length < sizeLine := by rw [List.length_map]; exact qak (by omega)
      refine ⟨_, rfl, p, rfl, ⟨_, SqL.of hp2⟩, qaO (fun i ys σ' H3 => H3 = H2 ∧ (∃ z, σ' = [z]) ∧ ∃ (bs : List Addr) (es : List Nd), ys = bs.map V.ref ∧ bs.length ≤ i ∧ NdsAt (New H p) H2 bs es ∧ (∀ d ∈ es, d ∈ bodyNd :: sub) ∧ ((∃ d ∈ (bodyNd :: sub).take i, d.e = 0 ∧ d.k ≠ .aside) → es ≠ [])) zl ⟨rfl, ⟨none, rfl⟩, [], [], rfl, Nat.zero_le _, .nil, (fun d hd => nomatch hd), (fun ⟨d, hd, _⟩ => by simp at hd)⟩ ?_ ?_ ?_⟩
      · rintro i ys σ' H3 hi ⟨rfl, _, bs, es, rfl, hb, _⟩
        exact ⟨SqL.of hp2, by rw [List.length_map]; exact hb⟩
      · rintro i x ys σ' H3 hx ⟨rfl, ⟨z, rfl⟩, bs, es, rfl, hb, nb, hin, hne⟩
        obtain ⟨a, ea, rfl⟩ := qbH hx
        obtain ⟨d, ed, nad⟩ := nd.at ea
        obtain ⟨m', s', ha', _⟩ := nad.ex
        have et : (bodyNd :: sub).take (i + 1) = (bodyNd :: sub).take i ++ [d] := by rw [List.take_succ, ed]; rfl
        have skip : ¬ (d.e = 0 ∧ d.k ≠ .aside) → (∃ d ∈ (bodyNd :: sub).take (i + 1), d.e = 0 ∧ d.k ≠ .aside) → es ≠ [] := fun hd ⟨c, hc, h1, h2⟩ => by
          rw [et] at hc
          rcases List.mem_append.mp hc with h | h
          · exact hne ⟨c, h, h1, h2⟩
          · have : c = d := by simpa using h
            rw [this] at h1 h2
            exact absurd ⟨h1, h2⟩ hd
        refine ⟨_, rfl, a, _, _, _, rfl, rfl, SqT.of ha', rfl, rfl, _, rfl, ?_⟩
        refine ite2 (fun c1 => ?_) (fun c1 => ?_)
        · refine ⟨_, rfl, a, _, _, _, rfl, rfl, SqT.of ha', rfl, rfl, _, rfl, ?_⟩
          rw [show decide (V.str d.k.s = V.str (Str.ofString "aside")) = decide (d.k = .aside) from kdt d.k .aside]
          by_cases hk : d.k = .aside
          · rw [decide_eq_true hk]
            refine iteF ?_
            exact ⟨rfl, ⟨_, rfl⟩, bs, es, rfl, Nat.le_succ_of_le hb, nb, hin, skip fun z => z.2 hk⟩
          · rw [decide_eq_false hk]
            refine iteT ⟨_, rfl, rfl, ⟨_, rfl⟩, bs ++ [a], es ++ [d], by rw [List.map_append]; rfl, by rw [List.length_append]; exact Nat.succ_le_succ hb, nb.append (.cons nad .nil), fun c hc => ?_, fun _ => by simp⟩
            rcases List.mem_append.mp hc with h | h
            · exact hin c h
            · have : c = d := by simpa using h
              rw [this]
              exact List.mem_of_getElem? ed
        · refine iteF ?_
          exact ⟨rfl, ⟨_, rfl⟩, bs, es, rfl, Nat.le_succ_of_le hb, nb, hin, skip fun z => c1 (decide_eq_true (congrArg V.int z.1))⟩
      rintro ys σ' H3 ⟨rfl, _, bs, es, rfl, hb, nb, hin, hne⟩ D hD
      have ne : es ≠ [] := by
        refine hne ?_
        rw [List.length_map, lenas, List.take_of_length_le (by rw [List.length_cons]; omega)]
        obtain ⟨d, hd, h1, h2⟩ := kids.fo.has kb mkb
        exact ⟨d, List.mem_cons_of_mem _ hd, h1, by rw [h2]; exact nkb⟩
      have sD := qac hD (.lst (bs.map V.ref))
      refine ⟨by show 0 ≤ sizeLine; decide, fun t ht => ?_⟩
      have s5 := qac ht (.lst [])
      have nb5 := (nb.keep (N' := New H p) (sD.trans s5).keep fun _ n _ => n)
      refine ⟨_, _, .lst ((s5 _ _ qab)) (qeF nb5), .lst qab .nil, bk_ok fun d hd => fms d (hin d hd), rfl, fun z => absurd (by simpa using z) ne, fun _ => ⟨_, rfl, iteF ?_⟩⟩
      have sT : Same H3 _ := sD.trans s5
      have hp5 := sT _ _ hp2
      have one : 1 ≤ (as.map V.ref).length := by rw [List.length_map]; omega
      refine ⟨_, rfl, _, rfl, p, _, rfl, SqL.of hp5, fun l1 hl1 => ?_⟩
      have s6 := qac hl1 (.lst (cutV (as.map V.ref) none (some 1)))
      refine ⟨_, rfl, _, rfl, p, _, rfl, SqL.of (s6 _ _ hp5), fun l2 hl2 => ?_⟩
      have s7 := qac hl2 (.lst (cutV (as.map V.ref) (some 1) none))
      refine ⟨l1, l2, _, _, rfl, rfl, s7 _ _ qab, qab, ?_, fun p' hp' => ?_⟩
      · rw [qec one, qdj one, ← List.length_append, List.take_append_drop]
        exact Nat.le_of_lt zl
      have s8 := qac hp' (.lst (cutV (as.map V.ref) none (some 1) ++ cutV (as.map V.ref) (some 1) none))
      have sA : Same H3 _ := ((sT.trans s6).trans s7).trans s8
      refine q p' (bodyNd :: sub) _ ⟨⟨bodyNd, sub, ks, rfl, rfl, rfl, kids.fo, kids.may, (fun _ z => by rw [z] at mkb; cases mkb), kids.nx, (fun z => nomatch z)⟩, fms, kids.nm⟩ (by rw [List.length_cons]; omega) ?_ ⟨as, by rw [qab, qec one, qdj one, List.take_append_drop], nd.keep (N' := qeu H) sA.keep fun b n _ => n.1⟩ (G2.so.same sA) (G2.old.trans sA.keep)
      exact (G2.old.trans ((sT.trans s6).trans s7).keep).back (qah ((G2.so.same ((sT.trans s6).trans s7)).some) hp') hp'
end
theorem seq_cut {t u : TS} {D : Ends} {σ : St} {H : Hp} (h : ∀ N : St → Hp → Prop, N = u D → t { D with nx := N } σ H) : tSeq t u D σ H := h _ rfl
end K14
namespace K14
open PySem L2 Bk Gen
abbrev sElders : Stmt := top 4
abbrev sFits : Stmt := top 14
structure NumsR (mg : Str → Option Value) : Prop where
  elder : ∃ t, mg "ELDER" = some (.int 0 t)
  kind : ∃ t, mg "KIND" = some (.int 1 t)
  marks : ∃ t, mg "MARKS" = some (.int 3 t)
  ofk : ∃ t, mg "OF_KIND" = some (.int 1 t)
  within : ∃ t, mg "WITHIN" = some (.int 2 t)
  mark : ∃ t, mg "MARK" = some (.int 3 t)
theorem or_post {a b : TT} {σ : St} {H : Hp} {Q : Bool → Hp → Prop} (P : Bool → Hp → Prop) (h : ∀ Q' : Bool → Hp → Prop, (∀ c H', P c H' → Q' c H') → a σ H Q') (k : ∀ c H', P c H' → if c = true then Q true H' else b σ H' Q) : tOr a b σ H Q := h _ k
section
variable {P : Program} {w : World} {K : PySem.W.Frag} {mg : Str → Option Value} {base : Heap}
theorem scElders : FnScope ["book", "node", "elders", "above"] ["book", "node"] (qag sElders) := ⟨rfl, rfl, rfl, by decide +kernel, rfl, by decide +kernel, by decide +kernel⟩
theorem ok_elders_of {f : Addr} {fd : FuncData} (F : Fun K "elders_of" "elders_of" sElders f fd) (U : ∃ t, mg "ELDER" = some (.int 0 t)) : FnOk P w K mg base CX0 1 f fd ["book", "node"] spElders := by
  refine F.ok scElders (fun vs H Q E h => ?_) (fun cdv A outer s H vs Q E hr h => ?_)
  · obtain ⟨p, i, l, d, ds, N, rfl, _⟩ := h
    rfl
  · obtain ⟨p, i, l, d, ds, N, rfl, ⟨as, hp, nd⟩, ed, lv, ll, q⟩ := h
    obtain ⟨_, g_ELDER⟩ := U
    refine ⟨_, (qad (qap (i := 2) scElders.nd (by rfl) (by trivial) (qaA pa_nil))
      (qad (qap (i := 3) scElders.nd (by rfl) (by trivial) (qaj ix_tup (qaj ix_list (pv 0) (pv 1) (fun _ _ => rfl)) (qax (v := .int 0) (by rfl) g_ELDER ⟨_, rfl⟩) (fun _ _ => rfl)))
      (qad (qdG PassesOwn.never (qal op_ne (pv 3) (qcu un_neg qae) (qas _)) (qad (qaN (qbI PySem.F.plainAttrs_list PySem.F.slot_list_append PySem.F.type_list_append mt_append (pv 2) (qaa (pv 3) pa_nil)))
      (qaf (qap (i := 3) scElders.nd (by rfl) (by trivial) (qaj ix_tup (qaj ix_list (pv 0) (pv 3) (fun _ _ => rfl)) (qax (v := .int 0) (by rfl) g_ELDER ⟨_, rfl⟩) (fun _ _ => rfl))))))
      (qaf (qau (pv 2)))))), ?_⟩
    try dsimp only [cxOf, Cx.nox]
    refine ⟨by show 0 ≤ sizeLine; decide, fun L hL => ?_⟩
    have s1 := qac hL (.lst [])
    have rm := qbD lv ed
    obtain ⟨a, ea, na⟩ := nd.get ed
    obtain ⟨m', s', ha, _⟩ := na.ex
    refine ⟨_, rfl, _, rfl, p, _, _, _, rfl, rfl, SqL.of (s1 _ _ hp), qaz ea, a, _, _, _, rfl, rfl, SqT.of (s1 _ _ ha), rfl, ?_⟩
    refine ⟨fun m σ H' => Same H H' ∧ ∃ (pre : List Int) (ab : Int), σ = [some (.ref p), some (.int i), some (.ref L), some (.int ab)] ∧ H' L = some (.lst (pre.map V.int)) ∧ RemE ds ab m ∧ pre ++ eldR ds m ab = eldR ds l d.e, ⟨l, s1, [], _, rfl, qab, rm, rfl⟩, ?_⟩
    rintro m σ H' ⟨s2, pre, ab, rfl, hl, rm, eq⟩
    refine ⟨_, rfl, _, rfl, rfl, _, rfl, ?_⟩
    rcases rm with ⟨rfl, rfl⟩ | ⟨j, k', rfl, lj, rfl⟩
    · rw [decide_eq_true (rfl : V.int (-1) = V.int (-1))]
      refine iteF ⟨_, rfl, ?_⟩
      rw [eldR, List.append_nil] at eq
      subst eq
      exact q L H' hL s2 hl
    · rw [decide_eq_false (fun z => by have := V.int.inj z; omega : ¬ V.int (j : Int) = V.int (-1))]
      refine iteT ⟨fun σ' H'' => Same H H'' ∧ ∃ (ab : Int), σ' = [some (.ref p), some (.int i), some (.ref L), some (.int ab)] ∧ H'' L = some (.lst ((pre ++ [(j : Int)]).map V.int)) ∧ RemE ds ab k' ∧ (pre ++ [(j : Int)]) ++ eldR ds k' ab = eldR ds l d.e, ?_, ?_⟩
      · rintro σ' H'' ⟨s3, ab, rfl, h3, rm, eq'⟩
        exact ⟨k', Nat.lt_succ_self _, s3, pre ++ [(j : Int)], ab, rfl, h3, rm, eq'⟩
      · obtain ⟨d2, ed2⟩ := lj.nd
        have rm2 := qbD lj ed2
        obtain ⟨a2, ea2, na2⟩ := nd.get ed2
        obtain ⟨m3, s3, ha2, _⟩ := na2.ex
        have pl : pre.length ≤ 999 := by have := congrArg List.length eq; rw [List.length_append, qbO, qbO] at this; omega
        have s4 : Same H (upd H' L (.lst (pre.map V.int ++ [.int (j : Int)]))) := same_put s2 hL
        refine ⟨_, rfl, .inl ⟨rfl, _, SqL.of hl⟩, _, rfl, L, _, _, rfl, rfl, hl, qak (by rw [List.length_map]; omega), ?_⟩
        refine ⟨_, rfl, _, rfl, p, _, _, _, rfl, rfl, SqL.of (s4 _ _ hp), qaz ea2, a2, _, _, _, rfl, rfl, SqT.of (s4 _ _ ha2), rfl, ?_⟩
        exact ⟨s4, _, rfl, by rw [qab]; simp, rm2, by rw [qdc ed2] at eq; rw [← eq]; simp⟩
theorem scFits : FnScope ["book", "rule", "node"] ["book", "rule", "node"] (qag sFits) := ⟨rfl, rfl, rfl, by decide +kernel, rfl, by decide +kernel, by decide +kernel⟩
theorem ok_fits {f : Addr} {fd : FuncData} (F : Fun K "fits" "fits" sFits f fd) (U : NumsR mg) (F_elders_of : Fx P w K mg base CX0 1 "elders_of" ["book", "node"] spElders) : FnOk P w K mg base CX0 2 f fd ["book", "rule", "node"] spFits := by
  refine F.ok scFits (fun vs H Q E h => ?_) (fun cdv A outer s H vs Q E hr h => ?_)
  · obtain ⟨p, r, n, l, d, x, ds, N, M, rfl, _⟩ := h
    rfl
  · obtain ⟨p, r, n, l, d, x, ds, N, M, rfl, ⟨as, hp, nd⟩, ⟨_, sr, vs, hr0, _⟩, ed, lv, ll, q⟩ := h
    obtain ⟨_, g_KIND⟩ := U.kind
    obtain ⟨_, g_MARKS⟩ := U.marks
    obtain ⟨_, g_OF_KIND⟩ := U.ofk
    obtain ⟨_, g_WITHIN⟩ := U.within
    obtain ⟨_, g_MARK⟩ := U.mark
    have hr_elders_of := hr
    refine ⟨_, (qad (qaK (PW.pt (qbn (qal op_ne (qaj ix_tup (pv 1) (qax (v := .int 1) (by rfl) g_OF_KIND ⟨_, rfl⟩) (fun _ _ => rfl)) qam (qas _)) (qa7 (qal op_ne (qaj ix_tup (qaj ix_list (pv 0) (pv 2) (fun _ _ => rfl)) (qax (v := .int 1) (by rfl) g_KIND ⟨_, rfl⟩) (fun _ _ => rfl)) (qaj ix_tup (pv 1) (qax (v := .int 1) (by rfl) g_OF_KIND ⟨_, rfl⟩) (fun _ _ => rfl)) (qas _))))) (qaf (qau qbT)) pss_nil)
      (qad (qaK (PW.pt (qbn (qal op_ne (qaj ix_tup (pv 1) (qax (v := .int 2) (by rfl) g_WITHIN ⟨_, rfl⟩) (fun _ _ => rfl)) qam (qas _)) (qa7 (qal op_notIn_seq (qaj ix_tup (pv 1) (qax (v := .int 2) (by rfl) g_WITHIN ⟨_, rfl⟩) (fun _ _ => rfl)) (qa0 (own := ["elder"]) (by rfl) (ix := [0]) (frees := ["book"]) (CompScope.frees (by rfl) (by decide +kernel) (by decide +kernel) (by decide +kernel) (by rfl) (by decide +kernel) (by first | exact qb1 (by rfl) | exact qcg (by rfl) (by rfl))) (qa2 (qar F_elders_of hr_elders_of (by rfl) qaq (qaa (pv 0) (qaa (pv 2) pa_nil)))) (fun cl C s2 H2 fp => (qan (i := 0) (by show (["elder", "book"] : List Str).Nodup; decide +kernel) (by rfl) (by trivial) (by trivial))) (fun cl C s2 H2 fp => qa6) (fun cl C s2 H2 fp => (qaj (r := rIxT K) ix_tup (qaj (r := rIxL K) ix_list (pv 1) (pv 0) (fun _ _ => rfl)) (qax (v := .int 1) (by rfl) g_KIND ⟨_, rfl⟩) (fun _ _ => rfl)))) (by with_unfolding_all rfl))))) (qaf (qau qbT)) pss_nil)
      (qaf (qau (qe6 (qbk op_eq (qaj ix_tup (pv 1) (qax (v := .int 3) (by rfl) g_MARK ⟨_, rfl⟩) (fun _ _ => rfl)) qam (qas _)) (qeT (qbk op_in_seq (qaj ix_tup (pv 1) (qax (v := .int 3) (by rfl) g_MARK ⟨_, rfl⟩) (fun _ _ => rfl)) (qaj ix_tup (qaj ix_list (pv 0) (pv 2) (fun _ _ => rfl)) (qax (v := .int 3) (by rfl) g_MARKS ⟨_, rfl⟩) (fun _ _ => rfl)) (by with_unfolding_all rfl)))))))), ?_⟩
    try dsimp only [cxOf, Cx.nox]
    obtain ⟨a, ea, na⟩ := nd.get ed
    obtain ⟨m', s', ha, _, hm', _⟩ := na.ex
    refine qbj (fun b H' => H' = H ∧ b = !kOk d x) (fun Q' k => ?_) ?_
    · refine ⟨_, rfl, r, _, _, _, rfl, rfl, SqT.of hr0, rfl, rfl, _, rfl, ?_⟩
      rw [nmt x.k]
      by_cases hk : x.k = noName
      · rw [decide_eq_true hk]
        exact iteF (k _ _ ⟨rfl, by simp [kOk, hk]⟩)
      · rw [decide_eq_false hk]
        refine iteT ⟨_, rfl, _, rfl, p, _, _, _, rfl, rfl, SqL.of hp, qaz ea, a, _, _, _, rfl, rfl, SqT.of ha, rfl, _, rfl, r, _, _, _, rfl, rfl, SqT.of hr0, rfl, rfl, _, rfl, ?_⟩
        refine k _ _ ⟨rfl, ?_⟩
        rw [strt]
        simp [kOk, hk]
    rintro b H' ⟨rfl, rfl⟩
    rcases Bool.eq_false_or_eq_true (kOk d x) with hK | hK
    rotate_left
    · rw [hK]
      refine iteT ?_
      have e : qaV ds l d x = false := by unfold qaV; rw [hK]; rfl
      exact e ▸ q _ (Same.refl _)
    rw [hK]
    refine iteF ?_
    dsimp only [tNext]
    refine qbj (fun b H1 => Same H' H1 ∧ b = !wOk (kupR ds l d.e) x) (fun Q' k => ?_) ?_
    · refine ⟨_, rfl, r, _, _, _, rfl, rfl, SqT.of hr0, rfl, rfl, _, rfl, ?_⟩
      rw [nmt x.wi]
      by_cases hk : x.wi = noName
      · rw [decide_eq_true hk]
        exact iteF (k _ _ ⟨Same.refl _, by simp [wOk, hk]⟩)
      · rw [decide_eq_false hk]
        refine iteT ⟨_, rfl, r, _, _, _, rfl, rfl, SqT.of hr0, rfl, ?_⟩
        refine ⟨_, rfl, _, rfl, p, n, l, d, ds, N, rfl, ⟨as, hp, nd⟩, ed, lv, ll, fun L H1 hL s1 h1 => ?_⟩
        have zl : ((eldR ds l d.e).map V.int).length < sizeLine := by rw [List.length_map, qbO]; exact qak (by omega)
        refine ⟨L, rfl, ⟨_, SqL.of h1⟩, qaO (fun i ys σ' H2 => H2 = H1 ∧ ys = ((kupR ds l d.e).take i).map V.str ∧ ∃ z, σ' = [z, some (.ref p)]) zl ⟨rfl, rfl, none, rfl⟩ ?_ ?_ ?_⟩
        · rintro i ys σ' H2 hi ⟨rfl, rfl, _⟩
          refine ⟨SqL.of h1, ?_⟩
          rw [List.length_map, List.length_take]
          exact Nat.min_le_left _ _
        · rintro i y ys σ' H2 hx ⟨rfl, rfl, z, rfl⟩
          rw [List.getElem?_map] at hx
          obtain ⟨e, he, rfl⟩ := Option.map_eq_some_iff.mp hx
          obtain ⟨j, dj, rfl, edj, hkj⟩ := qeK (qbD lv ed) he
          obtain ⟨aj, eaj, naj⟩ := nd.get edj
          obtain ⟨mj, sj, haj, _⟩ := naj.ex
          refine ⟨_, rfl, _, rfl, p, _, _, _, rfl, rfl, SqL.of (s1 _ _ hp), qaz eaj, aj, _, _, _, rfl, rfl, SqT.of (s1 _ _ haj), rfl, ?_⟩
          exact ⟨rfl, by rw [List.take_succ, hkj, List.map_append]; rfl, _, rfl⟩
        · rintro ys σ' H2 ⟨rfl, rfl, _⟩ D hD
          have et : (kupR ds l d.e).take ((eldR ds l d.e).map V.int).length = kupR ds l d.e := by
            rw [List.length_map, qbO]
            exact List.take_of_length_le (by rw [qdH]; exact Nat.le_refl _)
          rw [et]
          refine ⟨D, _, rfl, .inl (SqL.of qab), rfl, qbh _, _, rfl, ?_⟩
          rw [if_pos rfl, qbC]
          refine k _ _ ⟨s1.trans (qac hD _), ?_⟩
          simp [wOk, hk]
    rintro b H1 ⟨s1, rfl⟩
    rcases Bool.eq_false_or_eq_true (wOk (kupR ds l d.e) x) with hW | hW
    rotate_left
    · rw [hW]
      refine iteT ?_
      have e : qaV ds l d x = false := by unfold qaV; rw [hW, Bool.and_false]; rfl
      exact e ▸ q _ s1
    rw [hW]
    refine iteF ?_
    have e : qaV ds l d x = mOk d x := by unfold qaV; rw [hW, hK]; rfl
    rw [e] at q
    refine ⟨_, rfl, r, _, _, _, rfl, rfl, SqT.of (s1 _ _ hr0), rfl, rfl, _, rfl, ?_⟩
    rw [nmt x.mrk]
    by_cases hk : x.mrk = noName
    · rw [decide_eq_true hk]
      refine iteT ?_
      have := q _ s1
      rw [show mOk d x = true by simp [mOk, hk]] at this
      exact this
    · rw [decide_eq_false hk]
      refine iteF ⟨_, rfl, r, _, _, _, rfl, rfl, SqT.of (s1 _ _ hr0), rfl, ?_⟩
      refine ⟨_, rfl, _, rfl, p, _, _, _, rfl, rfl, SqL.of (s1 _ _ hp), qaz ea, a, _, _, _, rfl, rfl, SqT.of (s1 _ _ ha), rfl, m', _, rfl, .inl (SqL.of (s1 _ _ hm')), rfl, qbh _, ?_⟩
      rw [if_neg Bool.false_ne_true, qbC]
      have := q _ s1
      rw [show mOk d x = decide (x.mrk ∈ d.mks) by simp [mOk, hk]] at this
      exact this
end
end K14
namespace K14
open PySem L2 Bk Gen Gd Bd Fc
abbrev sLawFits : Stmt := top 45
abbrev sTold : Stmt := top 46
abbrev sSet : Stmt := top 47
def setO (x : Rl) (wd : Str) : V := match x.sets.find? fun p => decide (p.1 = wd) with
  | some p => .int p.2
  | none => .non
theorem qaE {N : Addr → Prop} {H H' : Hp} {p : Addr} {ds : List Nd} (h : qaY N H p ds) (s : Same H H') : qaY N H' p ds := by
  obtain ⟨as, e, nd⟩ := h
  exact ⟨as, s _ _ e, nd.keep s.keep fun _ n _ => n⟩
def spSet : Sp := fun vs H Q _ => ∃ (r : Addr) (x : Rl) (wd : Str), vs = [.ref r, .str wd] ∧ RlAt (fun _ => True) H r x ∧ Q (setO x wd) H
section
variable {P : Program} {w : World} {K : PySem.W.Frag} {mg : Str → Option Value} {base : Heap}
theorem scLawFits : FnScope ["_law_book_here", "_law_rule_here", "_law_node", "_law_at"] ["_law_book_here", "_law_rule_here", "_law_node"] (qag sLawFits) := ⟨rfl, rfl, rfl, by decide +kernel, rfl, by decide +kernel, by decide +kernel⟩
theorem ok_law_fits {f : Addr} {fd : FuncData} (F : Fun K "_law_fits" "_law_fits" sLawFits f fd) : FnOk P w K mg base CX0 1 f fd ["_law_book_here", "_law_rule_here", "_law_node"] spFits := by
  refine F.ok scLawFits (fun vs H Q E h => ?_) (fun cdv A outer s H vs Q E hr h => ?_)
  · obtain ⟨p, r, n, l, d, x, ds, N, M, rfl, _⟩ := h
    rfl
  · obtain ⟨p, r, n, l, d, x, ds, N, M, rfl, ⟨as, hp, nd⟩, ⟨_, sr, vs, hr0, _⟩, ed, lv, ll, q0⟩ := h
    have q := q0 H (Same.refl H)
    clear q0
    refine ⟨_, (qad (qaK (PW.pt (qcw (PW.pt (qbn (qal op_ne (qaj ix_tup (pv 1) qae (fun _ _ => rfl)) qam (qas _)) (qa7 (qal op_ne (qaj ix_tup (pv 1) qae (fun _ _ => rfl)) (qaj ix_tup (qaj ix_list (pv 0) (pv 2) (fun _ _ => rfl)) qae (fun _ _ => rfl)) (qas _))))) (qbX (PW.pt (qbn (qal op_ne (qaj ix_tup (pv 1) qae (fun _ _ => rfl)) qam (qas _)) (qa7 (qal op_notIn_seq (qaj ix_tup (pv 1) qae (fun _ _ => rfl)) (qaj ix_tup (qaj ix_list (pv 0) (pv 2) (fun _ _ => rfl)) qae (fun _ _ => rfl)) (by with_unfolding_all rfl)))))))) (qaf (qau qbT)) pss_nil)
      (qad (qaK (qal op_eq (qaj ix_tup (pv 1) qae (fun _ _ => rfl)) qam (qas _)) (qaf (qau qbT)) pss_nil)
      (qad (qap (i := 3) scLawFits.nd (by rfl) (by trivial) (qaj ix_tup (qaj ix_list (pv 0) (pv 2) (fun _ _ => rfl)) qae (fun _ _ => rfl)))
      (qad (qdG PassesOwn.never (qal op_ge (pv 3) qae (qas _)) (qad (qaK (qal op_eq (qaj ix_tup (qaj ix_list (pv 0) (pv 3) (fun _ _ => rfl)) qae (fun _ _ => rfl)) (qaj ix_tup (pv 1) qae (fun _ _ => rfl)) (qas _)) (qaf (qau qbT)) pss_nil)
      (qaf (qap (i := 3) scLawFits.nd (by rfl) (by trivial) (qaj ix_tup (qaj ix_list (pv 0) (pv 3) (fun _ _ => rfl)) qae (fun _ _ => rfl))))))
      (qaf (qau qbT)))))), ?_⟩
    try dsimp only [cxOf, Cx.nox]
    obtain ⟨a, ea, na⟩ := nd.get ed
    obtain ⟨m', s', ha, _, hm', _⟩ := na.ex
    refine qbj (fun b H' => H' = H ∧ b = !(kOk d x && mOk d x)) (fun Q' k => ?_) ?_
    · refine or_post (fun b H' => H' = H ∧ b = !kOk d x) (fun Q'' k' => ?_) ?_
      · refine ⟨_, rfl, r, _, _, _, rfl, rfl, SqT.of hr0, rfl, rfl, _, rfl, ?_⟩
        rw [nmt x.k]
        by_cases hk : x.k = noName
        · rw [decide_eq_true hk]
          exact iteF (k' _ _ ⟨rfl, by simp [kOk, hk]⟩)
        · rw [decide_eq_false hk]
          refine iteT ⟨_, rfl, r, _, _, _, rfl, rfl, SqT.of hr0, rfl, _, rfl, _, rfl, p, _, _, _, rfl, rfl, SqL.of hp, qaz ea, a, _, _, _, rfl, rfl, SqT.of ha, rfl, rfl, _, rfl, ?_⟩
          refine k' _ _ ⟨rfl, ?_⟩
          rw [strt]
          simp [kOk, hk, eq_comm]
      rintro b H' ⟨rfl, rfl⟩
      rcases Bool.eq_false_or_eq_true (kOk d x) with hK | hK
      · rw [hK]
        refine iteF ⟨_, rfl, r, _, _, _, rfl, rfl, SqT.of hr0, rfl, rfl, _, rfl, ?_⟩
        rw [nmt x.mrk]
        by_cases hk : x.mrk = noName
        · rw [decide_eq_true hk]
          exact iteF (k _ _ ⟨rfl, by simp [hK, mOk, hk]⟩)
        · rw [decide_eq_false hk]
          refine iteT ⟨_, rfl, r, _, _, _, rfl, rfl, SqT.of hr0, rfl, _, rfl, _, rfl, p, _, _, _, rfl, rfl, SqL.of hp, qaz ea, a, _, _, _, rfl, rfl, SqT.of ha, rfl, m', _, rfl, .inl (SqL.of hm'), rfl, qbh _, _, rfl, ?_⟩
          rw [if_pos rfl, qbC]
          refine k _ _ ⟨rfl, ?_⟩
          simp [hK, mOk, hk]
      · rw [hK]
        exact iteT (k _ _ ⟨rfl, by simp [hK]⟩)
    rintro b H' ⟨rfl, rfl⟩
    rcases Bool.eq_false_or_eq_true (kOk d x && mOk d x) with hKM | hKM
    rotate_left
    · rw [hKM]
      refine iteT ?_
      have e : qaV ds l d x = false := by
        unfold qaV
        rw [Bool.and_right_comm, hKM]
        rfl
      exact e ▸ q
    rw [hKM]
    refine iteF ?_
    have e : qaV ds l d x = wOk (kupR ds l d.e) x := by
      unfold qaV
      rw [Bool.and_right_comm, hKM]
      rfl
    rw [e] at q
    refine ⟨_, rfl, r, _, _, _, rfl, rfl, SqT.of hr0, rfl, rfl, _, rfl, ?_⟩
    rw [nmt x.wi]
    by_cases hk : x.wi = noName
    · rw [decide_eq_true hk]
      refine iteT ?_
      rw [show wOk (kupR ds l d.e) x = true by simp [wOk, hk]] at q
      exact q
    rw [decide_eq_false hk]
    refine iteF ?_
    rw [show wOk (kupR ds l d.e) x = decide (x.wi ∈ kupR ds l d.e) by simp [wOk, hk]] at q
    refine ⟨_, rfl, _, rfl, p, _, _, _, rfl, rfl, SqL.of hp, qaz ea, a, _, _, _, rfl, rfl, SqT.of ha, rfl, ?_⟩
    refine ⟨fun m σ H1 => H1 = H' ∧ ∃ ab : Int, σ = [some (.ref p), some (.ref r), some (.int n), some (.int ab)] ∧ RemE ds ab m ∧ decide (x.wi ∈ kupR ds m ab) = decide (x.wi ∈ kupR ds l d.e), ⟨l, rfl, _, rfl, qbD lv ed, rfl⟩, ?_⟩
    rintro m σ H1 ⟨rfl, ab, rfl, rm, em⟩
    refine ⟨_, rfl, _, _, rfl, rfl, _, rfl, ?_⟩
    rcases rm with ⟨rfl, rfl⟩ | ⟨j, k', rfl, lj, rfl⟩
    · rw [decide_eq_false (by omega : ¬ (0 : Int) ≤ -1)]
      refine iteF ?_
      rw [← em] at q
      exact q
    · rw [decide_eq_true (by omega : (0 : Int) ≤ (j : Int))]
      obtain ⟨dj, ej⟩ := lj.nd
      obtain ⟨aj, eaj, naj⟩ := nd.get ej
      obtain ⟨mj, sj, haj, _⟩ := naj.ex
      rw [qdq ej] at em
      refine iteT ⟨fun σ' H'' => H'' = H1 ∧ σ' = [some (.ref p), some (.ref r), some (.int n), some (.int dj.e)] ∧ decide (x.wi ∈ kupR ds k' dj.e) = decide (x.wi ∈ kupR ds l d.e), ?_, ?_⟩
      · rintro σ' H'' ⟨rfl, rfl, e2⟩
        exact ⟨k', Nat.lt_succ_self _, rfl, _, rfl, qbD lj ej, e2⟩
      · refine ⟨_, rfl, _, rfl, p, _, _, _, rfl, rfl, SqL.of hp, qaz eaj, aj, _, _, _, rfl, rfl, SqT.of haj, rfl, _, rfl, r, _, _, _, rfl, rfl, SqT.of hr0, rfl, rfl, _, rfl, ?_⟩
        rw [strt]
        by_cases hw : dj.k.s = x.wi
        · rw [decide_eq_true hw]
          refine iteT ?_
          rw [← em, decide_eq_true (by rw [hw]; exact List.mem_cons_self)] at q
          exact q
        · rw [decide_eq_false hw]
          refine iteF ?_
          refine ⟨_, rfl, _, rfl, p, _, _, _, rfl, rfl, SqL.of hp, qaz eaj, aj, _, _, _, rfl, rfl, SqT.of haj, rfl, ?_⟩
          exact ⟨rfl, rfl, by rw [← em]; simp [Ne.symm hw]⟩
theorem scTold : FnScope ["_law_rule_here"] ["_law_rule_here"] (qag sTold) := ⟨rfl, rfl, rfl, by decide +kernel, rfl, by decide +kernel, by decide +kernel⟩
theorem ok_told {f : Addr} {fd : FuncData} (F : Fun K "_law_told" "_law_told" sTold f fd) (T : BnD mg) : FnOk P w K mg base CX0 1 f fd ["_law_rule_here"] spCond := by
  refine F.ok scTold (fun vs H Q E h => ?_) (fun cdv A outer s H vs Q E hr h => ?_)
  · obtain ⟨r, x, rfl, _⟩ := h
    rfl
  · obtain ⟨r, x, rfl, ⟨_, sa, sv, hr', _, hs, pr⟩, q⟩ := h
    refine ⟨_, (qaf (qau (qaB call_len_seq (by rfl) T.len b_len (qaa (qa0 (own := ["_law_word_here"]) (by rfl) (CompScope.plain (by rfl) (by decide +kernel) (by decide +kernel) (by decide +kernel)) (qa2 (qaA (qaa (qaj ix_tup (pv 0) qae (fun _ _ => rfl)) (qaa (qaj ix_tup (pv 0) qae (fun _ _ => rfl)) (qaa (qaj ix_tup (pv 0) qae (fun _ _ => rfl)) pa_nil))))) (fun cl C s2 H2 fp => (qan (i := 0) (by show (["_law_word_here"] : List Str).Nodup; decide +kernel) (by rfl) (by trivial) (by trivial))) (fun cl C s2 H2 fp => (qbw (qal op_ne (pv 0) qam (qas _)))) (fun cl C s2 H2 fp => (pv 0))) pa_nil)))), ?_⟩
    try dsimp only [cxOf, Cx.nox]
    refine ⟨_, rfl, r, _, _, _, rfl, rfl, SqT.of hr', rfl, _, rfl, r, _, _, _, rfl, rfl, SqT.of hr', rfl, _, rfl, r, _, _, _, rfl, rfl, SqT.of hr', rfl, by show 3 ≤ sizeLine; decide, fun t ht => ?_⟩
    have s1 := qac ht (.lst [.str x.k, .str x.wi, .str x.mrk])
    have hT : upd H t (.lst [.str x.k, .str x.wi, .str x.mrk]) t = some (.lst ((said x).map V.str)) := qab
    generalize upd H t (.lst [.str x.k, .str x.wi, .str x.mrk]) = H1 at s1 hT ⊢
    refine ⟨t, rfl, ⟨_, SqL.of hT⟩, qaO (xs := (said x).map V.str) (fun i ys σ' H' => H' = H1 ∧ ys = (qaQ ((said x).take i)).map V.str ∧ ∃ z, σ' = [z]) (by show 3 < sizeLine; decide) ⟨rfl, rfl, none, rfl⟩ ?_ ?_ ?_⟩
    · rintro i ys σ' H' hi ⟨rfl, rfl, _⟩
      refine ⟨SqL.of hT, ?_⟩
      rw [List.length_map]
      refine Nat.le_trans (List.length_filter_le _ _) ?_
      rw [List.length_take]
      exact Nat.min_le_left _ _
    · rintro i y ys σ' H' hy ⟨rfl, rfl, z, rfl⟩
      rw [List.getElem?_map] at hy
      obtain ⟨u, eu, rfl⟩ := Option.map_eq_some_iff.mp hy
      refine ⟨_, rfl, rfl, _, rfl, ?_⟩
      have tk : (said x).take (i + 1) = (said x).take i ++ [u] := by rw [List.take_succ, eu]; rfl
      have fl : qaQ ((said x).take (i + 1)) = qaQ ((said x).take i) ++ qaQ [u] := by rw [tk]; exact List.filter_append ..
      by_cases hu : u = noName
      · have e1 : qaQ [u] = [] := by unfold qaQ; rw [hu]; rfl
        rw [decide_eq_true (show V.str u = V.str (Str.ofString "") by rw [hu]; rfl)]
        refine iteF ⟨rfl, ?_, _, rfl⟩
        rw [fl, e1, List.append_nil]
      · have e1 : qaQ [u] = [u] := by unfold qaQ; rw [List.filter_cons, if_pos (decide_eq_true hu)]; rfl
        rw [decide_eq_false (show ¬ V.str u = V.str (Str.ofString "") from fun z => hu (V.str.inj z))]
        refine iteT ⟨_, rfl, rfl, ?_, _, rfl⟩
        rw [fl, e1, List.map_append]
        rfl
    · rintro ys σ' H' ⟨rfl, rfl, _⟩ D hD
      have sD := qac hD (.lst ((qaQ ((said x).take ((said x).map V.str).length)).map V.str))
      refine ⟨D, _, rfl, .inl (SqL.of qab), ?_⟩
      have e := q _ (s1.trans sD)
      rw [List.length_map]
      exact e
theorem scSet : FnScope ["_law_rule_here", "_law_word_here", "_law_own_here", "_law_value"] ["_law_rule_here", "_law_word_here"] (qag sSet) := ⟨rfl, rfl, rfl, by decide +kernel, rfl, by decide +kernel, by decide +kernel⟩
theorem ok_set {f : Addr} {fd : FuncData} (F : Fun K "_law_set" "_law_set" sSet f fd) : FnOk P w K mg base CX0 1 f fd ["_law_rule_here", "_law_word_here"] spSet := by
  refine F.ok scSet (fun vs H Q E h => ?_) (fun cdv A outer s H vs Q E hr h => ?_)
  · obtain ⟨r, x, wd, rfl, _⟩ := h
    rfl
  · obtain ⟨r, x, wd, rfl, ⟨_, sa, sv, hr', _, hs, pr⟩, q⟩ := h
    refine ⟨_, (qad (qa4 PassesOwn.never (by rfl) (qa2 (qaj ix_tup (pv 0) qae (fun _ _ => rfl))) (qcH (by rfl) (qay (qan (i := 2) scSet.nd (by rfl) (by trivial)) (qay (qan (i := 3) scSet.nd (by rfl) (by trivial)) pgs_nil)))
      (qaf (qaK (qal op_eq (pv 2) (pv 1) (qas _)) (qaf (qau (pv 3))) pss_nil)))
      (qaf (qau qeE))), ?_⟩
    try dsimp only [cxOf, Cx.nox]
    refine ⟨_, rfl, r, _, _, _, rfl, rfl, SqT.of hr', rfl, sa, rfl, ⟨_, SqL.of hs⟩, qdU (xs := sv) (fun i σ H' => H' = H ∧ (∃ v2 v3, σ = [some (.ref r), some (.str wd), v2, v3]) ∧ (x.sets.drop i).find? (fun p => decide (p.1 = wd)) = x.sets.find? (fun p => decide (p.1 = wd))) ⟨rfl, ⟨none, none, rfl⟩, rfl⟩ ?_ ?_ ?_⟩
    · rintro i σ H' hi ⟨rfl, _⟩
      exact SqL.of hs
    · rintro i v σ H' hv ⟨rfl, ⟨v2, v3, rfl⟩, ef⟩
      obtain ⟨y, ey, b, rfl, nb, hb⟩ := qa8 pr hv
      have dr : x.sets.drop i = y :: x.sets.drop (i + 1) := by
        obtain ⟨hi, e⟩ := List.getElem?_eq_some_iff.mp ey
        rw [List.drop_eq_getElem_cons hi, e]
      rw [dr] at ef
      refine ⟨b, _, rfl, SqT.of hb, rfl, _, _, rfl, _, _, rfl, rfl, ?_⟩
      refine ⟨_, rfl, _, rfl, rfl, _, rfl, ?_⟩
      rw [strt]
      by_cases e : y.1 = wd
      · rw [decide_eq_true e]
        refine iteT ⟨_, rfl, ?_⟩
        rw [List.find?_cons_of_pos (by simpa using e)] at ef
        unfold setO at q
        rw [← ef] at q
        exact q
      · rw [decide_eq_false e]
        refine iteF ⟨rfl, ⟨_, _, rfl⟩, ?_⟩
        rw [List.find?_cons_of_neg (by simpa using e)] at ef
        exact ef
    · rintro σ H' ⟨rfl, ⟨v2, v3, rfl⟩, ef⟩
      rw [show x.sets.drop sv.length = [] by rw [pr.length]; exact List.drop_length] at ef
      unfold setO at q
      rw [← ef] at q
      exact q
end
end K14
namespace K14
open PySem L2 Bk Gen Gd Bd Fc
def lamQ : Str := (Str.ofString "winner_of" ++ Str.ofString ".<locals>.") ++ Str.ofString "<lambda>"
def qba (x : Rl) (wd : Str) : Bool := (valV (oddK x.sets) (.inr wd)).isSome
def setting (rl : List Rl) (wd : Str) (ns : List Nat) : List Nat := ns.filter fun n => match rl[n]? with
  | some x => qba x wd
  | none => false
def qaJ (rl : List Rl) (n : Nat) : List Int := match rl[n]? with
  | some x => [x.rank, qbb x, (n : Int)]
  | none => []
def winI (rl : List Rl) (st : List Nat) : Nat := qaZ (fun i j => HT.lexGt (qaJ rl (st.getD i 0)) (qaJ rl (st.getD j 0))) (st.length - 1)
def winV (rl : List Rl) (wd : Str) (ns : List Nat) : V := match (setting rl wd ns)[winI rl (setting rl wd ns)]? with
  | some n => .int n
  | none => .non
def GSame (Pt : Addr) (H H' : Hp) : Prop := ∀ b o, b ≠ Pt → H b = some o → H' b = some o
def qcA (x : Rl) : Prop := (x.sets.map Prod.fst).Nodup ∧ x.sets.length ≤ 100
def qcW (Pt : Addr) : Sp := fun vs H Q _ => ∃ (R Ft : Addr) (wd : Str) (rl : List Rl) (ns : List Nat), vs = [.ref R, .ref Ft, .str wd] ∧ qbp H R rl ∧ H Ft = some (.lst (ns.map fun (n : Nat) => V.int n)) ∧ ns.length ≤ 100 ∧ (∀ n ∈ ns, n < rl.length) ∧ (∀ x ∈ rl, qcA x) ∧ TabOk H Pt lam.2.2.2 lamQ ∧
  ∀ H', GSame Pt H H' → TabOk H' Pt lam.2.2.2 lamQ → Q (winV rl wd ns) H'
theorem qc2 {H : Hp} {vs : List V} {od : List (Str × Int)} (p : Paired (SetAt (fun _ => True) H) vs od) : ∃ as : List Addr, vs = as.map V.ref ∧ Paired (OdAt H) as od := by
  induction p with
  | nil => exact ⟨[], rfl, .nil⟩
  | cons h t ih =>
    obtain ⟨a, rfl, _, e⟩ := h
    obtain ⟨as, rfl, p⟩ := ih
    exact ⟨a :: as, rfl, .cons e p⟩
theorem qdl {H H' : Hp} {R : Addr} {rl : List Rl} (k : ∀ b o, (∀ qs, o ≠ HO.tbl qs) → H b = some o → H' b = some o) (h : qbp H R rl) : qbp H' R rl := by
  obtain ⟨rs, e, p⟩ := h
  refine ⟨rs, k _ _ (fun _ z => nomatch z) e, p.mono fun r x y => ?_⟩
  obtain ⟨_, s, vs, e1, _, e2, pr⟩ := y
  refine ⟨trivial, s, vs, k _ _ (fun _ z => nomatch z) e1, trivial, k _ _ (fun _ z => nomatch z) e2, pr.mono fun v z q => ?_⟩
  obtain ⟨a, e, _, g⟩ := q
  exact ⟨a, e, trivial, k _ _ (fun _ z => nomatch z) g⟩
theorem qaL {H H' : Hp} {R : Addr} {rl : List Rl} (s : Same H H') (h : qbp H R rl) : qbp H' R rl := qdl (fun b o _ e => s b o e) h
theorem TabOk.g {H H' : Hp} {Pt : Addr} {pos : Pos} {qual : Str} (k : ∀ b o, (∀ xs, o ≠ HO.lst xs) → H b = some o → H' b = some o) (h : TabOk H Pt pos qual) : TabOk H' Pt pos qual := by
  obtain ⟨ps, e, t, c⟩ := h
  refine ⟨ps, k _ _ (fun _ z => nomatch z) e, t, c.imp id fun ⟨c', y, z⟩ => ⟨c', y, k _ _ (fun _ z => nomatch z) z⟩⟩
theorem qb0 {rl : List Rl} {wd : Str} {ns : List Nat} {i n : Nat} {x : Rl} (e : ns[i]? = some n) (ex : rl[n]? = some x) : setting rl wd (ns.take (i + 1)) = if qba x wd = true then setting rl wd (ns.take i) ++ [n] else setting rl wd (ns.take i) := by
  unfold setting
  rw [List.take_succ, e, List.filter_append]
  show _ ++ ([n].filter _) = _
  rw [List.filter_cons]
  simp only [ex]
  by_cases h : qba x wd = true
  · rw [if_pos h, if_pos h]
    rfl
  · rw [if_neg h, if_neg h]
    simp
section
variable {P : Program} {w : World} {K : PySem.W.Frag} {mg : Str → Option Value} {base : Heap}
theorem ok_winner {f c Pt fp : Addr} {dp : FuncData} {oc dV kV doc pm ct : Value} {od an : Option Addr} {osl : Array (Option Value)} (lk : K.lookup f = some ⟨oc, od, .func (PySem.W.fnOf "winner_of" "winner_of" (qav sWinnerOf) (qat sWinnerOf) (qag sWinnerOf) dV kV doc pm an (.ref c) ct), osl⟩) (hcdn : PySem.W.codeIn K (.ref c) "winner_of" = true) (T : BnD mg) (tS : ∃ t, mg "SETS" = some (.int 4 t)) (hC : PySem.W.codeHdIn K c Pt = true) (hPt : Pt ≠ mainGlobals)
    (hB : base.BuiltinsAt mg Pt)
    (Fp : FnOk P w K mg base CX0 2 fp dp ["rules", "number"] spPrec) (hbp : Binds K dp ["rules", "number"] []) (kpp : PySem.W.keepIn K (.ref fp) = true) (hmp : mg "precedence" = some (.ref fp)) : FnOk P w K mg base CX0 5 f (PySem.W.fnOf "winner_of" "winner_of" (qav sWinnerOf) (qat sWinnerOf) (qag sWinnerOf) dV kV doc pm an (.ref c) ct) ["rules", "fitting", "word"] (qcW Pt) := by
  refine qfb lk hcdn scWinner (fun vs H Q E h => ?_) (fun A outer s H vs Q E hr h => ?_)
  · obtain ⟨R, Ft, wd, rl, ns, rfl, _⟩ := h
    rfl
  · obtain ⟨R, Ft, wd, rl, ns, rfl, hRl, hF, l100, nlt, sok, tb, q⟩ := h
    obtain ⟨_, g_SETS⟩ := tS
    have loLam := lo_lam
    have hr_max : Room (2 + 2) (cxOf CX0 P w K mg base ["rules", "fitting", "word", "setting"] "winner_of" (qag sWinnerOf) f (.ref c) A outer s H E).nox.A := hr
    have hu1 : (cxOf CX0 P w K mg base ["rules", "fitting", "word", "setting"] "winner_of" (qag sWinnerOf) f (.ref c) A outer s H E).nox.A.units + 1 < cLine := by have := hr_max.units; omega
    have hxp : ∀ (o : List Env) (h : Hp) (s2 : Shared) (e : Value) (s3 : Shared), CX0 o h s2 E0 e s3 → False := fun _ _ _ _ _ z => z
    have TT : PSs (cxOf CX0 P w K mg base ["rules", "fitting", "word", "setting"] "winner_of" (qag sWinnerOf) f (.ref c) A outer s H E).nox (qat sWinnerOf) _ := (qad (qcb (i := 3) (by rfl) scWinner.nd (by rfl) (by trivial) (own := ["number"]) (ix := [2, 0]) (frees := ["word", "rules"]) (CompScope.frees (by rfl) (by decide +kernel) (by decide +kernel) (by decide +kernel) (by rfl) (by decide +kernel) (by first | exact qb1 (by rfl) | exact qcg (by rfl) (by rfl))) (qa2 (pv 1)) (fun cl C s2 H2 fp => (qan (i := 0) (by show (["number", "word", "rules"] : List Str).Nodup; decide +kernel) (by rfl) (by trivial) (by trivial))) (fun cl C s2 H2 fp => (qbw (qct (qeJ hu1 (pv 1) (qaP (r := qew K) (qce K (by rfl) (by rfl)) (by rfl) T.dict b_dict (qaa (qaj (r := rIxT K) ix_tup (qaj (r := rIxL K) ix_list (pv 2) (pv 0) (fun _ _ => rfl)) (qax (v := .int 4) (by rfl) g_SETS ⟨_, rfl⟩) (fun _ _ => rfl)) pa_nil)))))) (fun cl C s2 H2 fp => (pv 0)))
      (qaf (qau (pe_maxKey (ix := 0) (by rfl) (by rfl) T.max b_max (qaa (pv 3) pa_nil) loLam hr_max (by rfl) (by rfl) (by rfl) rfl hC hPt hB (fun cc e => hclos e) (by rfl) (fun _ _ _ _ _ _ => rfl) Fp hbp kpp hmp hxp))))
    refine ⟨_, TT.nox, ?_⟩
    refine ⟨_, rfl, Ft, rfl, ⟨_, SqL.of hF⟩, qaO (xs := ns.map fun (n : Nat) => V.int n) (fun i ys σ' H' => Same H H' ∧ ys = (setting rl wd (ns.take i)).map (fun (n : Nat) => V.int n) ∧ ∃ z, σ' = [z, some (.str wd), some (.ref R)]) (by rw [List.length_map]; exact qak (by omega)) ⟨Same.refl _, rfl, none, rfl⟩ ?_ ?_ ?_⟩
    · rintro i ys σ' H' hi ⟨s1, rfl, _⟩
      refine ⟨SqL.of (s1 _ _ hF), ?_⟩
      rw [List.length_map]
      refine Nat.le_trans (List.length_filter_le _ _) ?_
      rw [List.length_take]
      exact Nat.min_le_left _ _
    · rintro i y ys σ' H1 hy ⟨s1, rfl, z, rfl⟩
      rw [List.getElem?_map] at hy
      obtain ⟨n, en, rfl⟩ := Option.map_eq_some_iff.mp hy
      have nl := nlt n (List.mem_of_getElem? en)
      have ex : rl[n]? = some rl[n] := List.getElem?_eq_getElem nl
      obtain ⟨rs, hR, pr⟩ := qaL s1 hRl
      obtain ⟨r, er, rx⟩ := pget pr ex
      have so := sok _ (List.mem_of_getElem? ex)
      rw [qb0 en ex]
      generalize rl[n] = x at ex rx so
      obtain ⟨_, sa, sv, hr', _, hs', ps⟩ := rx
      obtain ⟨as, rfl, po⟩ := qc2 ps
      refine ⟨_, rfl, _, rfl, _, rfl, R, _, _, _, rfl, rfl, SqL.of hR, qaz er, r, _, _, _, rfl, rfl, SqT.of hr', rfl, sa, as, oddK x.sets, rfl, SqL.of hs', qdf po, fun d hd => ?_⟩
      rw [qb2 so.1]
      refine ⟨d, valV (oddK x.sets) (.inr wd), rfl, .inl ⟨_, .inr wd, Rd.of qab, rfl, rfl⟩, _, rfl, ?_⟩
      have s2 := s1.trans (qac hd (.dK (oddK x.sets)))
      cases hb : qba x wd with
      | true =>
        rw [show (valV (oddK x.sets) (.inr wd)).isSome = true from hb, if_pos rfl]
        refine iteT ⟨_, rfl, s2, ?_, _, rfl⟩
        rw [List.map_append]
        rfl
      | false =>
        rw [show (valV (oddK x.sets) (.inr wd)).isSome = false from hb, if_neg Bool.false_ne_true]
        exact iteF ⟨s2, rfl, _, rfl⟩
    rintro ys σ' H1 ⟨s1, rfl, _⟩ D hD
    rw [show ns.take (ns.map fun (n : Nat) => V.int n).length = ns from List.take_of_length_le (by rw [List.length_map]; exact Nat.le_refl _)]
    have em : (setting rl wd ns).map (fun (n : Nat) => V.int n) = ((setting rl wd ns).map fun (n : Nat) => (n : Int)).map V.int := by rw [List.map_map]; rfl
    have sl : ∀ n ∈ setting rl wd ns, n < rl.length := fun n hn => nlt n (List.mem_filter.mp hn).1
    have eW : winV rl wd ns = match (setting rl wd ns)[winI rl (setting rl wd ns)]? with | some n => .int n | none => .non := rfl
    generalize setting rl wd ns = st at em sl eW ⊢
    rw [em]
    have s2 := s1.trans (qac hD (.lst ((st.map fun (n : Nat) => (n : Int)).map V.int)))
    have hDD := qab (H := H1) (a := D) (o := .lst ((st.map fun (n : Nat) => (n : Int)).map V.int))
    have hD0 : H D = none := s1.free hD
    generalize upd H1 D (.lst ((st.map fun (n : Nat) => (n : Int)).map V.int)) = H2 at s2 hDD ⊢
    have tb2 : TabOk H2 Pt lam.2.2.2 lamQ := TabOk.g (fun b o _ e => s2 b o e) tb
    refine ⟨_, rfl, D, st.map (fun (n : Nat) => (n : Int)), .ref R, fun i => qaJ rl (st.getD i 0), rfl, hDD, tb2, rfl, fun H3 c' grow tb3 hc' => ?_⟩
    have nP : ∀ {b : Addr} {o : HO} {HH : Hp}, TabOk HH Pt lam.2.2.2 lamQ → HH b = some o → (∀ qs, o ≠ .tbl qs) → b ≠ Pt := fun t e n z => by
      obtain ⟨ps, e', _⟩ := t
      rw [z, e'] at e
      cases e
      exact n _ rfl
    have hD3 : H3 D = some (.lst ((st.map fun (n : Nat) => (n : Int)).map V.int)) := grow D (nP tb2 hDD fun _ z => nomatch z) _ hDD
    have back : ∀ {H' : Hp}, (∀ b o, b ≠ Pt → H b = some o → H' b = some o) ∧ H' c' = some (qc1 c' lamQ) ∧ TabOk H' Pt lam.2.2.2 lamQ → H' D = none → Q (winV rl wd ns) (upd H' D (.lst ((st.map fun (n : Nat) => (n : Int)).map V.int))) := fun {H'} h nD => by
      refine q _ (fun b o n e => ?_) (TabOk.g (fun b o _ e => ?_) h.2.2)
      · rw [qai (qao e hD0)]
        exact h.1 b o n e
      · rw [qai (qao e nD)]
        exact e
    refine ⟨fun H' => (∀ b o, b ≠ Pt → H b = some o → H' b = some o) ∧ H' c' = some (qc1 c' lamQ) ∧ TabOk H' Pt lam.2.2.2 lamQ, ⟨fun b o n e => ?_, ?_, ?_⟩, fun H' h => h.2.1, fun i n' H' hi h => ?_, fun z H' h nD => ?_, fun z n' H' hn h nD => ?_⟩
    · rw [qbi (qao e hD0)]
      exact grow b n _ (s2 _ _ e)
    · rw [qbi (fun z => by rw [z, hD3] at hc'; cases hc')]
      exact hc'
    · refine TabOk.g (fun b o n e => ?_) tb3
      rw [qbi (fun z => by rw [z, hD3] at e; cases e; exact n _ rfl)]
      exact e
    · rw [List.getElem?_map] at hi
      obtain ⟨n, en, rfl⟩ := Option.map_eq_some_iff.mp hi
      have nl := sl n (List.mem_of_getElem? en)
      have ex : rl[n]? = some rl[n] := List.getElem?_eq_getElem nl
      refine ⟨R, n, rl[n], rl, rfl, qdl (fun b o z e => h.1 b o (nP tb e z) e) hRl, ex, fun t H4 s4 ht et => ⟨⟨fun b o n e => s4 _ _ (h.1 b o n e), s4 _ _ h.2.1, TabOk.g (fun b o _ e => s4 b o e) h.2.2⟩, t, rfl, ?_⟩⟩
      · have ek : qaJ rl (st.getD i 0) = [rl[n].rank, qbb rl[n], (n : Int)] := by
          rw [List.getD_eq_getElem?_getD, en]
          show qaJ rl n = _
          unfold qaJ
          rw [ex]
        show H4 t = some (.tup ((qaJ rl (st.getD i 0)).map V.int))
        rw [ek]
        exact et
    · have e0 : st = [] := List.map_eq_nil_iff.mp z
      have := back h nD
      rw [eW, e0] at this
      rw [e0]
      exact this
    · rw [List.length_map, List.getElem?_map] at hn
      obtain ⟨n, en, rfl⟩ := Option.map_eq_some_iff.mp hn
      have := back h nD
      rw [eW, show st[winI rl st]? = some n from en] at this
      exact this
end
end K14
namespace Bd
open PySem L2 Bk Gen Gd
end Bd
namespace Fc
open PySem L2 Bk Gen Gd Bd
end Fc
namespace Fc
open PySem L2 Bk Gen Gd Bd
end Fc
namespace Br
open PySem L2 Bk Gen Gd Bd
theorem free4 {names : List (Str × NameKind)} {a b c d : Str} (h : names.lookup a = some .cell) (h' : names.lookup b = some .cell) (h'' : names.lookup c = some .cell) (h3 : names.lookup d = some .cell) : ∀ x ∈ [a, b, c, d], names.lookup x = some .cell ∨ names.lookup x = some .free := fun x hx => by
  simp only [List.mem_cons, List.not_mem_nil, or_false] at hx
  rcases hx with rfl | rfl | rfl | rfl
  · exact .inl h
  · exact .inl h'
  · exact .inl h''
  · exact .inl h3
theorem cutV_nat {as : List Addr} {i j : Nat} (h : j ≤ as.length) (hi : i ≤ j) : cutV (as.map V.ref) (some (i : Int)) (some (j : Int)) = ((as.drop i).take (j - i)).map V.ref := by
  unfold cutV
  have e1 : HT.sIx (as.map V.ref).length 0 (some (i : Int)) = i := by
    show (if (i : Int) < 0 then ((i : Int) + (((as.map V.ref).length : Nat) : Int)).toNat else min (i : Int).toNat (as.map V.ref).length) = _
    rw [if_neg (by omega), List.length_map]
    omega
  have e2 : HT.sIx (as.map V.ref).length (as.map V.ref).length (some (j : Int)) = j := by
    show (if (j : Int) < 0 then ((j : Int) + (((as.map V.ref).length : Nat) : Int)).toNat else min (j : Int).toNat (as.map V.ref).length) = _
    rw [if_neg (by omega), List.length_map]
    omega
  rw [e1, e2, ← List.map_drop, ← List.map_take]
end Br
namespace L2
open PySem PySem.Spec PyProof.Rows
end L2
namespace L2
open PySem PySem.Spec PyProof.Rows
end L2
namespace Br
open PySem L2 Bk Gen Gd Bd
end Br
namespace Br
open PySem L2 Bk Gen Gd Bd
end Br
namespace L2
open PySem PySem.Spec PyProof.Rows
end L2
namespace L2
open PySem PySem.Spec PyProof.Rows
end L2
namespace Br
open PySem L2 Bk Gen Gd Bd
end Br
namespace L2
open PySem PySem.Spec PyProof.Rows
end L2
namespace Br
open PySem L2 Bk Gen Gd Bd
end Br
namespace Br
open PySem L2 Bk Gen Gd Bd
end Br
namespace L2
open PySem PySem.Spec PyProof.Rows
end L2
namespace Fc
open PySem L2 Bk Gen Gd Bd
end Fc
namespace L2
open PySem PySem.Spec PyProof.Rows
theorem seq_cut {t u : TS} {D : Ends} {σ : St} {H : Hp} (h : ∀ N : St → Hp → Prop, N = u D → t { D with nx := N } σ H) : tSeq t u D σ H := h _ rfl
end L2
namespace Fc
open PySem L2 Bk Gen Gd Bd
end Fc
namespace Fc
open PySem L2 Bk Gen Gd Bd
end Fc
namespace K14
open PySem L2 Bk Gen Gd Bd Fc
abbrev sUntold : Stmt := top 24
inductive Why where
  | own
  | eld (e : Int)
  | rule (k : Int)
def Why.vs : Why → List V
  | .own => [.str (Str.ofString "own")]
  | .eld e => [.str (Str.ofString "elder"), .int e]
  | .rule k => [.str (Str.ofString "rule"), .int k]
structure Prw where
  n : Int
  j : Nat
  y : Why
  v : Int
def PrwAt (H : Hp) (a : Addr) (r : Prw) : Prop := ∃ y, H a = some (.tup [.int r.n, .str (propNames.getD r.j noName), .ref y, .int r.v]) ∧ H y = some (.tup r.y.vs)
theorem PrwAt.same {H H' : Hp} (s : Same H H') {a : Addr} {r : Prw} (h : PrwAt H a r) : PrwAt H' a r := by
  obtain ⟨y, e1, e2⟩ := h
  exact ⟨y, s _ _ e1, s _ _ e2⟩
def untolds : List Int := [0, 0, 0, 0, 1, 0, 4000, 2, 1, 1, 0, 100, 0]
def UnD (P : Program) (w : World) (K : PySem.W.Frag) (a : Addr) : Prop := ∃ kvs, KDict P w K a kvs ∧ ∀ j, j < 13 → ∃ t, valueAt kvs (.inr (propNames.getD j noName)) = some (.int (untolds.getD j 0) t)
def handed : List Str := [Str.ofString "face", Str.ofString "align"]
def untV (rows : List Prw) (e : Int) (n j : Nat) : Int := if j < 2 ∧ n ≠ 0 then ((rows[e.toNat * 13 + j]?).map Prw.v).getD 0 else untolds.getD j 0
def untY (e : Int) (n j : Nat) : Why := if j < 2 ∧ n ≠ 0 then .eld e else .own
def spUntold : Sp := fun vs H Q _ => ∃ (B Pp : Addr) (n j : Nat) (d : Nd) (ds : List Nd) (rows : List Prw), vs = [.ref B, .ref Pp, .int n, .str (propNames.getD j noName)] ∧ qaY (fun _ => True) H B ds ∧ ds[n]? = some d ∧ j < 13 ∧ qa1 PrwAt H Pp rows ∧ (j < 2 → n ≠ 0 → 0 ≤ d.e ∧ d.e.toNat * 13 + j < rows.length ∧ rows.length ≤ 100000) ∧
  ∀ (t y : Addr) (H' : Hp), Same H H' → H' t = some (.tup [.ref y, .int (untV rows d.e n j)]) → H' y = some (.tup (untY d.e n j).vs) → Q (.ref t) H'
theorem handed_in {j : Nat} (h : j < 13) : inV (.str (propNames.getD j noName)) (handed.map V.str) = decide (j < 2) := by
  rw [qbC]
  exact (show ∀ j, j < 13 → decide (propNames.getD j noName ∈ handed) = decide (j < 2) by decide +kernel) j h
theorem qd0 {j : Nat} (h : j < 13) : IsProp (propNames.getD j noName) j := by
  have := (show ∀ j, j < 13 → propNames[j]? = some (propNames.getD j noName) ∧ ∀ i, i < j → propNames[i]? ≠ some (propNames.getD j noName) by decide +kernel) j h
  exact this
section
variable {P : Program} {w : World} {K : PySem.W.Frag} {mg : Str → Option Value} {base : Heap}
theorem scUntold : FnScope ["book", "paper", "node", "word", "elder"] ["book", "paper", "node", "word"] (qag sUntold) := ⟨rfl, rfl, rfl, by decide +kernel, rfl, by decide +kernel, by decide +kernel⟩
theorem ok_untold {f a_PROPERTIES a_HANDED_DOWN a_UNTOLD : Addr} {fd : FuncData} (F : Fun K "untold_of" "untold_of" sUntold f fd) (T : BnD mg) (tE : ∃ t, mg "ELDER" = some (.int 0 t)) (tV : ∃ t, mg "VALUE" = some (.int 3 t)) (g_PROPERTIES : mg "PROPERTIES" = some (.ref a_PROPERTIES)) (PT : PropT K a_PROPERTIES) (g_HANDED_DOWN : mg "HANDED_DOWN" = some (.ref a_HANDED_DOWN)) (HD : ∀ H : Hp, SqT K H a_HANDED_DOWN (handed.map V.str)) (g_UNTOLD : mg "UNTOLD" = some (.ref a_UNTOLD)) (UD : UnD P w K a_UNTOLD) : FnOk P w K mg base CX0 1 f fd ["book", "paper", "node", "word"] spUntold := by
  refine F.ok scUntold (fun vs H Q E h => ?_) (fun cdv A outer s H vs Q E hr h => ?_)
  · obtain ⟨B, Pp, n, j, d, ds, rows, rfl, _⟩ := h
    rfl
  · obtain ⟨B, Pp, n, j, d, ds, rows, rfl, ⟨ab, hB, nd⟩, ed, j13, ⟨rs, hP, pr⟩, eld, q⟩ := h
    obtain ⟨_, g_ELDER⟩ := tE
    obtain ⟨_, g_VALUE⟩ := tV
    obtain ⟨o, ho1, ho2, ho3⟩ := PT.ob
    obtain ⟨kvs, KD, all⟩ := UD
    obtain ⟨tk, hv⟩ := all j j13
    have ip := qd0 j13
    refine ⟨_, (qad (qaK (PW.pt (qcw (qal op_notIn_seq (pv 3) (qax (v := .ref a_HANDED_DOWN) (by rfl) g_HANDED_DOWN rfl) (by with_unfolding_all rfl)) (qbX (qal op_eq (pv 2) qae (qas _))))) (qaf (qau (qaC (qaa (qaC (qaa qam pa_nil)) (qaa (qaj (r := rIxD P w K) ix_kdict (qax (v := .ref a_UNTOLD) (by rfl) g_UNTOLD rfl) (pv 3) (fun _ _ => rfl)) pa_nil))))) pss_nil)
      (qad (qap (i := 4) scUntold.nd (by rfl) (by trivial) (qaj ix_tup (qaj ix_list (pv 0) (pv 2) (fun _ _ => rfl)) (qax (v := .int 0) (by rfl) g_ELDER ⟨_, rfl⟩) (fun _ _ => rfl)))
      (qaf (qau (qaC (qaa (qaC (qaa qam (qaa (pv 4) pa_nil))) (qaa (qaj ix_tup (qaj ix_list (pv 1) (qaw op_add (qaw op_mul (pv 4) (qaB call_len_seq (by rfl) T.len b_len (qaa (qax (v := .ref a_PROPERTIES) (by rfl) g_PROPERTIES rfl) pa_nil))) (qbI PySem.F.plainAttrs_tuple PySem.F.slot_tuple_index PySem.F.type_tuple_index mt_index (qax (v := .ref a_PROPERTIES) (by rfl) g_PROPERTIES rfl) (qaa (pv 3) pa_nil))) (fun _ _ => rfl)) (qax (v := .int 3) (by rfl) g_VALUE ⟨_, rfl⟩) (fun _ _ => rfl)) pa_nil))))))), ?_⟩
    try dsimp only [cxOf, Cx.nox]
    have own : ¬ (j < 2 ∧ n ≠ 0) → ∀ y, H y = none → ∀ t, upd H y (.tup [.str (Str.ofString "own")]) t = none → Q (.ref t) (upd (upd H y (.tup [.str (Str.ofString "own")])) t (.tup [.ref y, .int (untolds.getD j 0)])) := fun c y hy t ht => by
      have s1 := qac hy (.tup [.str (Str.ofString "own")])
      have s2 := qac ht (.tup [.ref y, .int (untolds.getD j 0)])
      refine q t y _ (s1.trans s2) ?_ ?_
      · unfold untV
        rw [if_neg c]
        exact qab
      · unfold untY
        rw [if_neg c]
        exact s2 _ _ qab
    refine ⟨_, rfl, a_HANDED_DOWN, _, rfl, .inr (HD _), rfl, qbh _, _, rfl, ?_⟩
    rw [if_pos rfl, handed_in j13]
    by_cases h2 : j < 2
    rotate_left
    · rw [decide_eq_false h2]
      exact iteT ⟨by show 1 ≤ sizeLine; decide, fun y hy => ⟨_, rfl, a_UNTOLD, _, kvs, _, .int (untolds.getD j 0), rfl, rfl, KD, hv, ⟨tk, rfl⟩, by show 2 ≤ sizeLine; decide, fun t ht => own (fun z => h2 z.1) y hy t ht⟩⟩
    rw [decide_eq_true h2]
    refine iteF ⟨_, rfl, rfl, _, rfl, ?_⟩
    by_cases h0 : n = 0
    · rw [decide_eq_true (show V.int (n : Int) = V.int 0 by rw [h0]; rfl)]
      exact iteT ⟨by show 1 ≤ sizeLine; decide, fun y hy => ⟨_, rfl, a_UNTOLD, _, kvs, _, .int (untolds.getD j 0), rfl, rfl, KD, hv, ⟨tk, rfl⟩, by show 2 ≤ sizeLine; decide, fun t ht => own (fun z => z.2 h0) y hy t ht⟩⟩
    rw [decide_eq_false (show ¬ V.int (n : Int) = V.int 0 from fun z => h0 (by have := V.int.inj z; omega))]
    obtain ⟨e0, el, rl⟩ := eld h2 h0
    obtain ⟨c, ec, nc⟩ := nd.get ed
    obtain ⟨m', s', hc, _⟩ := nc.ex
    refine iteF ⟨_, rfl, _, rfl, B, _, _, _, rfl, rfl, SqL.of hB, qaz ec, c, _, _, _, rfl, rfl, SqT.of hc, rfl, ?_⟩
    refine ⟨_, rfl, by show 2 ≤ sizeLine; decide, fun y hy => ?_⟩
    have s1 := qac hy (.tup [.str (Str.ofString "elder"), .int d.e])
    have hY := qab (H := H) (a := y) (o := .tup [.str (Str.ofString "elder"), .int d.e])
    generalize upd H y (.tup [.str (Str.ofString "elder"), .int d.e]) = H1 at s1 hY ⊢
    have er : rows[d.e.toNat * 13 + j]? = some rows[d.e.toNat * 13 + j] := List.getElem?_eq_getElem el
    obtain ⟨r, err, y2, hr1, _⟩ := pget pr er
    refine ⟨_, rfl, _, rfl, a_PROPERTIES, _, rfl, .inr (PT.tup _), _, _, rfl, rfl, .inr ⟨by decide, by decide⟩, .inr (.inl ⟨rfl, o, ho1, ho2, ho3⟩), _, rfl, a_PROPERTIES, propNames, _, j, rfl, rfl, PT.tup _, ip.1, ip.2, _, _, rfl, rfl, Pp, _, _, _, rfl, rfl, SqL.of (s1 _ _ hP), (by
      rw [show d.e * (((propNames.map V.str).length : Nat) : Int) + (j : Int) = ((d.e.toNat * 13 + j : Nat) : Int) from by
        rw [show (((propNames.map V.str).length : Nat) : Int) = 13 from rfl]
        omega]
      exact qaz err), r, _, _, _, rfl, rfl, SqT.of (s1 _ _ hr1), rfl, by show 2 ≤ sizeLine; decide, fun t ht => ?_⟩
    have s2 := qac ht (.tup [.ref y, .int rows[d.e.toNat * 13 + j].v])
    refine q t y _ (s1.trans s2) ?_ ?_
    · unfold untV
      rw [if_pos ⟨h2, h0⟩, er]
      exact qab
    · unfold untY
      rw [if_pos ⟨h2, h0⟩]
      exact s2 _ _ hY
end
end K14
namespace K14
open PySem L2 Bk Gen Gd Bd Fc
abbrev sWinners : Stmt := top 21
def qa5 (ds : List Nd) (l : Nat) (d : Nd) (rl : List Rl) (i : Nat) : List Nat := (List.range i).filter fun k => match rl[k]? with
  | some x => qaV ds l d x
  | none => false
theorem qbV {ds : List Nd} {l : Nat} {d : Nd} {rl : List Rl} {i : Nat} {x : Rl} (e : rl[i]? = some x) : qa5 ds l d rl (i + 1) = if qaV ds l d x = true then qa5 ds l d rl i ++ [i] else qa5 ds l d rl i := by
  unfold qa5
  rw [List.range_succ, List.filter_append]
  show _ ++ ([i].filter _) = _
  rw [List.filter_cons]
  simp only [e]
  by_cases h : qaV ds l d x = true
  · rw [if_pos h, if_pos h]
    rfl
  · rw [if_neg h, if_neg h]
    simp
theorem qb4 (ds : List Nd) (l : Nat) (d : Nd) (rl : List Rl) (i : Nat) : (qa5 ds l d rl i).length ≤ i := Nat.le_trans (List.length_filter_le _ _) (by rw [List.length_range]; exact Nat.le_refl _)
theorem qc3 {ds : List Nd} {l : Nat} {d : Nd} {rl : List Rl} {i n : Nat} (h : n ∈ qa5 ds l d rl i) : n < i := List.mem_range.mp (List.mem_filter.mp h).1
def winO (rl : List Rl) (wd : Str) (ns : List Nat) : Option Nat := (setting rl wd ns)[winI rl (setting rl wd ns)]?
theorem winV_eq (rl : List Rl) (wd : Str) (ns : List Nat) : winV rl wd ns = match winO rl wd ns with | some n => .int n | none => .non := rfl
theorem qdZ {rl : List Rl} {wd : Str} {ns : List Nat} {k : Nat} (h : winO rl wd ns = some k) : ∃ x, rl[k]? = some x ∧ qba x wd = true := by
  have := List.mem_of_getElem? h
  have e := (List.mem_filter.mp this).2
  cases ex : rl[k]? with
  | none => rw [ex] at e; cases e
  | some x => rw [ex] at e; exact ⟨x, rfl, e⟩
def setV (x : Rl) (wd : Str) : Int := ((x.sets.find? fun p => decide (p.1 = wd)).map Prod.snd).getD 0
theorem qcZ {x : Rl} {wd : Str} (h : qba x wd = true) : valV (oddK x.sets) (.inr wd) = some (.int (setV x wd)) := by
  unfold qba at h
  rw [qcU] at h ⊢
  unfold setV
  cases e : x.sets.find? fun p => decide (p.1 = wd) with
  | none => rw [e] at h; cases h
  | some p => rfl
def rowN (ds : List Nd) (rl : List Rl) (l : Nat) (d : Nd) (pre : List Prw) (n j : Nat) : Prw :=
  match winO rl (propNames.getD j noName) (qa5 ds l d rl rl.length) with
  | some k => ⟨n, j, .rule k, match rl[k]? with | some x => setV x (propNames.getD j noName) | none => 0⟩
  | none => ⟨n, j, untY d.e n j, untV pre d.e n j⟩
theorem qeS (ds : List Nd) (rl : List Rl) (l : Nat) (d : Nd) (pre : List Prw) (n j : Nat) : (rowN ds rl l d pre n j).n = n ∧ (rowN ds rl l d pre n j).j = j := by
  unfold rowN
  split <;> exact ⟨rfl, rfl⟩
def PapOk (ds : List Nd) (rl : List Rl) (rows : List Prw) : Prop := ∀ m r, rows[m]? = some r → ∃ l d, ds[m / 13]? = some d ∧ Lev ds (m / 13) l ∧ r = rowN ds rl l d (rows.take m) (m / 13) (m % 13)
theorem PapOk.snoc {ds : List Nd} {rl : List Rl} {rows : List Prw} (h : PapOk ds rl rows) {n j l : Nat} {d : Nd} (e : rows.length = 13 * n + j) (hj : j < 13) (ed : ds[n]? = some d) (lv : Lev ds n l) : PapOk ds rl (rows ++ [rowN ds rl l d rows n j]) := by
  intro m r hm
  rcases Nat.lt_trichotomy m rows.length with c | c | c
  · rw [List.getElem?_append_left c] at hm
    obtain ⟨l, d, e1, e2, e3⟩ := h m r hm
    exact ⟨l, d, e1, e2, by rw [List.take_append_of_le_length (Nat.le_of_lt c)]; exact e3⟩
  · rw [c, List.getElem?_append_right (Nat.le_refl _), Nat.sub_self] at hm
    have hm : rowN ds rl l d rows n j = r := Option.some.inj hm
    have h1 : m / 13 = n := by omega
    have h2 : m % 13 = j := by omega
    rw [h1, h2, c]
    exact ⟨l, d, ed, lv, by rw [List.take_left]; exact hm.symm⟩
  · rw [List.getElem?_eq_none (by rw [List.length_append]; simp; omega)] at hm
    cases hm
theorem PrwAt.tups {H H' : Hp} (s : Tups H H') {a : Addr} {r : Prw} (h : PrwAt H a r) : PrwAt H' a r := by
  obtain ⟨y, e1, e2⟩ := h
  exact ⟨y, s _ _ e1, s _ _ e2⟩
theorem qbl {H : Hp} {Pt : Addr} {pos : Pos} {q : Str} (t : TabOk H Pt pos q) {b : Addr} {o : HO} (e : H b = some o) (n : ∀ qs, o ≠ .tbl qs) : b ≠ Pt := fun z => by
  obtain ⟨ps, e', _⟩ := t
  rw [z, e'] at e
  cases e
  exact n _ rfl
theorem qeH {H H' : Hp} {Pt : Addr} {pos : Pos} {q : Str} (t : TabOk H Pt pos q) (g : GSame Pt H H') : Tups H H' := fun b xs e => g b _ (qbl t e fun _ z => nomatch z) e
theorem GSame.of {Pt : Addr} {H H' : Hp} (s : Same H H') : GSame Pt H H' := fun b o _ e => s b o e
theorem GSame.trans {Pt : Addr} {H H1 H2 : Hp} (a : GSame Pt H H1) (b : GSame Pt H1 H2) : GSame Pt H H2 := fun c o n e => b c o n (a c o n e)
theorem GSame.put {Pt : Addr} {H H' : Hp} {L : Addr} {o : HO} (s : GSame Pt H H') (h : H L = none) : GSame Pt H (upd H' L o) := fun b u n e => by rw [qai (qao e h)]; exact s b u n e
theorem qcs {Pt : Addr} {H H' : Hp} {B : Addr} {ds : List Nd} (t : ∃ pos q, TabOk H Pt pos q) (g : GSame Pt H H') (h : qaY (fun b => b ≠ Pt) H B ds) : qaY (fun b => b ≠ Pt) H' B ds := by
  obtain ⟨_, _, t⟩ := t
  obtain ⟨as, e, nd⟩ := h
  exact ⟨as, g _ _ (qbl t e fun _ z => nomatch z) e, nd.keep g fun _ n _ => n⟩
theorem qcT {Pt : Addr} {H : Hp} {B : Addr} {ds : List Nd} (h : qaY (fun b => b ≠ Pt) H B ds) : qaY (fun _ => True) H B ds := by
  obtain ⟨as, e, nd⟩ := h
  exact ⟨as, e, nd.keep KeepN.refl fun _ _ _ => trivial⟩
def qca (Pt : Addr) : Sp := fun vs H Q _ => ∃ (B R : Addr) (ds : List Nd) (rl : List Rl), vs = [.ref B, .ref R] ∧ qaY (fun b => b ≠ Pt) H B ds ∧ ds.length ≤ 69 ∧ (∀ n, n < ds.length → ∃ l, l ≤ n ∧ Lev ds n l) ∧ (∀ n d, ds[n]? = some d → n ≠ 0 → 0 ≤ d.e ∧ d.e.toNat < n) ∧ qbp H R rl ∧ rl.length ≤ 100 ∧ (∀ x ∈ rl, qcA x) ∧ TabOk H Pt lam.2.2.2 lamQ ∧
  ∀ (L : Addr) (rows : List Prw) (H' : Hp), GSame Pt H H' → TabOk H' Pt lam.2.2.2 lamQ → H L = none → qa1 PrwAt H' L rows → rows.length = 13 * ds.length → PapOk ds rl rows → Q (.ref L) H'
section
variable {P : Program} {w : World} {K : PySem.W.Frag} {mg : Str → Option Value} {base : Heap}
theorem scWinners : FnScope ["book", "rules", "paper", "node", "fitting", "word", "winner"] ["book", "rules"] (qag sWinners) := ⟨rfl, rfl, rfl, by decide +kernel, rfl, by decide +kernel, by decide +kernel⟩
theorem ok_winners {f a_PROPERTIES Pt : Addr} {fd : FuncData} (F : Fun K "winners" "winners" sWinners f fd) (T : BnD mg) (tS : ∃ t, mg "SETS" = some (.int 4 t)) (g_PROPERTIES : mg "PROPERTIES" = some (.ref a_PROPERTIES)) (PT : PropT K a_PROPERTIES)
    (F_fits : Fx P w K mg base CX0 2 "fits" ["book", "rule", "node"] spFits) (F_winner_of : Fx P w K mg base CX0 5 "winner_of" ["rules", "fitting", "word"] (qcW Pt)) (F_untold_of : Fx P w K mg base CX0 1 "untold_of" ["book", "paper", "node", "word"] spUntold) : FnOk P w K mg base CX0 6 f fd ["book", "rules"] (qca Pt) := by
  refine F.ok scWinners (fun vs H Q E h => ?_) (fun cdv A outer s H vs Q E hr h => ?_)
  · obtain ⟨B, R, ds, rl, rfl, _⟩ := h
    rfl
  · obtain ⟨B, R, ds, rl, rfl, hBk, l69, levs, elds, hRl, r100, sok, tb, q⟩ := h
    obtain ⟨_, g_SETS⟩ := tS
    have hr_winner_of : Room 5 _ := hr
    have hr_fits : Room 2 _ := hr.mono (by decide)
    have hr_untold_of : Room 1 _ := hr.mono (by decide)
    have hu1 := Nat.lt_of_le_of_lt (Nat.add_le_add_left (show 1 ≤ 64 by decide) _) hr.units
    refine ⟨_, (qad (qap (i := 2) scWinners.nd (by rfl) (by trivial) (qaA pa_nil))
      (qad (qa4 PassesOwn.never (by rfl) (qaD (by rfl) T.range (qaa (qaB call_len_seq (by rfl) T.len b_len (qaa (pv 0) pa_nil)) pa_nil)) (qan (i := 3) scWinners.nd (by rfl) (by trivial))
      (qad (qcb (i := 4) (by rfl) scWinners.nd (by rfl) (by trivial) (own := ["number", "rule"]) (ix := [0, 3]) (frees := ["book", "node"]) (CompScope.frees (by rfl) (by decide +kernel) (by decide +kernel) (by decide +kernel) (by rfl) (by decide +kernel) (by first | exact qb1 (by rfl) | exact qcg (by rfl) (by rfl))) (qdu (by rfl) T.enumerate (qaa (pv 1) pa_nil)) (fun cl C s2 H2 fp => (qcr K (n := 2) (by rfl) (by rfl) (qay (qan (i := 0) (by show (["number", "rule", "book", "node"] : List Str).Nodup; decide +kernel) (by rfl) (by trivial) (by trivial)) (qay (qan (i := 1) (by show (["number", "rule", "book", "node"] : List Str).Nodup; decide +kernel) (by rfl) (by trivial) (by trivial)) pgs_nil)))) (fun cl C s2 H2 fp => (qbw (qcJ (qar F_fits hr_fits (by rfl) qaq (qaa (pv 2) (qaa (pv 1) (qaa (pv 3) pa_nil))))))) (fun cl C s2 H2 fp => (pv 0)))
      (qaf (qa4 PassesOwn.never (by rfl) (qeg (qax (v := .ref a_PROPERTIES) (by rfl) g_PROPERTIES rfl)) (qan (i := 5) scWinners.nd (by rfl) (by trivial))
      (qad (qap (i := 6) scWinners.nd (by rfl) (by trivial) (qar F_winner_of hr_winner_of (by rfl) qaq (qaa (pv 1) (qaa (pv 4) (qaa (pv 5) pa_nil)))))
      (qaf (qaK (qct (qeO (pv 6))) (qaf (qaN (qbI PySem.F.plainAttrs_list PySem.F.slot_list_append PySem.F.type_list_append mt_append (pv 2) (qaa (qaw op_catT (qaC (qaa (pv 3) (qaa (pv 5) pa_nil))) (qar F_untold_of hr_untold_of (by rfl) qaq (qaa (pv 0) (qaa (pv 2) (qaa (pv 3) (qaa (pv 5) pa_nil)))))) pa_nil)))) (qaf (qaN (qbI PySem.F.plainAttrs_list PySem.F.slot_list_append PySem.F.type_list_append mt_append (pv 2) (qaa (qaC (qaa (pv 3) (qaa (pv 5) (qaa (qaC (qaa qam (qaa (pv 6) pa_nil))) (qaa (qet hu1 (qaP (qbW (by rfl)) (by rfl) T.dict b_dict (qaa (qaj ix_tup (qaj ix_list (pv 1) (pv 6) (fun _ _ => rfl)) (qax (v := .int 4) (by rfl) g_SETS ⟨_, rfl⟩) (fun _ _ => rfl)) pa_nil)) (pv 5) (fun _ _ => rfl)) pa_nil))))) pa_nil)))))))))))
      (qaf (qau (pv 2))))), ?_⟩
    try dsimp only [cxOf, Cx.nox]
    refine seq_cut fun Ca0 hCa0 => ?_
    refine ⟨by show 0 ≤ sizeLine; decide, fun L hL => ?_⟩
    have s1 := qac hL (.lst [])
    have hLL : upd H L (.lst []) L = some (.lst (([] : List Addr).map V.ref)) := qab
    have tb1 : TabOk (upd H L (.lst [])) Pt lam.2.2.2 lamQ := TabOk.g (fun b o _ e => s1 b o e) tb
    generalize upd H L (.lst []) = H1 at s1 hLL tb1 ⊢
    have hBk1 : qaY (fun b => b ≠ Pt) H1 B ds := qcs ⟨_, _, tb⟩ (GSame.of s1) hBk
    obtain ⟨ab, hB1, nd1⟩ := id hBk1
    have lb : ((ab.map V.ref).length : Nat) = ds.length := by rw [List.length_map, nd1.length]
    subst hCa0
    try dsimp only [qaS, tNext]
    refine seq_cut fun Ca1 hCa1 => ?_
    refine ⟨_, rfl, B, _, rfl, .inl (SqL.of hB1), _, rfl, by omega, by omega, qaI (fun i σ H' => (∃ v3 v4 v5 v6, σ = [some (.ref B), some (.ref R), some (.ref L), v3, v4, v5, v6]) ∧ GSame Pt H H' ∧ TabOk H' Pt lam.2.2.2 lamQ ∧ ∃ rows, qa1 PrwAt H' L rows ∧ rows.length = 13 * i ∧ PapOk ds rl rows) ⟨⟨none, none, none, none, rfl⟩, GSame.of s1, tb1, [], ⟨[], hLL, .nil⟩, rfl, fun m r z => by simp at z⟩ ?_ ?_⟩
    · rintro n σ H2 hn ⟨⟨v3, v4, v5, v6, rfl⟩, g2, tb2, rows, lst2, len2, pap2⟩
      have hn' : n < ds.length := by rw [← lb]; simpa using hn
      rw [show (0 : Int) + (n : Int) = (n : Int) from Int.zero_add _]
      have ed : ds[n]? = some ds[n] := List.getElem?_eq_getElem hn'
      obtain ⟨l, ln, lv⟩ := levs n hn'
      generalize ds[n] = d at ed
      have hRl2 : qbp H2 R rl := qdl (fun b o z e => g2 b o (qbl tb e z) e) hRl
      have hBk2 := qcs ⟨_, _, tb⟩ g2 hBk
      obtain ⟨rs, hR2, pr2⟩ := id hRl2
      have lr : (rs.map V.ref).length = rl.length := by rw [List.length_map, Paired.length pr2]
      refine seq_cut fun Cb0 hCb0 => ?_
      refine ⟨_, rfl, R, rfl, ⟨_, SqL.of hR2⟩, qc9 (xs := rs.map V.ref) (fun i ys σ' H' => Same H2 H' ∧ ys = (qa5 ds l d rl i).map (fun (k : Nat) => V.int k) ∧ ∃ a b, σ' = [a, b, some (.ref B), some (.int n)]) (by rw [lr]; exact qak (by omega)) ⟨Same.refl _, rfl, none, none, rfl⟩ ?_ ?_ ?_⟩
      · rintro i ys σ' H' hi ⟨s3, rfl, _⟩
        exact ⟨SqL.of (s3 _ _ hR2), by rw [List.length_map]; exact qb4 _ _ _ _ _⟩
      · rintro i x ys σ' H' t hx ht ⟨s3, rfl, a, b, rfl⟩
        obtain ⟨r, er, rfl⟩ := qbH hx
        obtain ⟨y, ey, ry⟩ := qa8 pr2 er
        have s4 := s3.trans (qac ht (.tup [.int (i : Nat), .ref r]))
        refine ⟨t, _, rfl, SqT.of qab, rfl, _, _, rfl, _, _, rfl, rfl, ?_⟩
        refine ⟨_, rfl, _, rfl, _, rfl, B, r, n, l, d, y, ds, _, _, rfl, qcs ⟨_, _, tb2⟩ (GSame.of s4) hBk2, ry.keep s4.keep fun _ n _ => n, ed, lv, by omega, fun H5 s5 => ⟨_, rfl, ?_⟩⟩
        have s6 := s4.trans s5
        rw [qbV ey]
        by_cases hf : qaV ds l d y = true
        · rw [hf, if_pos rfl]
          refine iteT ⟨_, rfl, s6, ?_, _, _, rfl⟩
          rw [List.map_append]
          rfl
        · rw [if_neg hf, show qaV ds l d y = false by simpa using hf]
          exact iteF ⟨s6, rfl, _, _, rfl⟩
      rintro ys σ' H3 ⟨s3, rfl, _⟩ D hD
      rw [lr]
      have hD2 : H2 D = none := s3.free hD
      have s4 := s3.trans (qac hD (.lst ((qa5 ds l d rl rl.length).map (fun (k : Nat) => V.int k))))
      have hDD := qab (H := H3) (a := D) (o := .lst ((qa5 ds l d rl rl.length).map (fun (k : Nat) => V.int k)))
      generalize upd H3 D (.lst ((qa5 ds l d rl rl.length).map (fun (k : Nat) => V.int k))) = H4 at s4 hDD ⊢
      have g4 : GSame Pt H H4 := g2.trans (GSame.of s4)
      have tb4 : TabOk H4 Pt lam.2.2.2 lamQ := TabOk.g (fun b o _ e => s4 b o e) tb2
      have lst4 : qa1 PrwAt H4 L rows := by
        obtain ⟨as, e, p⟩ := lst2
        exact ⟨as, s4 _ _ e, p.mono fun a r h => h.same s4⟩
      have hDL : D ≠ L := by
        obtain ⟨as, e, _⟩ := lst2
        exact qah ⟨_, e⟩ hD2
      clear s3 hD
      subst hCb0
      try dsimp only [qaS, tNext]
      refine ⟨a_PROPERTIES, rfl, ⟨_, PT.tup _⟩, for_tup (xs := propNames.map V.str) (fun j σ H' => (∃ v5 v6, σ = [some (.ref B), some (.ref R), some (.ref L), some (.int n), some (.ref D), v5, v6]) ∧ GSame Pt H H' ∧ H' D = some (.lst ((qa5 ds l d rl rl.length).map (fun (k : Nat) => V.int k))) ∧ TabOk H' Pt lam.2.2.2 lamQ ∧ ∃ rows, qa1 PrwAt H' L rows ∧ rows.length = 13 * n + j ∧ PapOk ds rl rows) ⟨⟨_, _, rfl⟩, g4, hDD, tb4, rows, lst4, len2, pap2⟩ (fun _ _ _ _ _ => PT.tup _) ?_ ?_⟩
      · rintro j x σ H5 hx ⟨⟨v5, v6, rfl⟩, g5, hD5, tb5, rows5, lst5, len5, pap5⟩
        rw [List.getElem?_map] at hx
        obtain ⟨wd, ewd, rfl⟩ := Option.map_eq_some_iff.mp hx
        have j13 : j < 13 := (List.getElem?_eq_some_iff.mp ewd).1
        obtain rfl : propNames.getD j noName = wd := by rw [List.getD_eq_getElem?_getD, ewd]; rfl
        refine seq_cut fun Cc0 hCc0 => ?_
        refine ⟨_, rfl, _, rfl, _, rfl, R, D, _, rl, _, rfl, qdl (fun b o z e => g5 b o (qbl tb e z) e) hRl, hD5, Nat.le_trans (qb4 _ _ _ _ _) r100, fun k hk => qc3 hk, sok, tb5, fun H6 g6 tb6 => ?_⟩
        have gg : GSame Pt H H6 := g5.trans g6
        have tu6 := qeH tb5 g6
        have hD6 : H6 D = _ := g6 _ _ (qbl tb5 hD5 fun _ z => nomatch z) hD5
        obtain ⟨as, eL5, p5⟩ := lst5
        have eL6 : H6 L = some (.lst (as.map V.ref)) := g6 _ _ (qbl tb5 eL5 fun _ z => nomatch z) eL5
        have p6 : Paired (PrwAt H6) as rows5 := p5.mono fun a r h => h.tups tu6
        have la : as.length = 13 * n + j := by rw [Paired.length p6, len5]
        clear g5 g6 tb5 tu6 eL5 p5 hD5
        have fin : ∀ (t : Addr) (H7 : Hp), Same H6 H7 → PrwAt H7 t (rowN ds rl l d rows5 n j) → (∃ v5 v6, [some (V.ref B), some (.ref R), some (.ref L), some (.int n), some (.ref D), some (.str (propNames.getD j noName)), some (winV rl (propNames.getD j noName) (qa5 ds l d rl rl.length))] = [some (V.ref B), some (.ref R), some (.ref L), some (.int n), some (.ref D), v5, v6]) ∧ GSame Pt H (upd H7 L (.lst (as.map V.ref ++ [.ref t]))) ∧ upd H7 L (.lst (as.map V.ref ++ [.ref t])) D = some (.lst ((qa5 ds l d rl rl.length).map (fun (k : Nat) => V.int k))) ∧ TabOk (upd H7 L (.lst (as.map V.ref ++ [.ref t]))) Pt lam.2.2.2 lamQ ∧ ∃ rows, qa1 PrwAt (upd H7 L (.lst (as.map V.ref ++ [.ref t]))) L rows ∧ rows.length = 13 * n + (j + 1) ∧ PapOk ds rl rows := fun t H7 s7 ht => by
          have eL7 := s7 _ _ eL6
          refine ⟨⟨_, _, rfl⟩, (gg.trans (GSame.of s7)).put hL, ?_, TabOk.g (fun b o nn e => ?_) tb6, rows5 ++ [rowN ds rl l d rows5 n j], ⟨as ++ [t], by rw [qab, List.map_append]; rfl, (p6.mono fun a r h => (h.same s7).tups (Tups.lst eL7)).snoc (ht.tups (Tups.lst eL7))⟩, by rw [List.length_append, len5]; rfl, pap5.snoc len5 j13 ed lv⟩
          · rw [qai hDL]
            exact s7 _ _ hD6
          · rw [qai (fun z => by rw [z, eL6] at e; cases e; exact nn _ rfl)]
            exact s7 _ _ e
        subst hCc0
        try dsimp only [qaS, tNext]
        rw [winV_eq] at fin ⊢
        cases hw : winO rl (propNames.getD j noName) (qa5 ds l d rl rl.length) with
        | none =>
          rw [hw] at fin
          have er : rowN ds rl l d rows5 n j = ⟨n, j, untY d.e n j, untV rows5 d.e n j⟩ := by unfold rowN; rw [hw]
          rw [er] at fin
          refine ⟨_, rfl, _, rfl, iteT ?_⟩
          refine ⟨_, rfl, .inl ⟨rfl, _, SqL.of eL6⟩, _, rfl, _, rfl, by show 2 ≤ sizeLine; decide, fun t0 h0 => ?_⟩
          have s7 := qac h0 (.tup [.int (n : Int), .str (propNames.getD j noName)])
          have e0 := qab (H := H6) (a := t0) (o := .tup [.int (n : Int), .str (propNames.getD j noName)])
          generalize upd H6 t0 (.tup [.int (n : Int), .str (propNames.getD j noName)]) = H7 at s7 e0 ⊢
          refine ⟨_, rfl, _, rfl, _, rfl, _, rfl, B, L, n, j, d, ds, rows5, rfl, qcT (qcs ⟨_, _, tb⟩ (gg.trans (GSame.of s7)) hBk), ed, j13, ⟨as, s7 _ _ eL6, p6.mono fun a r h => h.same s7⟩, fun _ h => ?_, fun t1 y H8 s8 e1 ey => ?_⟩
          · obtain ⟨h1, h2⟩ := elds n d ed h
            exact ⟨h1, by omega, by omega⟩
          refine ⟨t0, t1, _, _, rfl, rfl, SqT.of (s8 _ _ e0), SqT.of e1, by simp, by show 4 ≤ sizeLine; decide, fun z => by simp at z, fun _ t2 h2 => ?_⟩
          have s9 := qac h2 (.tup ([V.int (n : Int), .str (propNames.getD j noName)] ++ [V.ref y, .int (untV rows5 d.e n j)]))
          refine ⟨L, _, _, rfl, rfl, s9 _ _ (s8 _ _ (s7 _ _ eL6)), qak (by rw [List.length_map]; omega), ?_⟩
          exact fin t2 _ (s7.trans (s8.trans s9)) ⟨y, qab, s9 _ _ ey⟩
        | some k =>
          rw [hw] at fin
          obtain ⟨x, ex, sw⟩ := qdZ hw
          have er : rowN ds rl l d rows5 n j = ⟨n, j, .rule k, setV x (propNames.getD j noName)⟩ := by unfold rowN; rw [hw]; simp only [ex]
          rw [er] at fin
          obtain ⟨rs6, hR6, pr6⟩ := qdl (fun b o z e => gg b o (qbl tb e z) e) hRl
          obtain ⟨r, er6, _, sa, sv, hr6, _, hs6, ps⟩ := pget pr6 ex
          obtain ⟨as', rfl, po⟩ := qc2 ps
          have so := sok _ (List.mem_of_getElem? ex)
          refine ⟨_, rfl, _, rfl, iteF ?_⟩
          refine ⟨_, rfl, .inl ⟨rfl, _, SqL.of eL6⟩, _, rfl, _, rfl, _, rfl, by show 2 ≤ sizeLine; decide, fun y hy => ?_⟩
          have s7 := qac hy (.tup [.str (Str.ofString "rule"), .int (k : Int)])
          have ey := qab (H := H6) (a := y) (o := .tup [.str (Str.ofString "rule"), .int (k : Int)])
          generalize upd H6 y (.tup [.str (Str.ofString "rule"), .int (k : Int)]) = H7 at s7 ey ⊢
          refine ⟨_, rfl, _, rfl, R, _, _, _, rfl, rfl, SqL.of (s7 _ _ hR6), qaz er6, r, _, _, _, rfl, rfl, SqT.of (s7 _ _ hr6), rfl, sa, as', oddK x.sets, rfl, SqL.of (s7 _ _ hs6), qdf (po.mono fun a p h => h.same s7), fun dd hd => ?_⟩
          rw [qb2 so.1]
          have s8 := s7.trans (qac hd (.dK (oddK x.sets)))
          refine ⟨_, rfl, dd, .int (setV x (propNames.getD j noName)), rfl, .inl ⟨_, .inr _, Rd.of qab, rfl, (qcZ sw).symm⟩, by show 4 ≤ sizeLine; decide, fun t ht => ?_⟩
          have s9 := s8.trans (qac ht (.tup [V.int (n : Int), .str (propNames.getD j noName), .ref y, .int (setV x (propNames.getD j noName))]))
          refine ⟨L, _, _, rfl, rfl, s9 _ _ eL6, qak (by rw [List.length_map]; omega), ?_⟩
          refine fin t _ s9 ⟨y, qab, ?_⟩
          exact ((qac hd (.dK (oddK x.sets))).trans (qac ht _)) _ _ ey
      · rintro σ H5 ⟨⟨v5, v6, rfl⟩, g5, _, tb5, rows5, lst5, len5, pap5⟩
        exact ⟨⟨_, _, _, _, rfl⟩, g5, tb5, rows5, lst5, len5, pap5⟩
    · rintro σ H2 ⟨⟨v3, v4, v5, v6, rfl⟩, g2, tb2, rows, lst2, len2, pap2⟩
      subst hCa1
      try dsimp only [qaS, tNext]
      refine ⟨_, rfl, q L rows H2 g2 tb2 hL lst2 ?_ pap2⟩
      rw [len2]
      congr 1
end
end K14
namespace HT
open PySem PySem.Spec PyProof.Rows
def lexGe : List Int → List Int → Bool
  | [], [] => true
  | [], _ :: _ => false
  | _ :: _, [] => true
  | x :: xs, y :: ys => if x = y then lexGe xs ys else decide (y ≤ x)
theorem rcGe_int (A : Around) (s : Shared) (a : Int) (t : Tok) (c : Int) (u : Tok) (prog : Program) (w : World) (E : Value → Shared → Prop) (Q : Value → Shared → Prop) (h : Q (.bool (decide (c ≤ a))) s) :
    wpAny (model prog w) A (richCompare .GtE (.int a t) (.int c u)) Q E s :=
  (PyProof.Rows.ge_int h : wpAny (model prog w) A (compareOp .GtE (.int a t) (.int c u)) Q E s)
section
open PySem.SeqAt
open PySem.AutoSeq1 (wpAny_loadPart')
open PySem.MeetsSeq PySem.MeetsSeq2 PySem.MeetsSeq3
theorem qd2 {vs : List Value} {ns : List Int} (h : IntsAre vs ns) {i : Nat} (hi : i < ns.length) : ∃ t, vs[i]? = some (.int ns[i] t) := by
  induction h generalizing i with
  | nil => exact absurd hi (Nat.not_lt_zero _)
  | cons a t h' ih =>
    cases i with
    | zero => exact ⟨t, rfl⟩
    | succ i => exact ih (Nat.lt_of_succ_lt_succ hi)
theorem ge_loop (l b : Addr) (items items2 : Array Value) (n n2 : Nat) (dd dd2 : Option Addr) (sl sl2 : Array (Option Value)) (ns ms : List Int) (hi : IntsAre items.toList ns) (hj : IntsAre items2.toList ms) (hsz : ns.length = ms.length) (k : Nat) :
    ∀ i : Nat, ns.length - i = k → Meets (Builtin.«list.__eq__.loop» ⟨[.ref l, .ref b, rawInt i, rawInt 5], []⟩)
      (fun _ R s => s.heap.get? l = some { cls := .type "list", dict := dd, data := .seq items n, slots := sl } ∧ s.heap.get? b = some { cls := .type "list", dict := dd2, data := .seq items2 n2, slots := sl2 } ∧
        R (.ok (.ret (.bool (lexGe (ns.drop i) (ms.drop i))))) s) := by
  have z1 : items.size = ns.length := by rw [← hi.length]; simp
  have z2 : items2.size = ms.length := by rw [← hj.length]; simp
  induction k with
  | zero =>
    intro i hk prog w A R s h
    obtain ⟨hp, g, d, tk, os⟩ := s; obtain ⟨hl, hb, h⟩ := h
    wp_walk using wpAny_loadPart' hl, wpAny_loadPart' hb
    have hi1 : items[((i : Nat) : Int).toNat]? = none := by simp; omega
    have hi2 : items2[((i : Nat) : Int).toNat]? = none := by simp; omega
    have hd : ns.drop i = [] := by simp; omega
    have hd2 : ms.drop i = [] := by simp; omega
    rw [hd, hd2] at h
    rw [hi1, hi2]
    wp_walk using wpAny_loadPart' hl, wpAny_loadPart' hb
    show R (.ok (.ret (.bool (decide (items.size ≥ items2.size))))) _
    rw [z1, z2, hsz]
    simpa [lexGe] using h
  | succ k ih =>
    intro i hk prog w A R s h
    obtain ⟨hp, g, d, tk, os⟩ := s; obtain ⟨hl, hb, h⟩ := h
    wp_walk using wpAny_loadPart' hl, wpAny_loadPart' hb
    have hlt : i < ns.length := by omega
    have hlt2 : i < ms.length := by omega
    obtain ⟨t, et⟩ := qd2 hi hlt
    obtain ⟨u, eu⟩ := qd2 hj hlt2
    have hi1 : items[((i : Nat) : Int).toNat]? = some (.int ns[i] t) := by simpa using et
    have hi2 : items2[((i : Nat) : Int).toNat]? = some (.int ms[i] u) := by simpa using eu
    have hd : ns.drop i = ns[i] :: ns.drop (i + 1) := List.drop_eq_getElem_cons hlt
    have hd2 : ms.drop i = ms[i] :: ms.drop (i + 1) := List.drop_eq_getElem_cons hlt2
    have hc : ((i : Int) + 1) = ((i + 1 : Nat) : Int) := by push_cast; rfl
    rw [hd, hd2] at h
    have h' : R (.ok (.ret (.bool (if ns[i] = ms[i] then lexGe (ns.drop (i + 1)) (ms.drop (i + 1)) else decide (ms[i] ≤ ns[i]))))) ⟨hp, g, d, tk, os⟩ := h
    rw [hi1, hi2]
    obtain ⟨e, he, hiff⟩ := qdW A.in1 ⟨hp, g, d, tk, os⟩ ns[i] t ms[i] u
    refine wpAny_bind (he prog w _ _ ?_)
    cases e with
    | true =>
      rw [if_pos (hiff.mp rfl)] at h'
      wp_walk
      rw [hc]
      exact ⟨plainId_quiet plain_eq_loop _, codeAny_builtin entry_eq_loop (by
        rw [Around.under_plainId plain_eq_loop _]
        exact ih (i + 1) (by omega) prog w A R _ ⟨hl, hb, h'⟩)⟩
    | false =>
      rw [if_neg (fun q => absurd (hiff.mpr q) Bool.false_ne_true)] at h'
      wp_walk using wpAny_loadPart' hl, wpAny_loadPart' hb
      rw [hi1, hi2]
      have hri := rcGe_int A.in1 ⟨hp, g, d, tk, os⟩ ns[i] t ms[i] u prog w
      wp_walk using hri
      simpa using h'
theorem list_ge_ints (l b : Addr) (items items2 : Array Value) (n n2 : Nat) (dd dd2 : Option Addr) (sl sl2 : Array (Option Value)) (ns ms : List Int) (hi : IntsAre items.toList ns) (hj : IntsAre items2.toList ms) (hsz : ns.length = ms.length) :
    Meets (Builtin.«list.__ge__» ⟨[.ref l, .ref b], []⟩)
      (fun _ R s => s.heap.get? l = some { cls := .type "list", dict := dd, data := .seq items n, slots := sl } ∧ s.heap.get? b = some { cls := .type "list", dict := dd2, data := .seq items2 n2, slots := sl2 } ∧
        R (.ok (.ret (.bool (lexGe ns ms)))) s) := by
  intro prog w A R s h
  obtain ⟨hp, g, d, tk, os⟩ := s; obtain ⟨hl, hb, h⟩ := h
  have f3 := AutoSeq1.sub_list_list
  wp_walk using wpAny_loadPart' hl, wpAny_loadPart' hb
  exact ⟨plainId_quiet plain_eq_loop _, codeAny_builtin entry_eq_loop (by
    rw [Around.under_plainId plain_eq_loop _]
    exact ge_loop l b items items2 n n2 dd dd2 sl sl2 ns ms hi hj hsz _ 0 rfl prog w A R _ ⟨hl, hb, by simpa using h⟩)⟩
end
section
variable {prog : Program} {w : World} {A : Around} {E : Value → Shared → Prop} {s : Shared}
theorem ge_listInts {l b : Addr} {items items2 : Array Value} {ns ms : List Int} {Q : Value → Shared → Prop} (hl : s.heap.IsList l items) (hb : s.heap.IsList b items2) (hi : IntsAre items.toList ns) (hj : IntsAre items2.toList ms) (hsz : ns.length = ms.length)
    (hu : A.units < cLine) (h : Q (.bool (lexGe ns ms)) s) : wpAny (model prog w) A (compareOp .GtE (.ref l) (.ref b)) Q E s := by
  obtain ⟨⟨cls, dd, data, sl⟩, ho, hc, n, hd⟩ := id hl
  obtain ⟨⟨cls2, dd2, data2, sl2⟩, ho2, hc2, n2, hd2⟩ := id hb
  simp only at hc hd hc2 hd2
  subst hc hd hc2 hd2
  exact richCompare_meets_room (op := .GtE) ⟨_, ho, rfl⟩ ⟨_, ho2, rfl⟩ PySem.F.slot_list_ge PySem.F.entry_list_ge (PySem.F.args_list_ge_2 _ _) (list_ge_ints l b items items2 n n2 dd dd2 sl sl2 ns ms hi hj hsz)
    ⟨ho, ho2, show Value.bool (lexGe ns ms) ≠ Value.notImplemented ∧ Q (.bool (lexGe ns ms)) s from ⟨(fun x => nomatch x), h⟩⟩ hu
end
end HT
namespace L2
open PySem PySem.Spec PyProof.Rows
def rGeL (K : PySem.W.Frag) : R2 := fun x y H Q => ∃ a b ns ms, x = .ref a ∧ y = .ref b ∧ SqL K H a (ns.map V.int) ∧ SqL K H b (ms.map V.int) ∧ ns.length = ms.length ∧ Q (.bl (HT.lexGe ns ms)) H
theorem op_geL {X : Cx} (hu : X.A.units < cLine) : OpR X (compareOp .GtE) (rGeL X.K) := by
  intro pins s σ H x y v u Q I rx ry h
  obtain ⟨a, b, ns, ms, rfl, rfl, ha, hb, hz, q⟩ := h
  cases rx
  cases ry
  obtain ⟨its, r1, ⟨o1, n1, e1, c1, s1, d1⟩, _⟩ := I.list ha
  obtain ⟨its2, r2, ⟨o2, n2, e2, c2, s2, d2⟩, _⟩ := I.list hb
  have i1 : IntsAre its.toArray.toList ns := qbd r1
  have i2 : IntsAre its2.toArray.toList ms := qbd r2
  exact HT.ge_listInts ⟨o1, e1, c1, n1, d1⟩ ⟨o2, e2, c2, n2, d2⟩ i1 i2 hz hu ⟨.bl (HT.lexGe ns ms), H, I, rfl, q⟩
end L2
namespace K14
open PySem L2 Bk Gen Gd Bd Fc
abbrev sWinL : Stmt := top 48
def optV : Option Nat → V
  | some n => .int n
  | none => .non
def geB (rl : List Rl) (x : Rl) (b : Nat) : Bool := match rl[b]? with
  | some y => HT.lexGe [x.rank, qbb x] [y.rank, qbb y]
  | none => true
def bstL (rl : List Rl) (wd : Str) (fit : Rl → Bool) : Nat → Option Nat
  | 0 => none
  | i + 1 => match rl[i]? with
    | some x => if (qba x wd && fit x) = true then (match bstL rl wd fit i with
      | none => some i
      | some b => if geB rl x b = true then some i else some b) else bstL rl wd fit i
    | none => bstL rl wd fit i
theorem qci {g g' : Nat → Nat → Bool} : ∀ n, (∀ i j, i ≤ n → j ≤ n → g i j = g' i j) → qaZ g n = qaZ g' n
  | 0, _ => rfl
  | n + 1, h => by
    have e := qci n fun i j hi hj => h i j (Nat.le_succ_of_le hi) (Nat.le_succ_of_le hj)
    unfold qaZ
    rw [e, h (n + 1) (qaZ g' n) (Nat.le_refl _) (Nat.le_succ_of_le (qb6 _ _))]
theorem qdy {rl : List Rl} {a : Nat} {t : List Nat} : winI rl (a :: t) < (a :: t).length := by
  have := qb6 (fun i j => HT.lexGt (qaJ rl ((a :: t).getD i 0)) (qaJ rl ((a :: t).getD j 0))) ((a :: t).length - 1)
  unfold winI
  simp only [List.length_cons] at this ⊢
  omega
theorem qb9 {l : List Nat} {i x : Nat} (h : i < l.length) : (l ++ [x]).getD i 0 = l.getD i 0 := by
  rw [List.getD_eq_getElem?_getD, List.getD_eq_getElem?_getD, List.getElem?_append_left h]
theorem win_snoc {rl : List Rl} (st : List Nat) (i : Nat) : (st ++ [i])[winI rl (st ++ [i])]? = match st[winI rl st]? with
    | none => some i
    | some b => if HT.lexGt (qaJ rl i) (qaJ rl b) = true then some i else some b := by
  cases st with
  | nil => rfl
  | cons a t =>
    have lt := qdy (rl := rl) (a := a) (t := t)
    have e1 : ((a :: t) ++ [i]).length - 1 = t.length + 1 := by simp
    have hb : qaZ (fun p q => HT.lexGt (qaJ rl (((a :: t) ++ [i]).getD p 0)) (qaJ rl (((a :: t) ++ [i]).getD q 0))) t.length = winI rl (a :: t) :=
      qci _ fun p q hp hq => by rw [qb9 (by simp only [List.length_cons]; omega), qb9 (by simp only [List.length_cons]; omega)]
    have e2 : winI rl ((a :: t) ++ [i]) = if HT.lexGt (qaJ rl i) (qaJ rl ((a :: t).getD (winI rl (a :: t)) 0)) = true then t.length + 1 else winI rl (a :: t) := by
      have e3 : ((a :: t) ++ [i]).getD (t.length + 1) 0 = i := by
        rw [List.getD_eq_getElem?_getD, List.getElem?_append_right (by simp)]
        simp
      conv => lhs; unfold winI
      rw [e1]
      unfold qaZ
      rw [hb, e3, qb9 lt]
    have ev : (a :: t)[winI rl (a :: t)]? = some ((a :: t).getD (winI rl (a :: t)) 0) := by
      rw [List.getD_eq_getElem?_getD, List.getElem?_eq_getElem lt]
      rfl
    rw [e2, ev]
    show _ = if HT.lexGt (qaJ rl i) (qaJ rl ((a :: t).getD (winI rl (a :: t)) 0)) = true then some i else some ((a :: t).getD (winI rl (a :: t)) 0)
    by_cases c : HT.lexGt (qaJ rl i) (qaJ rl ((a :: t).getD (winI rl (a :: t)) 0)) = true
    · rw [if_pos c, if_pos c, List.getElem?_append_right (by simp)]
      simp
    · rw [if_neg c, if_neg c, List.getElem?_append_left lt]
      exact ev
theorem gt_ge {r c r' c' : Int} {i b : Nat} (h : b < i) : HT.lexGt [r, c, (i : Int)] [r', c', (b : Int)] = HT.lexGe [r, c] [r', c'] := by
  show (if r = r' then (if c = c' then (if (i : Int) = (b : Int) then false else decide ((b : Int) < (i : Int))) else decide (c' < c)) else decide (r' < r)) = (if r = r' then (if c = c' then true else decide (c' ≤ c)) else decide (r' ≤ r))
  by_cases h1 : r = r'
  · rw [if_pos h1, if_pos h1]
    by_cases h2 : c = c'
    · rw [if_pos h2, if_pos h2, if_neg (by omega), decide_eq_true (by omega)]
    · rw [if_neg h2, if_neg h2]
      exact decide_eq_decide.mpr ⟨fun z => by omega, fun z => by omega⟩
  · rw [if_neg h1, if_neg h1]
    exact decide_eq_decide.mpr ⟨fun z => by omega, fun z => by omega⟩
theorem qd7 {ds : List Nd} {l : Nat} {d : Nd} {rl : List Rl} {wd : Str} : ∀ i, i ≤ rl.length → winO rl wd (qa5 ds l d rl i) = bstL rl wd (qaV ds l d) i
  | 0, _ => by
    show (setting rl wd [])[_]? = none
    rfl
  | i + 1, hi => by
    have ih := qd7 (ds := ds) (l := l) (d := d) (rl := rl) (wd := wd) i (by omega)
    have ex : rl[i]? = some rl[i] := List.getElem?_eq_getElem (by omega)
    generalize rl[i] = x at ex
    have eb : bstL rl wd (qaV ds l d) (i + 1) = if (qba x wd && qaV ds l d x) = true then (match bstL rl wd (qaV ds l d) i with
      | none => some i
      | some b => if geB rl x b = true then some i else some b) else bstL rl wd (qaV ds l d) i := by
      conv => lhs; unfold bstL
      simp only [ex]
    rw [qbV ex, eb]
    by_cases hf : qaV ds l d x = true
    · rw [if_pos hf]
      have es : setting rl wd (qa5 ds l d rl i ++ [i]) = if qba x wd = true then setting rl wd (qa5 ds l d rl i) ++ [i] else setting rl wd (qa5 ds l d rl i) := by
        unfold setting
        rw [List.filter_append]
        show _ ++ ([i].filter _) = _
        rw [List.filter_cons]
        simp only [ex]
        by_cases h : qba x wd = true
        · rw [if_pos h, if_pos h]
          rfl
        · rw [if_neg h, if_neg h]
          simp
      unfold winO
      rw [es]
      by_cases hs : qba x wd = true
      · rw [if_pos hs, if_pos (by rw [hs, hf]; rfl), win_snoc]
        have ih' : (setting rl wd (qa5 ds l d rl i))[winI rl (setting rl wd (qa5 ds l d rl i))]? = bstL rl wd (qaV ds l d) i := ih
        rw [ih']
        cases hb : bstL rl wd (qaV ds l d) i with
        | none => rfl
        | some b =>
          rw [hb] at ih'
          have mb := List.mem_of_getElem? ih'
          have mf := List.mem_filter.mp mb
          have lb : b < i := qc3 mf.1
          obtain ⟨y, ey⟩ : ∃ y, rl[b]? = some y := ⟨_, List.getElem?_eq_getElem (show b < rl.length by omega)⟩
          have k1 : qaJ rl i = [x.rank, qbb x, (i : Int)] := by unfold qaJ; simp only [ex]
          have k2 : qaJ rl b = [y.rank, qbb y, (b : Int)] := by unfold qaJ; simp only [ey]
          have k3 : geB rl x b = HT.lexGe [x.rank, qbb x] [y.rank, qbb y] := by unfold geB; simp only [ey]
          show (if HT.lexGt (qaJ rl i) (qaJ rl b) = true then some i else some b) = if geB rl x b = true then some i else some b
          rw [k1, k2, k3, gt_ge lb]
      · rw [if_neg hs, if_neg (by simp [hs])]
        exact ih
    · rw [if_neg hf, if_neg (by simp [hf])]
      exact ih
theorem qdE {rl : List Rl} {wd : Str} {fit : Rl → Bool} : ∀ {i b : Nat}, bstL rl wd fit i = some b → ∃ y, rl[b]? = some y ∧ qba y wd = true
  | 0, _, h => by cases h
  | i + 1, b, h => by
    unfold bstL at h
    cases ex : rl[i]? with
    | none => rw [ex] at h; exact qdE h
    | some x =>
      rw [ex] at h
      dsimp only at h
      by_cases c : (qba x wd && fit x) = true
      · have hs : qba x wd = true := by
          rw [Bool.and_eq_true] at c
          exact c.1
        rw [if_pos c] at h
        cases hb : bstL rl wd fit i with
        | none =>
          rw [hb] at h
          obtain rfl : i = b := Option.some.inj h
          exact ⟨x, ex, hs⟩
        | some b' =>
          rw [hb] at h
          dsimp only at h
          by_cases g : geB rl x b' = true
          · rw [if_pos g] at h
            obtain rfl : i = b := Option.some.inj h
            exact ⟨x, ex, hs⟩
          · rw [if_neg g] at h
            obtain rfl : b' = b := Option.some.inj h
            exact qdE hb
      · rw [if_neg c] at h
        exact qdE h
theorem setO_non {x : Rl} {wd : Str} : (!decide (setO x wd = .non)) = qba x wd := by
  unfold setO qba
  rw [qcU]
  cases x.sets.find? fun p => decide (p.1 = wd) with
  | none => rfl
  | some p => rfl
def spWinL : Sp := fun vs H Q _ => ∃ (B R : Addr) (n l : Nat) (wd : Str) (d : Nd) (ds : List Nd) (rl : List Rl) (N : Addr → Prop), vs = [.ref B, .ref R, .int n, .str wd] ∧ qaY N H B ds ∧ ds[n]? = some d ∧ Lev ds n l ∧ l ≤ 999 ∧ qbp H R rl ∧ rl.length ≤ 100 ∧
  ∀ H', Same H H' → Q (optV (bstL rl wd (qaV ds l d) rl.length)) H'
section
variable {P : Program} {w : World} {K : PySem.W.Frag} {mg : Str → Option Value} {base : Heap}
theorem scWinL : FnScope ["_law_book_here", "_law_rules_here", "_law_node", "_law_word_here", "_law_best", "_law_k", "_law_here"] ["_law_book_here", "_law_rules_here", "_law_node", "_law_word_here"] (qag sWinL) := ⟨rfl, rfl, rfl, by decide +kernel, rfl, by decide +kernel, by decide +kernel⟩
theorem ok_winL {f : Addr} {fd : FuncData} (F : Fun K "_law_winner" "_law_winner" sWinL f fd) (T : BnD mg)
    (F_set : Fx P w K mg base CX0 1 "_law_set" ["_law_rule_here", "_law_word_here"] spSet) (F_law_fits : Fx P w K mg base CX0 1 "_law_fits" ["_law_book_here", "_law_rule_here", "_law_node"] spFits) (F_told : Fx P w K mg base CX0 1 "_law_told" ["_law_rule_here"] spCond) : FnOk P w K mg base CX0 2 f fd ["_law_book_here", "_law_rules_here", "_law_node", "_law_word_here"] spWinL := by
  refine F.ok scWinL (fun vs H Q E h => ?_) (fun cdv A outer s H vs Q E hr h => ?_)
  · obtain ⟨B, R, n, l, wd, d, ds, rl, N, rfl, _⟩ := h
    rfl
  · obtain ⟨B, R, n, l, wd, d, ds, rl, N, rfl, hBk, ed, lv, ll, hRl, r100, q⟩ := h
    have hr_set := hr
    have hr_law_fits := hr
    have hr_told := hr
    have hu1 := Nat.lt_of_le_of_lt (Nat.le_add_right _ 64) hr.units
    refine ⟨_, (qad (qap (i := 4) scWinL.nd (by rfl) (by trivial) qeE)
      (qad (qa4 PassesOwn.never (by rfl) (qaD (by rfl) T.range (qaa (qaB call_len_seq (by rfl) T.len b_len (qaa (pv 1) pa_nil)) pa_nil)) (qan (i := 5) scWinL.nd (by rfl) (by trivial))
      (qaf (qaK (PW.pt (qbn (qct (qel (qar F_set hr_set (by rfl) qaq (qaa (qaj ix_list (pv 1) (pv 5) (fun _ _ => rfl)) (qaa (pv 3) pa_nil))))) (qa7 (qcJ (qar F_law_fits hr_law_fits (by rfl) qaq (qaa (pv 0) (qaa (qaj ix_list (pv 1) (pv 5) (fun _ _ => rfl)) (qaa (pv 2) pa_nil)))))))) (qad (qap (i := 6) scWinL.nd (by rfl) (by trivial) (qaA (qaa (qaj ix_tup (qaj ix_list (pv 1) (pv 5) (fun _ _ => rfl)) qae (fun _ _ => rfl)) (qaa (qar F_told hr_told (by rfl) qaq (qaa (qaj ix_list (pv 1) (pv 5) (fun _ _ => rfl)) pa_nil)) pa_nil))))
      (qaf (qaK (PW.pt (qcw (qct (qeO (pv 4))) (qbX (qal (op_geL hu1) (pv 6) (qaA (qaa (qaj ix_tup (qaj ix_list (pv 1) (pv 4) (fun _ _ => rfl)) qae (fun _ _ => rfl)) (qaa (qar F_told hr_told (by rfl) qaq (qaa (qaj ix_list (pv 1) (pv 4) (fun _ _ => rfl)) pa_nil)) pa_nil))) (qas _))))) (qaf (qap (i := 4) scWinL.nd (by rfl) (by trivial) (pv 5))) pss_nil))) pss_nil)))
      (qaf (qau (pv 4))))), ?_⟩
    try dsimp only [cxOf, Cx.nox]
    obtain ⟨rs, hR, pr⟩ := id hRl
    have lr : (rs.map V.ref).length = rl.length := by rw [List.length_map, Paired.length pr]
    refine ⟨_, rfl, R, _, rfl, .inl (SqL.of hR), _, rfl, by omega, by omega, qaI (fun i σ H' => (∃ v5 v6, σ = [some (.ref B), some (.ref R), some (.int n), some (.str wd), some (optV (bstL rl wd (qaV ds l d) i)), v5, v6]) ∧ Same H H') ⟨⟨none, none, rfl⟩, Same.refl H⟩ ?_ ?_⟩
    · rintro i σ H1 hi ⟨⟨v5, v6, rfl⟩, s1⟩
      have hi' : i < rl.length := by rw [← lr]; simpa using hi
      rw [show (0 : Int) + (i : Int) = (i : Int) from Int.zero_add _]
      have ex : rl[i]? = some rl[i] := List.getElem?_eq_getElem hi'
      generalize rl[i] = x at ex
      obtain ⟨r, er, rx0⟩ := pget pr ex
      have hR1 := s1 _ _ hR
      have rx := rx0.keep s1.keep fun _ n _ => n
      have eb : bstL rl wd (qaV ds l d) (i + 1) = if (qba x wd && qaV ds l d x) = true then (match bstL rl wd (qaV ds l d) i with
        | none => some i
        | some b => if geB rl x b = true then some i else some b) else bstL rl wd (qaV ds l d) i := by
        conv => lhs; unfold bstL
        simp only [ex]
      refine qbj (fun b H2 => Same H1 H2 ∧ b = (qba x wd && qaV ds l d x)) (fun Q' k => ?_) ?_
      · refine ⟨_, rfl, _, rfl, R, _, _, _, rfl, rfl, SqL.of hR1, qaz er, _, rfl, r, x, wd, rfl, rx, _, rfl, ?_⟩
        rw [setO_non]
        by_cases hs : qba x wd = true
        · rw [hs]
          refine iteT ⟨_, rfl, _, rfl, _, rfl, R, _, _, _, rfl, rfl, SqL.of hR1, qaz er, _, rfl, B, r, n, l, d, x, ds, _, _, rfl, qaE hBk s1, rx, ed, lv, ll, fun H2 s2 => ⟨_, rfl, ?_⟩⟩
          exact k _ _ ⟨s2, by simp [hs]⟩
        · rw [show qba x wd = false by simpa using hs]
          exact iteF (k _ _ ⟨Same.refl _, by simp [hs]⟩)
      rintro b H2 ⟨s2, rfl⟩
      by_cases c : (qba x wd && qaV ds l d x) = true
      · rw [c]
        rw [if_pos c] at eb
        refine iteT ?_
        have s02 := s1.trans s2
        have rx2 := rx.keep s2.keep fun _ n _ => n
        obtain ⟨_, sa, sv, hr2, _⟩ := id rx2
        refine ⟨_, rfl, _, rfl, R, _, _, _, rfl, rfl, SqL.of (s02 _ _ hR), qaz er, r, _, _, _, rfl, rfl, SqT.of hr2, rfl, _, rfl, _, rfl, R, _, _, _, rfl, rfl, SqL.of (s02 _ _ hR), qaz er, r, x, rfl, rx2, fun H3 s3 => ⟨by show 2 ≤ sizeLine; decide, fun la hla => ?_⟩⟩
        have s4 := s02.trans (s3.trans (qac hla (.lst [.int x.rank, .int (qbb x)])))
        have hl4 : upd H3 la (.lst [.int x.rank, .int (qbb x)]) la = some (.lst ([x.rank, qbb x].map V.int)) := qab
        generalize upd H3 la (.lst [.int x.rank, .int (qbb x)]) = H4 at s4 hl4 ⊢
        cases hb : bstL rl wd (qaV ds l d) i with
        | none =>
          rw [hb] at eb
          dsimp only at eb
          refine ⟨_, rfl, _, rfl, iteT ?_⟩
          exact ⟨_, rfl, ⟨some (.int i), some (.ref la), by rw [eb]; rfl⟩, s4⟩
        | some b =>
          rw [hb] at eb
          dsimp only at eb
          obtain ⟨y, ey, _⟩ := qdE hb
          obtain ⟨rb, erb, ry0⟩ := pget pr ey
          have ry := ry0.keep s4.keep fun _ n _ => n
          obtain ⟨_, sb, sw, hrb, _⟩ := id ry
          refine ⟨_, rfl, _, rfl, iteF ?_⟩
          refine ⟨_, rfl, _, rfl, _, rfl, R, _, _, _, rfl, rfl, SqL.of (s4 _ _ hR), qaz erb, rb, _, _, _, rfl, rfl, SqT.of hrb, rfl, _, rfl, _, rfl, R, _, _, _, rfl, rfl, SqL.of (s4 _ _ hR), qaz erb, rb, y, rfl, ry, fun H5 s5 => ⟨by show 2 ≤ sizeLine; decide, fun lb hlb => ?_⟩⟩
          have s6 := s5.trans (qac hlb (.lst [.int y.rank, .int (qbb y)]))
          have hl6 : upd H5 lb (.lst [.int y.rank, .int (qbb y)]) lb = some (.lst ([y.rank, qbb y].map V.int)) := qab
          generalize upd H5 lb (.lst [.int y.rank, .int (qbb y)]) = H6 at s6 hl6 ⊢
          have k3 : geB rl x b = HT.lexGe [x.rank, qbb x] [y.rank, qbb y] := by unfold geB; simp only [ey]
          refine ⟨la, lb, [x.rank, qbb x], [y.rank, qbb y], rfl, rfl, SqL.of (s6 _ _ hl4), SqL.of hl6, rfl, _, rfl, ?_⟩
          rw [← k3]
          by_cases g : geB rl x b = true
          · rw [if_pos g] at eb
            rw [g]
            exact iteT ⟨_, rfl, ⟨some (.int i), some (.ref la), by rw [eb]; rfl⟩, s4.trans s6⟩
          · rw [if_neg g] at eb
            rw [show geB rl x b = false by simpa using g]
            exact iteF ⟨⟨some (.int i), some (.ref la), by rw [eb]; rfl⟩, s4.trans s6⟩
      · rw [if_neg c] at eb
        rw [show (qba x wd && qaV ds l d x) = false by simpa using c]
        exact iteF ⟨⟨some (.int i), v6, by rw [eb]; rfl⟩, s1.trans s2⟩
    · rintro σ H1 ⟨⟨v5, v6, rfl⟩, s1⟩
      have := q _ s1
      rw [← lr] at this
      exact ⟨_, rfl, this⟩
end
end K14
namespace K14
open PySem L2 Bk Gen
abbrev sTable : Stmt := top 41
abbrev sRule : Stmt := top 42
def tupsT : List (Str × Int × Int × Int) → TA
  | [] => tNil
  | y :: r => qbG (tTup (qbG (tC (.str y.1)) (qbG (tC (.int y.2.1)) (qbG (tC (.int y.2.2.1)) (qbG (tC (.int y.2.2.2)) tNil))))) (tupsT r)
theorem tupsT_ok : ∀ {ys : List (Str × Int × Int × Int)} {σ : St} {H : Hp} {Q : List V → Hp → Prop}, (∀ ts H', Same H H' → Paired (qbg H') ts ys → Q (ts.map V.ref) H') → tupsT ys σ H Q
  | [], σ, H, Q, h => h [] H (Same.refl H) .nil
  | y :: r, σ, H, Q, h => by
    refine ⟨by show 4 ≤ sizeLine; decide, fun t ht => ?_⟩
    exact tupsT_ok (ys := r) fun ts H' s p => h (t :: ts) H' ((qac ht _).trans s) (.cons (s _ _ qab) p)
theorem qbm {H H' : Hp} (s : Same H H') {ts : List Addr} {ys : List (Str × Int × Int × Int)} (p : Paired (qbg H) ts ys) : Paired (qbg H') ts ys := p.mono fun a y q => s _ _ q
def tb1 : List (Str × Int × Int × Int) := [(Str.ofString "face", 0, 99, 0), (Str.ofString "align", 0, 3, 0), (Str.ofString "above", 0, 400, 0), (Str.ofString "inset", 0, 400, 0), (Str.ofString "weight", 1, 9, 1)]
def tb2 : List (Str × Int × Int × Int) := [(Str.ofString "least", 0, 4000, 0), (Str.ofString "most", 0, 4000, 4000), (Str.ofString "columns", 1, 6, 2), (Str.ofString "span", 1, 6, 1)]
def tb3 : List (Str × Int × Int × Int) := [(Str.ofString "deep", 1, 4, 1), (Str.ofString "side", 0, 1, 0), (Str.ofString "wide", 1, 4000, 100), (Str.ofString "fresh", 0, 1, 0)]
def conS : Expr → Option Str
  | .Constant (.str a) _ _ => some a
  | _ => none
def conI : Expr → Option Int
  | .Constant (.int a) _ _ => some a
  | _ => none
def four : Expr → Option (Expr × Expr × Expr × Expr)
  | .Tuple [a, b, c, d] _ _ => some (a, b, c, d)
  | _ => none
def qeY (e : Expr) (y : Str × Int × Int × Int) : Bool := match four e with
  | some (a, b, c, d) => decide (conS a = some y.1) && (decide (conI b = some y.2.1) && (decide (conI c = some y.2.2.1) && decide (conI d = some y.2.2.2)))
  | none => false
theorem conS_of {e : Expr} {x : Str} (h : conS e = some x) : ∃ j p, e = .Constant (.str x) j p := by
  unfold conS at h
  split at h
  · cases h; exact ⟨_, _, rfl⟩
  · cases h
theorem qdx {e : Expr} {x : Int} (h : conI e = some x) : ∃ j p, e = .Constant (.int x) j p := by
  unfold conI at h
  split at h
  · cases h; exact ⟨_, _, rfl⟩
  · cases h
theorem four_of {e a b c d : Expr} (h : four e = some (a, b, c, d)) : ∃ k p, e = .Tuple [a, b, c, d] k p := by
  unfold four at h
  split at h
  · cases h; exact ⟨_, _, rfl⟩
  · cases h
def isTups : List Expr → List (Str × Int × Int × Int) → Bool
  | [], [] => true
  | e :: es, y :: ys => qeY e y && isTups es ys
  | _, _ => false
theorem pe_tup4 {X : Cx} {e : Expr} {y : Str × Int × Int × Int} (h : qeY e y = true) : (∃ es k pos, e = .Tuple es k pos) ∧ PE X e (tTup (qbG (tC (.str y.1)) (qbG (tC (.int y.2.1)) (qbG (tC (.int y.2.2.1)) (qbG (tC (.int y.2.2.2)) tNil))))) := by
  unfold qeY at h
  cases hf : four e with
  | none => rw [hf] at h; cases h
  | some q =>
    obtain ⟨a, b, c, d⟩ := q
    rw [hf] at h
    simp only [Bool.and_eq_true, decide_eq_true_eq] at h
    obtain ⟨h1, h2, h3, h4⟩ := h
    obtain ⟨k, p, rfl⟩ := four_of hf
    obtain ⟨_, _, rfl⟩ := conS_of h1
    obtain ⟨_, _, rfl⟩ := qdx h2
    obtain ⟨_, _, rfl⟩ := qdx h3
    obtain ⟨_, _, rfl⟩ := qdx h4
    exact ⟨⟨_, _, _, rfl⟩, qaC (qaa qam (qaa qae (qaa qae (qaa qae pa_nil))))⟩
theorem qej {X : Cx} : ∀ {es : List Expr} {ys : List (Str × Int × Int × Int)}, isTups es ys = true → PA X es (tupsT ys)
  | [], [], _ => pa_nil
  | e :: es, y :: ys, h => by
    rw [isTups, Bool.and_eq_true] at h
    obtain ⟨⟨a, b, c, rfl⟩, q⟩ := pe_tup4 (X := X) h.1
    exact qaa q (qej h.2) (by rfl)
theorem qdr {X : Cx} {es : List Expr} {pos : Pos} (ys : List (Str × Int × Int × Int)) (h : isTups es ys = true) : PE X (.List es pos) (tLst (tupsT ys)) := qaA (qej h)
def strsT : List Str → TA
  | [] => tNil
  | y :: r => qbG (tC (.str y)) (strsT r)
def isStr : Expr → Str → Bool
  | .Constant (.str a) _ _, y => a == y
  | _, _ => false
theorem isStr_eq {e : Expr} {y : Str} (h : isStr e y = true) : ∃ j pos, e = .Constant (.str y) j pos := by
  unfold isStr at h
  split at h
  · rw [beq_iff_eq.mp h]
    exact ⟨_, _, rfl⟩
  · cases h
def isStrs : List Expr → List Str → Bool
  | [], [] => true
  | e :: es, y :: ys => isStr e y && isStrs es ys
  | _, _ => false
theorem qek {X : Cx} : ∀ {es : List Expr} {ys : List Str}, isStrs es ys = true → PA X es (strsT ys)
  | [], [], _ => pa_nil
  | e :: es, y :: ys, h => by
    rw [isStrs, Bool.and_eq_true] at h
    obtain ⟨a, b, rfl⟩ := isStr_eq h.1
    exact qaa qam (qek h.2) (by rfl)
theorem pe_strs {X : Cx} {es : List Expr} {pos : Pos} (ys : List Str) (h : isStrs es ys = true) : PE X (.List es pos) (tLst (strsT ys)) := qaA (qek h)
theorem strsT_ok : ∀ {ys : List Str} {σ : St} {H : Hp} {Q : List V → Hp → Prop}, Q (ys.map V.str) H → strsT ys σ H Q
  | [], σ, H, Q, h => h
  | y :: r, σ, H, Q, h => strsT_ok (ys := r) (Q := fun xs H2 => Q (.str y :: xs) H2) h
theorem lst_strs {ys : List Str} {σ : St} {H : Hp} {Q : VK} (le : ys.length ≤ 100) (h : ∀ l, H l = none → Q (.ref l) (upd H l (.lst (ys.map V.str)))) : tLst (strsT ys) σ H Q :=
  strsT_ok ⟨by rw [List.length_map]; exact Nat.le_of_lt (qak (by omega)), h⟩
theorem qcO {ys : List (Str × Int × Int × Int)} {σ : St} {H : Hp} {Q : VK} (le : ys.length ≤ 100) (h : ∀ l ts H', H l = none → Same H H' → H' l = some (.lst (ts.map V.ref)) → Paired (qbg H') ts ys → Q (.ref l) H') : tLst (tupsT ys) σ H Q := by
  refine tupsT_ok (ys := ys) fun ts H1 s1 p1 => ⟨?_, fun l hl => ?_⟩
  · rw [List.length_map, p1.length]
    exact Nat.le_of_lt (qak (by omega))
  · have s2 := qac hl (.lst (ts.map V.ref))
    exact h l ts _ (s1.free hl) (s1.trans s2) qab (qbm s2 p1)
section
variable {P : Program} {w : World} {K : PySem.W.Frag} {mg : Str → Option Value} {base : Heap}
theorem table_body : ∃ es1 es2 es3 pa pb pc pd pe pf pg ph pi pj pk pl, qat sTable = [.Assign [.Name "_law_found" pa] (.List es1 pb) pc, .Assign [.Name "_law_found" pd] (.BinOp (.Name "_law_found" pe) .Add (.List es2 pf) pg) ph, .Return (some (.BinOp (.Name "_law_found" pi) .Add (.List es3 pj) pk)) pl] ∧ isTups es1 tb1 = true ∧ isTups es2 tb2 = true ∧ isTups es3 tb3 = true :=
  ⟨_, _, _, _, _, _, _, _, _, _, _, _, _, _, _, rfl, by decide +kernel, by decide +kernel, by decide +kernel⟩
theorem scTable : FnScope ["_law_found"] [] (qag sTable) := ⟨rfl, rfl, rfl, by decide +kernel, rfl, by decide +kernel, by decide +kernel⟩
theorem ok_table {f : Addr} {fd : FuncData} (F : Fun K "_law_table" "_law_table" sTable f fd) : FnOk P w K mg base CX0 1 f fd [] spTable := by
  refine F.ok scTable (fun vs H Q E h => ?_) (fun cdv A outer s H vs Q E hr h => ?_)
  · obtain ⟨rfl, _⟩ := h
    rfl
  · obtain ⟨rfl, q⟩ := h
    obtain ⟨es1, es2, es3, pa, pb, pc, pd, pe, pf, pg, ph, pi, pj, pk, pl, eb, i1, i2, i3⟩ := table_body
    rw [eb]
    refine ⟨_, (qad (qap (i := 0) scTable.nd (by rfl) (by trivial) (qdr tb1 i1))
      (qad (qap (i := 0) scTable.nd (by rfl) (by trivial) (qaw op_cat (pv 0) (qdr tb2 i2)))
      (qaf (qau (qaw op_cat (pv 0) (qdr tb3 i3)))))), ?_⟩
    try dsimp only [cxOf, Cx.nox]
    refine qc0 (fun v H' => ∃ l ts, v = .ref l ∧ H l = none ∧ Same H H' ∧ H' l = some (.lst (ts.map V.ref)) ∧ Paired (qbg H') ts tb1) (fun Q' k => ?_) ?_
    · exact qcO (ys := tb1) (by decide) fun l ts H' h1 s1 e1 p1 => k _ _ ⟨l, ts, rfl, h1, s1, e1, p1⟩
    rintro v H1 ⟨l1, ts1, rfl, h1, s1, e1, p1⟩
    have n1 : ts1.length = 5 := p1.length
    dsimp only [qaS]
    refine qc0 (fun v H' => ∃ l ts, v = .ref l ∧ H1 l = none ∧ Same H1 H' ∧ H' l = some (.lst ((ts1 ++ ts).map V.ref)) ∧ Paired (qbg H') ts tb2) (fun Q' k => ?_) ?_
    · refine ⟨_, rfl, ?_⟩
      refine qcO (ys := tb2) (by decide) fun l ts H' h2 s2 e2 p2 => ?_
      have n2 : ts.length = 4 := p2.length
      refine ⟨l1, l, _, _, rfl, rfl, s2 _ _ e1, e2, by rw [List.length_map, List.length_map, n1, n2]; decide, fun l3 h3 => ?_⟩
      have s3 := qac h3 (.lst (ts1.map V.ref ++ ts.map V.ref))
      exact k _ _ ⟨l3, ts, rfl, s2.free h3, s2.trans s3, by rw [qab, List.map_append], qbm s3 p2⟩
    rintro v H2 ⟨l2, ts2, rfl, h2, s2, e2, p2⟩
    have n2 : ts2.length = 4 := p2.length
    dsimp only [qaS]
    refine ⟨_, rfl, ?_⟩
    refine qcO (ys := tb3) (by decide) fun l ts H' h3 s3 e3 p3 => ?_
    have n3 : ts.length = 4 := p3.length
    refine ⟨l2, l, _, _, rfl, rfl, s3 _ _ e2, e3, by rw [List.length_map, List.length_map, List.length_append, n1, n2, n3]; decide, fun l4 h4 => ?_⟩
    have s4 := qac h4 (.lst ((ts1 ++ ts2).map V.ref ++ ts.map V.ref))
    have s34 := s3.trans s4
    have s24 := s2.trans s34
    refine q l4 (ts1 ++ ts2 ++ ts) _ ((s1.trans (s2.trans s3)).free h4) (s1.trans s24) (by rw [qab, List.map_append (l₁ := ts1 ++ ts2)]) ?_
    exact qa3 (qa3 (qbm s24 p1) (qbm s34 p2)) (qbm s4 p3)
theorem qc5 {H : Hp} {ts : List Addr} {ys : List (Str × Int × Int × Int)} (h : Paired (qbg H) ts ys) {i : Nat} {y : Str × Int × Int × Int} (e : ys[i]? = some y) : ∃ a, ts[i]? = some a ∧ qbg H a y := by
  induction h generalizing i with
  | nil => cases e
  | @cons a b l1 l2 q t ih =>
    cases i with
    | zero => cases e; exact ⟨a, rfl, q⟩
    | succ i => exact ih (by simpa using e)
theorem prop_bounds : ∀ z ∈ props, 0 ≤ z.2.1 ∧ z.2.1 ≤ z.2.2.1 ∧ z.2.2.1 ≤ 4000 := by decide +kernel
theorem rule_body : ∃ es1 pa pb pc, qat sRule = .Assign [.Name "_law_kinds" pa] (.List es1 pb) pc :: (qat sRule).tail ∧ isStrs es1 ruleKinds = true := ⟨_, _, _, _, rfl, by decide +kernel⟩
theorem scRule : FnScope ["_law_stream_here", "_law_kinds", "_law_rank", "_law_kind", "_law_around", "_law_mark", "_law_sets", "_law_k", "_law_word_here", "_law_low", "_law_great", "_law_plain"] ["_law_stream_here"] (qag sRule) := ⟨rfl, rfl, rfl, by decide +kernel, rfl, by decide +kernel, by decide +kernel⟩
theorem ok_rule {f : Addr} {fd : FuncData} (F : Fun K "_law_rule" "_law_rule" sRule f fd) (T : Bn mg) (F_take : Fx P w K mg base CX0 1 "_law_take" ["_law_stream_here", "_law_most"] spTake) (F_table : Fx P w K mg base CX0 1 "_law_table" [] spTable) : FnOk P w K mg base CX0 2 f fd ["_law_stream_here"] spRule := by
  refine F.ok scRule (fun vs H Q E h => ?_) (fun cdv A outer s H vs Q E hr h => ?_)
  · obtain ⟨st, rfl, _⟩ := h
    rfl
  · obtain ⟨st, rfl, S, q⟩ := h
    have hr_take := hr
    have hr_table := hr
    obtain ⟨es1, pa, pb, pc, eb, i1⟩ := rule_body
    rw [eb]
    refine ⟨_, (qad (qap (i := 1) scRule.nd (by rfl) (by trivial) (pe_strs ruleKinds i1))
      (qad (qap (i := 2) scRule.nd (by rfl) (by trivial) (qar F_take hr_take (by rfl) qaq (qaa (pv 0) (qaa qae pa_nil))))
      (qad (qaK (qal op_eq (qar F_take hr_take (by rfl) qaq (qaa (pv 0) (qaa qae pa_nil))) qae (qas _)) (qaf (qap (i := 2) scRule.nd (by rfl) (by trivial) (qaw op_mod (pv 2) qae))) pss_nil)
      (qad (qap (i := 3) scRule.nd (by rfl) (by trivial) (qaj ix_list (pv 1) (qar F_take hr_take (by rfl) qaq (qaa (pv 0) (qaa qae pa_nil))) (fun _ _ => rfl)))
      (qad (qap (i := 4) scRule.nd (by rfl) (by trivial) (qaj ix_list (pv 1) (qar F_take hr_take (by rfl) qaq (qaa (pv 0) (qaa qae pa_nil))) (fun _ _ => rfl)))
      (qad (qap (i := 5) scRule.nd (by rfl) (by trivial) (qaj ix_list (qaA (qaa qam (qaa qam (qaa qam (qaa qam (qaa qam (qaa qam (qaa qam pa_nil)))))))) (qar F_take hr_take (by rfl) qaq (qaa (pv 0) (qaa qae pa_nil))) (fun _ _ => rfl)))
      (qad (qap (i := 6) scRule.nd (by rfl) (by trivial) (qaA pa_nil))
      (qad (qa4 PassesOwn.never (by rfl) (qaD (by rfl) T.range (qaa (qaw op_add qae (qar F_take hr_take (by rfl) qaq (qaa (pv 0) (qaa qae pa_nil)))) pa_nil)) (qan (i := 7) scRule.nd (by rfl) (by trivial))
      (qad (qb8 (qaj ix_list (qdX F_table hr_table (by rfl) qaq) (qar F_take hr_take (by rfl) qaq (qaa (pv 0) (qaa qae pa_nil))) (fun _ _ => rfl)) (qcH (by rfl) (qay (qan (i := 8) scRule.nd (by rfl) (by trivial)) (qay (qan (i := 9) scRule.nd (by rfl) (by trivial)) (qay (qan (i := 10) scRule.nd (by rfl) (by trivial)) (qay (qan (i := 11) scRule.nd (by rfl) (by trivial)) pgs_nil))))))
      (qaf (qaK (qal op_notIn_seq (pv 8) (qa0 (own := ["_law_own_here", "_law_value"]) (by rfl) (CompScope.plain (by rfl) (by decide +kernel) (by decide +kernel) (by decide +kernel)) (qa2 (pv 6)) (fun cl C s2 H2 fp => (qcr K (n := 2) (by rfl) (by rfl) (qay (qan (i := 0) (by show (["_law_own_here", "_law_value"] : List Str).Nodup; decide +kernel) (by rfl) (by trivial) (by trivial)) (qay (qan (i := 1) (by show (["_law_own_here", "_law_value"] : List Str).Nodup; decide +kernel) (by rfl) (by trivial) (by trivial)) pgs_nil)))) (fun cl C s2 H2 fp => qa6) (fun cl C s2 H2 fp => (pv 0))) (by with_unfolding_all rfl)) (qaf (qaN (qbI PySem.F.plainAttrs_list PySem.F.slot_list_append PySem.F.type_list_append mt_append (pv 6) (qaa (qaC (qaa (pv 8) (qaa (qaw op_add (pv 9) (qar F_take hr_take (by rfl) qaq (qaa (pv 0) (qaa (qaw op_add (qaw op_sub (pv 10) (pv 9)) qae) pa_nil)))) pa_nil))) pa_nil)))) pss_nil))))
      (qaf (qau (qaC (qaa (pv 2) (qaa (pv 3) (qaa (pv 4) (qaa (pv 5) (qaa (pv 6) pa_nil)))))))))))))))), ?_⟩
    try dsimp only [cxOf, Cx.nox]
    refine qc0 (fun v H' => ∃ l, v = .ref l ∧ H l = none ∧ H' = upd H l (.lst (ruleKinds.map V.str))) (fun Q' k => ?_) ?_
    · exact lst_strs (ys := ruleKinds) (by decide) fun l hl => k _ _ ⟨l, rfl, hl, rfl⟩
    rintro v H1 ⟨lk, rfl, hlk, rfl⟩
    dsimp only [qaS]
    have s1 := qac hlk (.lst (ruleKinds.map V.str))
    have nk : lk ≠ st := qah S.some hlk
    refine ⟨_, rfl, st, 10, rfl, S.same s1, by decide, by decide, fun rk H2 k0 k9 S2 K2 => ?_⟩
    have hk2 : H2 lk = some (.lst (ruleKinds.map V.str)) := K2 _ _ nk qab
    have K12 : Keep1 st H H2 := s1.keep.trans K2
    clear K2 s1
    dsimp only [qaS]
    refine qbF (fun σ' H' => ∃ rk : Int, 0 ≤ rk ∧ rk ≤ 9 ∧ σ' = [some (.ref st), some (.ref lk), some (.int rk), none, none, none, none, none, none, none, none, none] ∧ StOk H' st ∧ Keep1 st H H' ∧ H' lk = some (.lst (ruleKinds.map V.str))) (fun D' k => ?_) ?_
    · refine ⟨_, rfl, st, 2, rfl, S2, by decide, by decide, fun c H3 c0 c1 S3 K3 => ⟨rfl, _, rfl, ?_⟩⟩
      have hk3 := K3 _ _ nk hk2
      refine ite2 (fun _ => ?_) (fun _ => ?_)
      · refine ⟨_, rfl, _, _, rfl, rfl, (by show (0 : Int) < 2; decide), ?_⟩
        have h1 := Int.emod_nonneg rk (show (2 : Int) ≠ 0 by decide)
        have h2 := Int.emod_lt_of_pos rk (show (0 : Int) < 2 by decide)
        exact k _ _ ⟨_, h1, by omega, rfl, S3, K12.trans K3, hk3⟩
      · exact k _ _ ⟨rk, k0, by omega, rfl, S3, K12.trans K3, hk3⟩
    clear S2 K12 hk2 k0 k9 rk
    rintro σ3 H3 ⟨rk, k0, k9, rfl, S3, K3, hk3⟩
    refine ⟨_, rfl, _, rfl, st, 12, rfl, S3, by decide, by decide, fun i4 H4 i40 i41 S4 K4 => ?_⟩
    obtain ⟨kd, ekd, mkd⟩ := qbs (nms := ruleKinds) i40 i41
    have hk4 := K4 _ _ nk hk3
    refine ⟨lk, _, _, _, rfl, rfl, SqL.of hk4, ekd, ?_⟩
    refine ⟨_, rfl, _, rfl, st, 12, rfl, S4, by decide, by decide, fun i5 H5 i50 i51 S5 K5 => ?_⟩
    obtain ⟨wi, ewi, mwi⟩ := qbs (nms := ruleKinds) i50 i51
    have hk5 := K5 _ _ nk hk4
    refine ⟨lk, _, _, _, rfl, rfl, SqL.of hk5, ewi, ?_⟩
    refine ⟨by show 7 ≤ sizeLine; decide, fun lm hlm => ?_⟩
    have s5 := qac hlm (.lst (ruleMarks.map V.str))
    have nm : lm ≠ st := qah S5.some hlm
    refine ⟨_, rfl, st, 7, rfl, S5.same s5, by decide, by decide, fun i6 H6 i60 i61 S6 K6 => ?_⟩
    obtain ⟨mk, emk, mmk⟩ := qbs (nms := ruleMarks) i60 i61
    refine ⟨lm, _, _, _, rfl, rfl, SqL.of (K6 _ _ nm qab), emk, ?_⟩
    have K36 : Keep1 st H H6 := (((K3.trans K4).trans K5).trans s5.keep).trans K6
    clear hk3 hk4 hk5 s5 K3 K4 K5 K6 S3 S4 S5
    refine ⟨by show 0 ≤ sizeLine; decide, fun ls hls => ?_⟩
    have s7 := qac hls (.lst [])
    have ns : ls ≠ st := qah S6.some hls
    have ls0 : H ls = none := K36.back ns hls
    refine ⟨_, rfl, st, 13, rfl, S6.same s7, by decide, by decide, fun i8 H8 i80 i81 S8 K8 => ⟨_, _, rfl, rfl, _, rfl, by omega, by omega, qaI (fun i σ H' => ∃ (vs : List V) (ys : List (Str × Int)) (v7 v8 v9 v10 v11 : Option V), σ = [some (.ref st), some (.ref lk), some (.int rk), some (.str kd), some (.str wi), some (.str mk), some (.ref ls), v7, v8, v9, v10, v11] ∧ StOk H' st ∧ Keep1 st H H' ∧ H' ls = some (.lst vs) ∧ Paired (SetAt (fun b => H b = none ∧ b ≠ ls) H') vs ys ∧ ys.length ≤ i ∧ (0 < i → ys ≠ []) ∧ (∀ y ∈ ys, qeA y) ∧ (ys.map (·.1)).Nodup)
      ⟨[], [], none, none, none, none, none, rfl, S8, (K36.trans s7.keep).trans K8, K8 _ _ ns qab, .nil, Nat.le_refl _, (fun z => absurd z (Nat.lt_irrefl 0)), (fun y hy => nomatch hy), List.nodup_nil⟩ ?_ ?_⟩⟩
    · rintro i σ H9 hi ⟨vs, ys, v7, v8, v9, v10, v11, rfl, S9, K9, hl9, pr, le, nz, sok, nd⟩
      have lenv : vs.length = ys.length := pr.length
      have hi13 : i < 13 := by omega
      refine seq_cut fun Cb0 hCb0 => ?_
      refine ⟨rfl, fun lt ts H10 hlt s10 e10 p10 => ?_⟩
      have nt : lt ≠ st := qah S9.some hlt
      refine ⟨_, rfl, st, 13, rfl, S9.same s10, by decide, by decide, fun r H11 r0 r1 S11 K11 => ?_⟩
      obtain ⟨ri, rfl⟩ : ∃ ri : Nat, r = ri := ⟨r.toNat, by omega⟩
      have lp : ri < props.length := by show ri < 13; omega
      have ez : props[ri]? = some props[ri] := List.getElem?_eq_getElem lp
      obtain ⟨a, ea, pa⟩ := qc5 p10 ez
      have bz := prop_bounds _ (List.getElem_mem lp)
      have mz : props[ri] ∈ props := List.getElem_mem lp
      generalize props[ri] = z at ez pa bz mz
      have na : a ≠ st := fun z => by
        obtain ⟨x, y, e, _⟩ := S9.same s10
        rw [z] at pa
        unfold qbg at pa
        rw [e] at pa
        cases pa
      refine ⟨lt, _, _, _, rfl, rfl, SqL.of (K11 _ _ nt e10), qaz ea, ?_⟩
      refine ⟨a, _, rfl, SqT.of (K11 _ _ na pa), rfl, _, _, rfl, _, _, rfl, _, _, rfl, _, _, rfl, rfl, ?_⟩
      have K911 : Keep1 st H9 H11 := s10.keep.trans K11
      have hl11 := K911 _ _ ns hl9
      have sub : ∀ b, H b = none ∧ b ≠ ls → b ≠ st := fun b nb z => by
        obtain ⟨o, e⟩ := S.some
        rw [z, e] at nb
        cases nb.1
      have pr11 := pr.mono fun v y q => q.keep (K911.mono sub) fun _ n _ => n
      subst hCb0
      try dsimp only [qaS, tNext]
      refine ⟨_, rfl, _, rfl, ls, rfl, ⟨_, SqL.of hl11⟩, qaO (fun i zs σ' H' => H' = H11 ∧ zs = ((ys.take i).map (·.1)).map V.str ∧ ∃ z1 z2, σ' = [z1, z2]) (by rw [lenv]; exact qak (by omega)) ⟨rfl, rfl, none, none, rfl⟩ ?_ ?_ ?_⟩
      · rintro i zs σ' H' hi ⟨rfl, rfl, _⟩
        refine ⟨SqL.of hl11, ?_⟩
        rw [List.length_map, List.length_map, List.length_take]
        exact Nat.min_le_left _ _
      · rintro i v zs σ' H' hv ⟨rfl, rfl, z1, z2, rfl⟩
        obtain ⟨y, ey, b, rfl, nb, hb⟩ := qa8 pr11 hv
        refine ⟨b, _, rfl, SqT.of hb, rfl, _, _, rfl, _, _, rfl, rfl, ?_⟩
        refine ⟨_, rfl, rfl, ?_, _, _, rfl⟩
        rw [List.take_succ, ey, List.map_append, List.map_append]
        rfl
      rintro zs σ' H' ⟨rfl, rfl, _⟩ D hD
      rw [lenv, List.take_length]
      have sD := qac hD (.lst ((ys.map (·.1)).map V.str))
      refine ⟨D, _, rfl, .inl (SqL.of qab), rfl, qbh _, _, rfl, ?_⟩
      rw [if_pos rfl, qbC]
      have hlD := sD _ _ hl11
      have SD := S11.same sD
      have prD := pr11.mono fun v y q => q.keep sD.keep fun _ n _ => n
      have K9D : Keep1 st H9 (upd H' D (.lst ((ys.map (·.1)).map V.str))) := K911.trans sD.keep
      generalize upd H' D (.lst ((ys.map (·.1)).map V.str)) = H12 at hlD SD prD K9D ⊢
      by_cases hin : z.1 ∈ ys.map (·.1)
      · rw [decide_eq_true hin]
        refine iteF ?_
        exact ⟨vs, ys, _, _, _, _, _, rfl, SD, K9.trans K9D, hlD, prD, by omega, (fun _ e => by rw [e] at hin; cases hin), sok, nd⟩
      · rw [decide_eq_false hin]
        refine iteT ?_
        refine ⟨_, rfl, .inl ⟨rfl, _, SqL.of hlD⟩, _, rfl, _, rfl, _, rfl, _, rfl, _, rfl, _, _, rfl, rfl, _, _, rfl, rfl, ?_⟩
        refine ⟨st, z.2.2.1 - z.2.1 + 1, rfl, SD, by omega, by omega, fun v H13 v0 v1 S13 K13 => ⟨_, _, rfl, rfl, by show 2 ≤ sizeLine; decide, fun t ht => ?_⟩⟩
        have s13 := qac ht (.tup [.str z.1, .int (z.2.1 + v)])
        have hl13 := s13 _ _ (K13 _ _ ns hlD)
        refine ⟨ls, _, _, rfl, rfl, hl13, qak (by omega), ?_⟩
        have K913 : Keep1 st H9 (upd H13 t (.tup [.str z.1, .int (z.2.1 + v)])) := (K9D.trans K13).trans s13.keep
        have tn : H t = none ∧ t ≠ ls := ⟨((K9.trans K9D).trans K13).back (qah S13.some ht) ht, qah ⟨_, K13 _ _ ns hlD⟩ ht⟩
        have it13 : SetAt (fun b => H b = none ∧ b ≠ ls) (upd H13 t (.tup [.str z.1, .int (z.2.1 + v)])) (.ref t) (z.1, z.2.1 + v) := ⟨t, rfl, tn, qab⟩
        have pr13 := prD.mono fun v y q => q.keep ((K13.trans s13.keep).mono sub) fun _ n _ => n
        have S14 := S13.same s13
        generalize upd H13 t (.tup [.str z.1, .int (z.2.1 + v)]) = H14 at hl13 K913 it13 pr13 S14 ⊢
        have kk : KeepN (fun b => H b = none ∧ b ≠ ls) H14 (upd H14 ls (.lst (vs ++ [.ref t]))) := fun b o nb e => by rw [qai nb.2]; exact e
        refine ⟨vs ++ [.ref t], ys ++ [(z.1, z.2.1 + v)], _, _, _, _, _, rfl, ?_, ?_, qab, (pr13.mono fun v y q => q.keep kk fun _ n _ => n).snoc (it13.keep kk fun _ n _ => n), by rw [List.length_append]; simp; omega, (fun _ e => by simp at e), ?_, ?_⟩
        · obtain ⟨x, y, e, z⟩ := S14
          exact ⟨x, y, by rw [qai (Ne.symm ns)]; exact e, z⟩
        · intro b o nb e
          rw [qai (qao e ls0)]
          exact K913 _ _ nb (K9 _ _ nb e)
        · intro y hy
          rcases List.mem_append.mp hy with hy | hy
          · exact sok y hy
          · have : y = (z.1, z.2.1 + v) := by simpa using hy
            subst this
            exact ⟨z, mz, rfl, by show z.2.1 ≤ z.2.1 + v; omega, by show z.2.1 + v ≤ z.2.2.1; omega⟩
        · rw [List.map_append, List.nodup_append]
          refine ⟨nd, by simp, fun x hx y hy => ?_⟩
          have : y = z.1 := by simpa using hy
          subst this
          exact fun e => hin (e ▸ hx)
    · rintro σ H9 ⟨vs, ys, v7, v8, v9, v10, v11, rfl, S9, K9, hl9, pr, le, nz, sok, nd⟩
      refine ⟨_, rfl, _, rfl, _, rfl, _, rfl, _, rfl, by show 5 ≤ sizeLine; decide, fun t ht => ?_⟩
      have s9 := qac ht (.tup [.int rk, .str kd, .str wi, .str mk, .ref ls])
      refine q t ⟨rk, kd, wi, mk, ys⟩ _ ⟨k0, k9, mkd, mwi, mmk, nz (by omega), by show ys.length ≤ 13; omega, sok, nd⟩ ⟨K9.back (qah S9.some ht) ht, ls, vs, qab, ls0, s9 _ _ hl9, pr.mono fun v y q => q.keep s9.keep fun _ n _ => n.1⟩ (S9.same s9) (K9.trans s9.keep)
end
end K14
namespace K14
open PySem L2 Bk Gen Gd Bd Fc
abbrev sPaper : Stmt := top 49
theorem props_names : props.map (fun y => y.1) = propNames := by decide +kernel
theorem qdQ {j : Nat} {z : Str × Int × Int × Int} (e : props[j]? = some z) : z.1 = propNames.getD j noName := by
  rw [← props_names, List.getD_eq_getElem?_getD, List.getElem?_map, e]
  rfl
theorem props_own {j : Nat} {z : Str × Int × Int × Int} (e : props[j]? = some z) : z.2.2.2 = untolds.getD j 0 := by
  have h : props.map (fun y => y.2.2.2) = untolds := by decide +kernel
  rw [← h, List.getD_eq_getElem?_getD, List.getElem?_map, e]
  rfl
def spPaperL : Sp := fun vs H Q _ => ∃ (B R : Addr) (ds : List Nd) (rl : List Rl) (N : Addr → Prop), vs = [.ref B, .ref R] ∧ qaY N H B ds ∧ ds.length ≤ 69 ∧ (∀ n, n < ds.length → ∃ l, l ≤ n ∧ Lev ds n l) ∧ (∀ n d, ds[n]? = some d → n ≠ 0 → 0 ≤ d.e ∧ d.e.toNat < n) ∧ qbp H R rl ∧ rl.length ≤ 100 ∧
  ∀ (L : Addr) (rows : List Prw) (H' : Hp), Same H H' → H L = none → qa1 PrwAt H' L rows → rows.length = 13 * ds.length → PapOk ds rl rows → Q (.ref L) H'
section
variable {P : Program} {w : World} {K : PySem.W.Frag} {mg : Str → Option Value} {base : Heap}
theorem scPaper : FnScope ["_law_book_here", "_law_rules_here", "_law_paper_here", "_law_node", "_law_at", "_law_row_here", "_law_best", "_law_elder"] ["_law_book_here", "_law_rules_here"] (qag sPaper) := ⟨rfl, rfl, rfl, by decide +kernel, rfl, by decide +kernel, by decide +kernel⟩
theorem ok_paper {f : Addr} {fd : FuncData} (F : Fun K "_law_paper" "_law_paper" sPaper f fd) (T : BnD mg)
    (F_table : Fx P w K mg base CX0 1 "_law_table" [] spTable) (F_winner : Fx P w K mg base CX0 2 "_law_winner" ["_law_book_here", "_law_rules_here", "_law_node", "_law_word_here"] spWinL) (F_set : Fx P w K mg base CX0 1 "_law_set" ["_law_rule_here", "_law_word_here"] spSet) : FnOk P w K mg base CX0 3 f fd ["_law_book_here", "_law_rules_here"] spPaperL := by
  refine F.ok scPaper (fun vs H Q E h => ?_) (fun cdv A outer s H vs Q E hr h => ?_)
  · obtain ⟨B, R, ds, rl, N, rfl, _⟩ := h
    rfl
  · obtain ⟨B, R, ds, rl, N, rfl, hBk, l69, levs, elds, hRl, r100, q⟩ := h
    have hr_table : Room 1 _ := hr.mono (by decide)
    have hr_set : Room 1 _ := hr.mono (by decide)
    have hr_winner := hr
    refine ⟨_, (qad (qap (i := 2) scPaper.nd (by rfl) (by trivial) (qaA pa_nil))
      (qad (qa4 PassesOwn.never (by rfl) (qaD (by rfl) T.range (qaa (qaB call_len_seq (by rfl) T.len b_len (qaa (pv 0) pa_nil)) pa_nil)) (qan (i := 3) scPaper.nd (by rfl) (by trivial))
      (qaf (qa4 PassesOwn.never (by rfl) (qdu (by rfl) T.enumerate (qaa (qdX F_table hr_table (by rfl) qaq) pa_nil)) (qcH (by rfl) (qay (qan (i := 4) scPaper.nd (by rfl) (by trivial)) (qay (qan (i := 5) scPaper.nd (by rfl) (by trivial)) pgs_nil)))
      (qad (qap (i := 6) scPaper.nd (by rfl) (by trivial) (qar F_winner hr_winner (by rfl) qaq (qaa (pv 0) (qaa (pv 1) (qaa (pv 3) (qaa (qaj ix_tup (pv 5) qae (fun _ _ => rfl)) pa_nil))))))
      (qaf (qaK (qct (qel (pv 6))) (qaf (qaN (qbI PySem.F.plainAttrs_list PySem.F.slot_list_append PySem.F.type_list_append mt_append (pv 2) (qaa (qaC (qaa (pv 3) (qaa (qaj ix_tup (pv 5) qae (fun _ _ => rfl)) (qaa (qaC (qaa qam (qaa (pv 6) pa_nil))) (qaa (qar F_set hr_set (by rfl) qaq (qaa (qaj ix_list (pv 1) (pv 6) (fun _ _ => rfl)) (qaa (qaj ix_tup (pv 5) qae (fun _ _ => rfl)) pa_nil))) pa_nil))))) pa_nil)))) (qaf (qaK (PW.pt (qbn (qal op_lt (pv 4) qae (qas _)) (qa7 (qal op_gt (pv 3) qae (qas _))))) (qad (qap (i := 7) scPaper.nd (by rfl) (by trivial) (qaj ix_tup (qaj ix_list (pv 0) (pv 3) (fun _ _ => rfl)) qae (fun _ _ => rfl)))
      (qaf (qaN (qbI PySem.F.plainAttrs_list PySem.F.slot_list_append PySem.F.type_list_append mt_append (pv 2) (qaa (qaC (qaa (pv 3) (qaa (qaj ix_tup (pv 5) qae (fun _ _ => rfl)) (qaa (qaC (qaa qam (qaa (pv 7) pa_nil))) (qaa (qaj ix_tup (qaj ix_list (pv 2) (qaw op_add (qaw op_mul qae (pv 7)) (pv 4)) (fun _ _ => rfl)) qae (fun _ _ => rfl)) pa_nil))))) pa_nil))))) (qaf (qaN (qbI PySem.F.plainAttrs_list PySem.F.slot_list_append PySem.F.type_list_append mt_append (pv 2) (qaa (qaC (qaa (pv 3) (qaa (qaj ix_tup (pv 5) qae (fun _ _ => rfl)) (qaa (qaC (qaa qam pa_nil)) (qaa (qaj ix_tup (pv 5) qae (fun _ _ => rfl)) pa_nil))))) pa_nil))))))))))))
      (qaf (qau (pv 2))))), ?_⟩
    try dsimp only [cxOf, Cx.nox]
    refine seq_cut fun Ca0 hCa0 => ?_
    refine ⟨by show 0 ≤ sizeLine; decide, fun L hL => ?_⟩
    have s1 := qac hL (.lst [])
    have hLL : upd H L (.lst []) L = some (.lst (([] : List Addr).map V.ref)) := qab
    generalize upd H L (.lst []) = H1 at s1 hLL ⊢
    obtain ⟨ab, hB, nd⟩ := id hBk
    have lb : ((ab.map V.ref).length : Nat) = ds.length := by rw [List.length_map, nd.length]
    subst hCa0
    try dsimp only [qaS, tNext]
    refine seq_cut fun Ca1 hCa1 => ?_
    refine ⟨_, rfl, B, _, rfl, .inl (SqL.of (s1 _ _ hB)), _, rfl, by omega, by omega, qaI (fun i σ H' => (∃ v3 v4 v5 v6 v7, σ = [some (.ref B), some (.ref R), some (.ref L), v3, v4, v5, v6, v7]) ∧ Same H H' ∧ ∃ rows, qa1 PrwAt H' L rows ∧ rows.length = 13 * i ∧ PapOk ds rl rows) ⟨⟨none, none, none, none, none, rfl⟩, s1, [], ⟨[], hLL, .nil⟩, rfl, fun m r z => by simp at z⟩ ?_ ?_⟩
    · rintro n σ H2 hn ⟨⟨v3, v4, v5, v6, v7, rfl⟩, s2, rows, lst2, len2, pap2⟩
      have hn' : n < ds.length := by rw [← lb]; simpa using hn
      rw [show (0 : Int) + (n : Int) = (n : Int) from Int.zero_add _]
      have ed : ds[n]? = some ds[n] := List.getElem?_eq_getElem hn'
      obtain ⟨l, ln, lv⟩ := levs n hn'
      generalize ds[n] = d at ed
      refine ⟨rfl, fun lt ts H3 hlt s3 e3 p3 => ?_⟩
      have lts : ts.length = 13 := p3.length
      have ntp : lt ≠ L := by
        obtain ⟨as, e, _⟩ := lst2
        exact qah ⟨_, e⟩ hlt
      have lst3 : qa1 PrwAt H3 L rows := by
        obtain ⟨as, e, p⟩ := lst2
        exact ⟨as, s3 _ _ e, p.mono fun a r h => h.same s3⟩
      refine ⟨lt, rfl, ⟨_, SqL.of e3⟩, for_enum (xs := ts.map V.ref) (fun j σ H' => (∃ v4 v5 v6 v7, σ = [some (.ref B), some (.ref R), some (.ref L), some (.int n), v4, v5, v6, v7]) ∧ Same H H' ∧ H' lt = some (.lst (ts.map V.ref)) ∧ Paired (qbg H') ts props ∧ ∃ rows, qa1 PrwAt H' L rows ∧ rows.length = 13 * n + j ∧ PapOk ds rl rows) ⟨⟨_, _, _, _, rfl⟩, s2.trans s3, e3, p3, rows, lst3, len2, pap2⟩ ?_ ?_ ?_⟩
      · rintro j σ H' hj ⟨_, _, e, _⟩
        exact SqL.of e
      · rintro j x σ H4 tt hx htt ⟨⟨v4, v5, v6, v7, rfl⟩, s4, e4, p4, rows4, lst4, len4, pap4⟩
        obtain ⟨t, et, rfl⟩ := qbH hx
        have j13 : j < 13 := by have := (List.getElem?_eq_some_iff.mp et).1; omega
        have sT := qac htt (.tup [.int (j : Nat), .ref t])
        have e5 := sT _ _ e4
        have p5 : Paired (qbg _) ts props := p4.mono fun b q h => sT _ _ h
        have s5 := s4.trans sT
        have hT : upd H4 tt (.tup [.int (j : Nat), .ref t]) tt = some (.tup [.int (j : Nat), .ref t]) := qab
        have lst5 : qa1 PrwAt (upd H4 tt (.tup [.int (j : Nat), .ref t])) L rows4 := by
          obtain ⟨as, e, p⟩ := lst4
          exact ⟨as, sT _ _ e, p.mono fun a r h => h.same sT⟩
        generalize upd H4 tt (.tup [.int (j : Nat), .ref t]) = H5 at e5 p5 s5 hT lst5 ⊢
        clear lst4 p4 e4 s4 htt sT
        obtain ⟨z, ez, ht⟩ := qa8 p5 et
        have zn := qdQ ez
        have zo := props_own ez
        refine ⟨tt, _, rfl, SqT.of hT, rfl, _, _, rfl, _, _, rfl, rfl, ?_⟩
        refine seq_cut fun Cc0 hCc0 => ?_
        refine ⟨_, rfl, _, rfl, _, rfl, _, rfl, t, _, _, _, rfl, rfl, SqT.of ht, rfl, B, R, n, l, z.1, d, ds, rl, N, rfl, qaE hBk s5, ed, lv, by omega, qaL s5 hRl, r100, fun H6 s6 => ?_⟩
        subst hCc0
        try dsimp only [qaS, tNext]
        rw [zn, ← qd7 rl.length (Nat.le_refl _)]
        have s06 := s5.trans s6
        obtain ⟨as, eL5, pa5⟩ := lst5
        have eL6 := s6 _ _ eL5
        have pa6 : Paired (PrwAt H6) as rows4 := pa5.mono fun a r h => h.same s6
        have ht6 := s6 _ _ ht
        have e6 := s6 _ _ e5
        have p6 : Paired (qbg H6) ts props := p5.mono fun b q h => s6 _ _ h
        have la : as.length = 13 * n + j := by rw [Paired.length pa6, len4]
        clear s5 s6 eL5 pa5 ht e5 p5
        rw [zn] at ht6
        have fin : ∀ (u : Addr) (H7 : Hp) (v4 v5 v6 v7 : Option V), Same H6 H7 → PrwAt H7 u (rowN ds rl l d rows4 n j) → (∃ w4 w5 w6 w7, [some (V.ref B), some (.ref R), some (.ref L), some (.int n), v4, v5, v6, v7] = [some (V.ref B), some (.ref R), some (.ref L), some (.int n), w4, w5, w6, w7]) ∧ Same H (upd H7 L (.lst (as.map V.ref ++ [.ref u]))) ∧ upd H7 L (.lst (as.map V.ref ++ [.ref u])) lt = some (.lst (ts.map V.ref)) ∧ Paired (qbg (upd H7 L (.lst (as.map V.ref ++ [.ref u])))) ts props ∧ ∃ rows, qa1 PrwAt (upd H7 L (.lst (as.map V.ref ++ [.ref u]))) L rows ∧ rows.length = 13 * n + (j + 1) ∧ PapOk ds rl rows := fun u H7 v4 v5 v6 v7 s7 hu => by
          have eL7 := s7 _ _ eL6
          have tl : Tups H7 (upd H7 L (.lst (as.map V.ref ++ [.ref u]))) := Tups.lst eL7
          refine ⟨⟨_, _, _, _, rfl⟩, fun b o e => ?_, ?_, p6.mono fun b q h => tl _ _ (s7 _ _ h), rows4 ++ [rowN ds rl l d rows4 n j], ⟨as ++ [u], by rw [qab, List.map_append]; rfl, (pa6.mono fun a r h => (h.same s7).tups tl).snoc (hu.tups tl)⟩, by rw [List.length_append, len4]; rfl, pap4.snoc len4 j13 ed lv⟩
          · rw [qai (qao e hL)]
            exact s7 _ _ (s06 _ _ e)
          · rw [qai ntp]
            exact s7 _ _ e6
        cases hw : winO rl (propNames.getD j noName) (qa5 ds l d rl rl.length) with
        | some k =>
          obtain ⟨x, ex, sw⟩ := qdZ hw
          have er : rowN ds rl l d rows4 n j = ⟨n, j, .rule k, setV x (propNames.getD j noName)⟩ := by unfold rowN; rw [hw]; simp only [ex]
          rw [er] at fin
          obtain ⟨rs6, hR6, pr6⟩ := qaL s06 hRl
          obtain ⟨r, er6, rx6⟩ := pget pr6 ex
          have so : setO x (propNames.getD j noName) = .int (setV x (propNames.getD j noName)) := by
            have h := qcZ sw
            rw [qcU] at h
            unfold setO setV
            unfold setV at h
            cases e : x.sets.find? fun p => decide (p.1 = propNames.getD j noName) with
            | none => rw [e] at h; cases h
            | some p => rfl
          refine ⟨_, rfl, _, rfl, iteT ?_⟩
          refine ⟨_, rfl, .inl ⟨rfl, _, SqL.of eL6⟩, _, rfl, _, rfl, t, _, _, _, rfl, rfl, SqT.of ht6, rfl, _, rfl, by show 2 ≤ sizeLine; decide, fun y hy => ?_⟩
          have s7 := qac hy (.tup [.str (Str.ofString "rule"), optV (some k)])
          have ey := qab (H := H6) (a := y) (o := .tup [.str (Str.ofString "rule"), optV (some k)])
          generalize upd H6 y (.tup [.str (Str.ofString "rule"), optV (some k)]) = H7 at s7 ey ⊢
          refine ⟨_, rfl, _, rfl, R, _, _, _, rfl, rfl, SqL.of (s7 _ _ hR6), qaz er6, _, rfl, t, _, _, _, rfl, rfl, SqT.of (s7 _ _ ht6), rfl, r, x, _, rfl, rx6.keep s7.keep fun _ n _ => n, ?_⟩
          rw [so]
          refine ⟨by show 4 ≤ sizeLine; decide, fun u hu => ?_⟩
          have s9 := s7.trans (qac hu (.tup [V.int (n : Int), .str (propNames.getD j noName), .ref y, .int (setV x (propNames.getD j noName))]))
          refine ⟨L, _, _, rfl, rfl, s9 _ _ eL6, qak (by rw [List.length_map]; omega), ?_⟩
          exact fin u _ _ _ _ _ s9 ⟨y, qab, (qac hu _) _ _ ey⟩
        | none =>
          have er : rowN ds rl l d rows4 n j = ⟨n, j, untY d.e n j, untV rows4 d.e n j⟩ := by unfold rowN; rw [hw]
          rw [er] at fin
          refine ⟨_, rfl, _, rfl, iteF ?_⟩
          refine qbj (fun b H' => H' = H6 ∧ b = decide (j < 2 ∧ n ≠ 0)) (fun Q' k => ?_) ?_
          · refine ⟨_, rfl, _, _, rfl, rfl, _, rfl, ?_⟩
            by_cases c : j < 2
            · rw [decide_eq_true (show ((j : Nat) : Int) < 2 by omega)]
              refine iteT ⟨_, rfl, _, _, rfl, rfl, _, rfl, k _ _ ⟨rfl, ?_⟩⟩
              exact decide_eq_decide.mpr ⟨fun z => ⟨c, by omega⟩, fun z => by omega⟩
            · rw [decide_eq_false (show ¬ ((j : Nat) : Int) < 2 by omega)]
              refine iteF (k _ _ ⟨rfl, ?_⟩)
              exact (decide_eq_false fun z => c z.1).symm
          rintro b H' ⟨rfl, rfl⟩
          by_cases c : j < 2 ∧ n ≠ 0
          · rw [decide_eq_true c]
            obtain ⟨h1, h2⟩ := elds n d ed c.2
            obtain ⟨ab6, hB6, nd6⟩ := qaE hBk s06
            obtain ⟨a, ea, na⟩ := nd6.get ed
            obtain ⟨m', s', ha, _⟩ := na.ex
            obtain ⟨e, ee⟩ : ∃ e : Nat, d.e = e := ⟨d.e.toNat, by omega⟩
            have ey : untY d.e n j = .eld d.e := by unfold untY; rw [if_pos c]
            have hlt : 13 * e + j < rows4.length := by rw [len4]; omega
            have evr : rows4[13 * e + j]? = some rows4[13 * e + j] := List.getElem?_eq_getElem hlt
            have ev : untV rows4 d.e n j = rows4[13 * e + j].v := by
              unfold untV
              rw [if_pos c, ee, Int.toNat_natCast, Nat.mul_comm e 13, evr]
              rfl
            generalize rows4[13 * e + j] = rw4 at evr ev
            rw [ey, ev] at fin
            obtain ⟨ar, ear, yr, har, _⟩ := pget pa6 evr
            refine iteT ⟨_, rfl, _, rfl, B, _, _, _, rfl, rfl, SqL.of hB6, qaz ea, a, _, _, _, rfl, rfl, SqT.of ha, rfl, ?_⟩
            refine ⟨_, rfl, .inl ⟨rfl, _, SqL.of eL6⟩, _, rfl, _, rfl, t, _, _, _, rfl, rfl, SqT.of ht6, rfl, _, rfl, by show 2 ≤ sizeLine; decide, fun y hy => ?_⟩
            have s7 := qac hy (.tup [.str (Str.ofString "elder"), .int d.e])
            have eyy := qab (H := H') (a := y) (o := .tup [.str (Str.ofString "elder"), .int d.e])
            generalize upd H' y (.tup [.str (Str.ofString "elder"), .int d.e]) = H7 at s7 eyy ⊢
            refine ⟨_, rfl, _, rfl, _, _, rfl, rfl, .inl ⟨by decide, by decide⟩, _, rfl, _, _, rfl, rfl, L, _, _, _, rfl, rfl, SqL.of (s7 _ _ eL6), ?_, ar, _, _, _, rfl, rfl, SqT.of (s7 _ _ har), rfl, by show 4 ≤ sizeLine; decide, fun u hu => ?_⟩
            · rw [ee, show (13 : Int) * (e : Int) + (j : Int) = ((13 * e + j : Nat) : Int) by omega]
              exact qaz ear
            have s9 := s7.trans (qac hu (.tup [V.int (n : Int), .str (propNames.getD j noName), .ref y, .int rw4.v]))
            refine ⟨L, _, _, rfl, rfl, s9 _ _ eL6, qak (by rw [List.length_map]; omega), ?_⟩
            exact fin u _ _ _ _ _ s9 ⟨y, qab, (qac hu _) _ _ eyy⟩
          · rw [decide_eq_false c]
            have ey : untY d.e n j = .own := by unfold untY; rw [if_neg c]
            have ev : untV rows4 d.e n j = untolds.getD j 0 := by unfold untV; rw [if_neg c]
            rw [ey, ev] at fin
            refine iteF ⟨_, rfl, .inl ⟨rfl, _, SqL.of eL6⟩, _, rfl, _, rfl, t, _, _, _, rfl, rfl, SqT.of ht6, rfl, by show 1 ≤ sizeLine; decide, fun y hy => ?_⟩
            have s7 := qac hy (.tup [.str (Str.ofString "own")])
            have eyy := qab (H := H') (a := y) (o := .tup [.str (Str.ofString "own")])
            generalize upd H' y (.tup [.str (Str.ofString "own")]) = H7 at s7 eyy ⊢
            refine ⟨_, rfl, t, _, _, _, rfl, rfl, SqT.of (s7 _ _ ht6), rfl, by show 4 ≤ sizeLine; decide, fun u hu => ?_⟩
            have s9 := s7.trans (qac hu (.tup [V.int (n : Int), .str (propNames.getD j noName), .ref y, .int z.2.2.2]))
            refine ⟨L, _, _, rfl, rfl, s9 _ _ eL6, qak (by rw [List.length_map]; omega), ?_⟩
            refine fin u _ _ _ _ _ s9 ⟨y, ?_, (qac hu _) _ _ eyy⟩
            rw [← zo]
            exact qab
      · rintro σ H4 ⟨⟨v4, v5, v6, v7, rfl⟩, s4, _, _, rows4, lst4, len4, pap4⟩
        refine ⟨⟨_, _, _, _, _, rfl⟩, s4, rows4, lst4, ?_, pap4⟩
        rw [len4, List.length_map, lts]
        omega
    · rintro σ H2 ⟨⟨v3, v4, v5, v6, v7, rfl⟩, s2, rows, lst2, len2, pap2⟩
      subst hCa1
      try dsimp only [qaS, tNext]
      refine ⟨_, rfl, q L rows H2 s2 hL lst2 ?_ pap2⟩
      rw [len2]
      congr 1
end
end K14
namespace L2
open PySem PySem.Spec PyProof.Rows
theorem qd8 {α β : Type} {g : α → Option β} {h : α → β} : ∀ {l : List α}, (∀ x ∈ l, g x = some (h x)) → l.filterMap g = l.map h
  | [], _ => rfl
  | x :: r, k => by
    rw [List.filterMap_cons, k x (List.mem_cons_self ..), List.map_cons, qd8 fun y hy => k y (List.mem_cons_of_mem _ hy)]
theorem range_rev (n : Nat) : sliceRange ((n : Int) - 1) (-1) (-1) = (List.range n).map fun k => n - 1 - k := by
  unfold sliceRange
  have e : (if (-1 : Int) > 0 then (if ((n : Int) - 1) < -1 then (-1 - ((n : Int) - 1) + -1 - 1) / -1 else 0) else (if ((n : Int) - 1) > -1 then (((n : Int) - 1) - -1 - -1 - 1) / (- -1) else 0)) = (n : Int) := by
    rw [if_neg (by decide)]
    by_cases h : n = 0
    · rw [if_neg (by omega), h]
      rfl
    · rw [if_pos (by omega), show (- -1 : Int) = 1 from rfl, Int.ediv_one]
      omega
  show (List.range (Int.toNat (if (-1 : Int) > 0 then _ else _))).map _ = _
  rw [e, Int.toNat_natCast]
  refine List.map_congr_left fun k hk => ?_
  have := List.mem_range.mp hk
  omega
theorem pick_rev (its : List Value) : slicePick its.toArray none none (some (-1)) = its.reverse.toArray := by
  have hb : sliceBounds none none (some (-1)) its.toArray.size = ((its.length : Int) - 1, -1, -1) := by
    unfold sliceBounds
    simp
  unfold slicePick
  rw [hb]
  dsimp only
  rw [range_rev]
  congr 1
  rw [qd8 (h := fun i => its.getD i .none)]
  · rw [List.map_map]
    refine List.ext_getElem (by simp) fun i h1 h2 => ?_
    simp only [List.length_map, List.length_range] at h1
    rw [List.getElem_map, List.getElem_range, List.getElem_reverse]
    show its.getD (its.length - 1 - i) .none = _
    rw [List.getD_eq_getElem?_getD, List.getElem?_eq_getElem (by omega)]
    rfl
  · intro x hx
    obtain ⟨k, hk, rfl⟩ := List.mem_map.mp hx
    have := List.mem_range.mp hk
    rw [List.getElem?_toArray, List.getD_eq_getElem?_getD, List.getElem?_eq_getElem (by omega)]
    rfl
section
variable {X : Cx} {e est : Expr} {te : TE} {tst : TO} {p2 pos : Pos}
def tRevS (K : PySem.W.Frag) (te : TE) (tst : TO) : TE := fun σ H Q => te σ H fun x H1 => tst σ H1 fun st H2 => st = some (-1) ∧ ∃ a xs, x = .ref a ∧ SqL K H2 a xs ∧ ∀ p, H2 p = none → Q (.ref p) (upd H2 p (.lst xs.reverse))
theorem pe_revS (he : PE X e te) (hst : PO X (some est) tst) : PE X (.Subscript e (.Slice none none (some est) p2) pos) (tRevS X.K te tst) := by
  intro pins s σ H Q I h
  refine Subscript_ (thn (he pins s σ H _ I h) fun v s1 ⟨x, H1, I1, r1, q1⟩ => ?_)
  refine wpAny_Slice ?_
  rw [evalPart_none]
  refine wpAny_pure ?_
  refine wpAny_pure (thn (hst pins s1 σ H1 _ I1 q1) fun vst s3 ⟨st, H3, I3, pst, q3⟩ => ?_)
  obtain ⟨rfl, a, xs, rfl, hx, q⟩ := q3
  cases r1
  have I4 : Inv X pins σ H3 { s3 with heap := s3.heap.push { cls := .type "slice", data := .fields #[.none, .none, vst] } } := I3.kept (t' := s3.toks) fun b ob q => Heap.get?_push_of_some _ q
  show wpAny (model X.prog X.w) X.A (subscriptTail e (.Slice none none (some est) p2) (.ref a) (.ref s3.heap.objs.size)) (EP X pins σ Q) X.xe { s3 with heap := s3.heap.push { cls := .type "slice", data := .fields #[.none, .none, vst] } }
  obtain ⟨its, r, ht, hz⟩ := I4.list hx
  have hlen := r.length
  refine tail_any (ops := [.ref a, .ref s3.heap.objs.size]) ht.isList.typeIs slot_list_getitem.lookup ?_ (by with_unfolding_all rfl)
  refine wpAny_getItem_list_slice ht.isList (Heap.IsSliceOf.new ..) .none .none pst (by decide) ?_ (by rw [List.size_toArray] <;> omega)
  rw [pick_rev]
  refine ⟨.ref _, _, I4.laid (t' := s3.toks) (o := .lst xs.reverse) (fun b ob q => Heap.get?_push_of_some _ q) (Nat.le_refl _) ?_, rfl, q _ (I4.hok.fresh (Nat.le_refl _))⟩
  exact ⟨by rw [List.length_reverse]; exact hz, _, 0, r.reverse, Heap.get?_push_size _ rfl⟩
end
def rGtT (K : PySem.W.Frag) : R2 := fun x y H Q => ∃ a b ns ms, x = .ref a ∧ y = .ref b ∧ SqT K H a (ns.map V.int) ∧ SqT K H b (ms.map V.int) ∧ Q (.bl (HT.lexGt ns ms)) H
theorem op_gtT {X : Cx} (hu : X.A.units < cLine) : OpR X (compareOp .Gt) (rGtT X.K) := by
  intro pins s σ H x y v u Q I rx ry h
  obtain ⟨a, b, ns, ms, rfl, rfl, ha, hb, q⟩ := h
  cases rx
  cases ry
  obtain ⟨its, r1, p1, _⟩ := I.tuple ha
  obtain ⟨its2, r2, p2, _⟩ := I.tuple hb
  have i1 : IntsAre its.toArray.toList ns := qbd r1
  have i2 : IntsAre its2.toArray.toList ms := qbd r2
  exact HT.gt_tupInts p1 p2 i1 i2 hu ⟨.bl (HT.lexGt ns ms), H, I, rfl, q⟩
end L2
namespace Fc
open PySem L2 Bk Gen PySem.Spec PyProof.Rows
end Fc
namespace L2
open PySem PySem.Spec PyProof.Rows
theorem sl_tupK {X : Cx} (K : PySem.W.Frag) (hK : X.K = K) : SlR X (rSlT K) := by
  subst hK
  exact sl_tup
theorem op_gtTK {X : Cx} (K : PySem.W.Frag) (hK : X.K = K) (hu : X.A.units < cLine) : OpR X (compareOp .Gt) (rGtT K) := by
  subst hK
  exact op_gtT hu
end L2
namespace K14
open PySem L2 Bk Gen Gd Bd Fc
open PySem.W (Dat kqdOk)
abbrev sHeadings : Stmt := top 27
abbrev sNames : Stmt := top 29
def whyD : Why → Dat
  | .own => .tuple [.str (Str.ofString "own")]
  | .eld e => .tuple [.str (Str.ofString "elder"), .int e]
  | .rule k => .tuple [.str (Str.ofString "rule"), .int k]
def prwD (r : Prw) : Dat := .tuple [.int r.n, .str (propNames.getD r.j noName), whyD r.y, .int r.v]
theorem why_in {H : Hp} {y : Addr} {u : Why} (h : H y = some (.tup u.vs)) : DIn H (.ref y) (whyD u) := by
  cases u with
  | own => exact .tup h (.cons (.str _) .nil)
  | eld e => exact .tup h (.cons (.str _) (.cons (.int _) .nil))
  | rule k => exact .tup h (.cons (.str _) (.cons (.int _) .nil))
theorem qem {H : Hp} {a : Addr} {r : Prw} (h : PrwAt H a r) : DIn H (.ref a) (prwD r) := by
  obtain ⟨y, e1, e2⟩ := h
  exact .tup e1 (.cons (.int _) (.cons (.str _) (.cons (why_in e2) (.cons (.int _) .nil))))
theorem prws_in {H : Hp} {as : List Addr} {rs : List Prw} (p : Paired (PrwAt H) as rs) : DAll H (as.map V.ref) (rs.map prwD) := by
  induction p with
  | nil => exact .nil
  | cons q t ih => exact .cons (qem q) ih
theorem qcK {H : Hp} {p : Addr} {rs : List Prw} (h : qa1 PrwAt H p rs) : DIn H (.ref p) (.list (rs.map prwD)) := by
  obtain ⟨as, e, q⟩ := h
  exact .lst e (prws_in q)
theorem pn_str : ∀ j, j < 13 → PyData.strOk (propNames.getD j noName) = true := by decide +kernel
theorem why_ok {n : Nat} (u : Why) : kqdOk (n + 2) (whyD u) = true := by
  cases u with
  | own => simp only [whyD, kqdOk, List.all_cons, List.all_nil, Bool.and_true]; decide +kernel
  | eld e => simp only [whyD, kqdOk, List.all_cons, List.all_nil, Bool.and_true]; decide +kernel
  | rule k => simp only [whyD, kqdOk, List.all_cons, List.all_nil, Bool.and_true]; decide +kernel
theorem qes {n : Nat} {r : Prw} (h : r.j < 13) : kqdOk (n + 3) (prwD r) = true := by
  have := pn_str _ h
  simp only [prwD, kqdOk, List.all_cons, List.all_nil, Bool.and_true, Bool.and_eq_true]
  exact ⟨trivial, this, why_ok (n := n) _⟩
theorem qcE {rs : List Prw} (h : ∀ r ∈ rs, r.j < 13) : kqdOk 9 (.list (rs.map prwD)) = true := by
  simp only [kqdOk, List.all_eq_true, List.mem_map]
  rintro x ⟨r, hr, rfl⟩
  exact qes (n := 5) (h r hr)
theorem qcL {α β : Type} {f : α → β} {l l' : List α} (h : ∀ x ∈ l, ∀ y ∈ l', f x = f y → x = y) (e : l.map f = l'.map f) : l = l' := by
  induction l generalizing l' with
  | nil =>
    cases l' with
    | nil => rfl
    | cons _ _ => simp at e
  | cons a t ih =>
    cases l' with
    | nil => simp at e
    | cons b t' =>
      simp only [List.map_cons, List.cons.injEq] at e
      rw [h a (List.mem_cons_self ..) b (List.mem_cons_self ..) e.1, ih (fun x hx y hy => h x (List.mem_cons_of_mem _ hx) y (List.mem_cons_of_mem _ hy)) e.2]
theorem qer {p q : Prop} {b : Bool} (h : b = false) (k : q) : if b = true then p else q := by rw [h]; exact iteF k
theorem qe9 {p q : Prop} {b : Bool} (h : b = true) (k : p) : if b = true then p else q := by rw [h]; exact iteT k
theorem gt3 {a b c a' b' c' : Int} : HT.lexGt [a, b, c] [a', b', c'] = true ↔ (a' < a ∨ (a = a' ∧ (b' < b ∨ (b = b' ∧ c' < c)))) := by
  show (if a = a' then (if b = b' then (if c = c' then false else decide (c' < c)) else decide (b' < b)) else decide (a' < a)) = true ↔ _
  by_cases h1 : a = a'
  · rw [if_pos h1]
    by_cases h2 : b = b'
    · rw [if_pos h2]
      by_cases h3 : c = c'
      · rw [if_pos h3]
        exact ⟨fun z => (by cases z), fun z => by omega⟩
      · rw [if_neg h3, decide_eq_true_iff]
        exact ⟨fun z => by omega, fun z => by omega⟩
    · rw [if_neg h2, decide_eq_true_iff]
      exact ⟨fun z => by omega, fun z => by omega⟩
  · rw [if_neg h1, decide_eq_true_iff]
    exact ⟨fun z => by omega, fun z => by omega⟩
theorem gt3f {a b c a' b' c' : Int} : HT.lexGt [a, b, c] [a', b', c'] = false ↔ ¬ (a' < a ∨ (a = a' ∧ (b' < b ∨ (b = b' ∧ c' < c)))) := by
  rw [← gt3]
  simp
theorem qd9 {rl : List Rl} {n : Nat} {x : Rl} (e : rl[n]? = some x) : qaJ rl n = [x.rank, qbb x, (n : Int)] := by unfold qaJ; simp only [e]
theorem qdC {gt : Nat → Nat → Bool} {N : Nat} (tr : ∀ i j k, i ≤ N → j ≤ N → k ≤ N → gt i j = false → gt k j = true → gt i k = false) (ir : ∀ i, i ≤ N → gt i i = false) : ∀ n, n ≤ N → ∀ i, i ≤ n → gt i (qaZ gt n) = false
  | 0, h, i, hi => by
    obtain rfl : i = 0 := by omega
    exact ir 0 h
  | n + 1, h, i, hi => by
    have ih := qdC tr ir n (by omega)
    have bl := qb6 gt n
    unfold qaZ
    by_cases g : gt (n + 1) (qaZ gt n) = true
    · rw [if_pos g]
      by_cases e : i = n + 1
      · rw [e]; exact ir _ h
      · exact tr i (qaZ gt n) (n + 1) (by omega) (by omega) h (ih i (by omega)) g
    · rw [if_neg g]
      by_cases e : i = n + 1
      · rw [e]; simpa using g
      · exact ih i (by omega)
theorem qei {rl : List Rl} {st : List Nat} (ok : ∀ k ∈ st, ∃ x, rl[k]? = some x) {k : Nat} : st[winI rl st]? = some k ↔ k ∈ st ∧ ∀ o ∈ st, HT.lexGt (qaJ rl o) (qaJ rl k) = false := by
  cases st with
  | nil => exact ⟨fun z => by simp at z, fun z => by simp at z⟩
  | cons a t =>
    have lt := qdy (rl := rl) (a := a) (t := t)
    have mem : ∀ i, i ≤ t.length → (a :: t).getD i 0 ∈ a :: t := fun i hi => by
      have h : i < (a :: t).length := by simp only [List.length_cons]; omega
      rw [List.getD_eq_getElem?_getD, List.getElem?_eq_getElem h]
      exact List.getElem_mem h
    have key : ∀ i, i ≤ t.length → ∃ x : Rl, qaJ rl ((a :: t).getD i 0) = [x.rank, qbb x, (((a :: t).getD i 0 : Nat) : Int)] := fun i hi => by
      obtain ⟨x, e⟩ := ok _ (mem i hi)
      exact ⟨x, qd9 e⟩
    have mx : ∀ i, i ≤ t.length → HT.lexGt (qaJ rl ((a :: t).getD i 0)) (qaJ rl ((a :: t).getD (winI rl (a :: t)) 0)) = false := fun i hi =>
      qdC (gt := fun i j => HT.lexGt (qaJ rl ((a :: t).getD i 0)) (qaJ rl ((a :: t).getD j 0))) (N := t.length) (fun i j k hi hj hk h1 h2 => by
        obtain ⟨x, ex⟩ := key i hi
        obtain ⟨y, ey⟩ := key j hj
        obtain ⟨z, ez⟩ := key k hk
        rw [ex, ey, gt3f] at h1
        rw [ez, ey, gt3] at h2
        rw [ex, ez, gt3f]
        omega) (fun i hi => by
        obtain ⟨x, ex⟩ := key i hi
        rw [ex, gt3f]
        omega) t.length (Nat.le_refl _) i hi
    have ev : (a :: t)[winI rl (a :: t)]? = some ((a :: t).getD (winI rl (a :: t)) 0) := by
      rw [List.getD_eq_getElem?_getD, List.getElem?_eq_getElem lt]
      rfl
    have wl : winI rl (a :: t) ≤ t.length := by simp only [List.length_cons] at lt; omega
    have idx : ∀ o ∈ a :: t, ∃ i, i ≤ t.length ∧ (a :: t).getD i 0 = o := fun o ho => by
      obtain ⟨i, hi, e⟩ := List.mem_iff_getElem.mp ho
      refine ⟨i, by simp only [List.length_cons] at hi; omega, ?_⟩
      rw [List.getD_eq_getElem?_getD, List.getElem?_eq_getElem hi, e]
      rfl
    constructor
    · intro e
      rw [ev] at e
      obtain rfl := Option.some.inj e
      refine ⟨mem _ wl, fun o ho => ?_⟩
      obtain ⟨i, hi, rfl⟩ := idx o ho
      exact mx i hi
    · rintro ⟨hk, hm⟩
      obtain ⟨i, hi, rfl⟩ := idx k hk
      have h1 := mx i hi
      have h2 := hm _ (mem _ wl)
      obtain ⟨x, ex⟩ := key i hi
      obtain ⟨y, ey⟩ := key _ wl
      rw [ex, ey, gt3f] at h1
      rw [ey, ex, gt3f] at h2
      rw [ev]
      congr 1
      omega
theorem inV_nat (k : Int) (st : List Nat) : inV (.int k) (st.map fun (n : Nat) => V.int n) = decide (∃ n ∈ st, (n : Int) = k) := by
  by_cases h : ∃ n ∈ st, (n : Int) = k
  · rw [decide_eq_true h]
    obtain ⟨n, hn, rfl⟩ := h
    unfold inV
    rw [List.any_eq_true]
    exact ⟨.int n, List.mem_map_of_mem hn, by show ((n : Int) == (n : Int)) = true; simp⟩
  · rw [decide_eq_false h]
    unfold inV
    rw [List.any_eq_false]
    intro v hv
    obtain ⟨n, hn, rfl⟩ := List.mem_map.mp hv
    show ¬ ((n : Int) == k) = true
    intro z
    exact h ⟨n, hn, beq_iff_eq.mp z⟩
theorem flat_nats (st : List Nat) : (st.map fun (n : Nat) => V.int n).all flatV = true := by
  rw [List.all_eq_true]
  intro v hv
  obtain ⟨x, _, rfl⟩ := List.mem_map.mp hv
  rfl
def HdAt (H : Hp) (a : Addr) (p : Int × Nat) : Prop := H a = some (.tup [.int p.1, .str (propNames.getD p.2 noName)])
def hdD (p : Int × Nat) : Dat := .tuple [.int p.1, .str (propNames.getD p.2 noName)]
def qbP (k : Nat) : List (Int × Nat) := (List.range k).map fun m => (((m / 13 : Nat) : Int), m % 13)
def spHeadings : Sp := fun vs H Q _ => ∃ (B : Addr) (ds : List Nd) (N : Addr → Prop), vs = [.ref B] ∧ qaY N H B ds ∧ ds.length ≤ 69 ∧ ∀ (L : Addr) (H' : Hp), Same H H' → qa1 HdAt H' L (qbP (13 * ds.length)) → Q (.ref L) H'
theorem qcC (n : Nat) : ∀ j, j ≤ 13 → qbP (13 * n + j) = qbP (13 * n) ++ (List.range j).map fun i => ((n : Int), i)
  | 0, _ => by simp
  | j + 1, h => by
    have ih := qcC n j (by omega)
    have e : qbP (13 * n + (j + 1)) = qbP (13 * n + j) ++ [((((13 * n + j) / 13 : Nat) : Int), (13 * n + j) % 13)] := by
      unfold qbP
      rw [show 13 * n + (j + 1) = 13 * n + j + 1 by omega, List.range_succ, List.map_append]
      rfl
    rw [e, ih, List.range_succ, List.map_append, List.append_assoc, show (13 * n + j) / 13 = n by omega, show (13 * n + j) % 13 = j by omega]
    rfl
theorem qdp (k : Nat) : (qbP k).length = k := by unfold qbP; rw [List.length_map, List.length_range]
def NameOk (rl : List Rl) (st : List Nat) (r : Prw) : Prop := ∃ k x, k ∈ st ∧ rl[k]? = some x ∧ r.y = .rule ((k : Nat) : Int) ∧ r.v = setV x (propNames.getD r.j noName) ∧ ∀ o ∈ st, HT.lexGt (qaJ rl o) (qaJ rl k) = false
def spNames : Sp := fun vs H Q _ => ∃ (R S t : Addr) (rl : List Rl) (st : List Nat) (r : Prw), vs = [.ref R, .ref S, .ref t] ∧ qbp H R rl ∧ (∀ x ∈ rl, qcA x) ∧ H S = some (.lst (st.map fun (n : Nat) => V.int n)) ∧ st.length ≤ 100 ∧ (∀ k ∈ st, ∃ x, rl[k]? = some x ∧ qba x (propNames.getD r.j noName) = true) ∧ PrwAt H t r ∧ ∀ (b : Bool) (H' : Hp), Same H H' → (b = true ↔ NameOk rl st r) → Q (.bl b) H'
section
variable {P : Program} {w : World} {K : PySem.W.Frag} {mg : Str → Option Value} {base : Heap}
theorem scHeadings : FnScope ["book", "told", "node"] ["book"] (qag sHeadings) := ⟨rfl, rfl, rfl, by decide +kernel, rfl, by decide +kernel, by decide +kernel⟩
theorem ok_headings {f a_PROPERTIES : Addr} {fd : FuncData} (F : Fun K "headings" "headings" sHeadings f fd) (T : BnD mg) (g_PROPERTIES : mg "PROPERTIES" = some (.ref a_PROPERTIES)) (PT : PropT K a_PROPERTIES) : FnOk P w K mg base CX0 1 f fd ["book"] spHeadings := by
  refine F.ok scHeadings (fun vs H Q E h => ?_) (fun cdv A outer s H vs Q E hr h => ?_)
  · obtain ⟨B, ds, N, rfl, _⟩ := h
    rfl
  · obtain ⟨B, ds, N, rfl, hBk, l69, q⟩ := h
    refine ⟨_, (qad (qap (i := 1) scHeadings.nd (by rfl) (by trivial) (qaA pa_nil))
      (qad (qa4 PassesOwn.never (by rfl) (qaD (by rfl) T.range (qaa (qaB call_len_seq (by rfl) T.len b_len (qaa (pv 0) pa_nil)) pa_nil)) (qan (i := 2) scHeadings.nd (by rfl) (by trivial))
      (qaf (qaN (qbI PySem.F.plainAttrs_list PySem.F.slot_list_extend PySem.F.type_list_extend mt_extend (pv 1) (qaa (qa0 (own := ["word"]) (by rfl) (ix := [2]) (frees := ["node"]) (CompScope.frees (by rfl) (by decide +kernel) (by decide +kernel) (by decide +kernel) (by rfl) (by decide +kernel) (by first | exact qb1 (by rfl) | exact qcg (by rfl) (by rfl))) (qeg (qax (v := .ref a_PROPERTIES) (by rfl) g_PROPERTIES rfl)) (fun cl C s2 H2 fp => (qan (i := 0) (by show (["word", "node"] : List Str).Nodup; decide +kernel) (by rfl) (by trivial) (by trivial))) (fun cl C s2 H2 fp => qa6) (fun cl C s2 H2 fp => (qaC (qaa (pv 1) (qaa (pv 0) pa_nil))))) pa_nil)))))
      (qaf (qau (pv 1))))), ?_⟩
    try dsimp only [cxOf, Cx.nox]
    refine ⟨by show 0 ≤ sizeLine; decide, fun L hL => ?_⟩
    have s1 := qac hL (.lst [])
    have hLL : upd H L (.lst []) L = some (.lst (([] : List Addr).map V.ref)) := qab
    generalize upd H L (.lst []) = H1 at s1 hLL ⊢
    obtain ⟨ab, hB, nd⟩ := id hBk
    have lb : ((ab.map V.ref).length : Nat) = ds.length := by rw [List.length_map, nd.length]
    refine ⟨_, rfl, B, _, rfl, .inl (SqL.of (s1 _ _ hB)), _, rfl, by omega, by omega, qaI (fun i σ H' => (∃ v2, σ = [some (.ref B), some (.ref L), v2]) ∧ Same H H' ∧ qa1 HdAt H' L (qbP (13 * i))) ⟨⟨none, rfl⟩, s1, [], hLL, .nil⟩ ?_ ?_⟩
    · rintro n σ H2 hn ⟨⟨v2, rfl⟩, s2, as, eL, pa⟩
      have hn' : n < ds.length := by rw [← lb]; simpa using hn
      rw [show (0 : Int) + (n : Int) = (n : Int) from Int.zero_add _]
      have la : as.length = 13 * n := by rw [Paired.length pa, qdp]
      refine ⟨_, rfl, .inl ⟨rfl, _, SqL.of eL⟩, a_PROPERTIES, rfl, ⟨_, PT.tup _⟩, qdD (xs := propNames.map V.str) (fun j ys σ' H' => Same H2 H' ∧ (∃ bs : List Addr, ys = bs.map V.ref ∧ Paired (HdAt H') bs ((List.range j).map fun i => ((n : Int), i))) ∧ ∃ z, σ' = [z, some (.int n)]) (by show 13 < sizeLine; decide) ⟨Same.refl _, ⟨[], rfl, .nil⟩, none, rfl⟩ ?_ ?_ ?_⟩
      · rintro j ys σ' H' hj ⟨s3, ⟨bs, rfl, pb⟩, _⟩
        refine ⟨PT.tup _, ?_⟩
        rw [List.length_map, Paired.length pb, List.length_map, List.length_range]
        exact Nat.le_refl _
      · rintro j x ys σ' H' hx ⟨s3, ⟨bs, rfl, pb⟩, z, rfl⟩
        rw [List.getElem?_map] at hx
        obtain ⟨wd, ewd, rfl⟩ := Option.map_eq_some_iff.mp hx
        obtain rfl : propNames.getD j noName = wd := by rw [List.getD_eq_getElem?_getD, ewd]; rfl
        refine ⟨_, rfl, _, rfl, by show 2 ≤ sizeLine; decide, fun t ht => ?_⟩
        have s4 := qac ht (.tup [.int (n : Int), .str (propNames.getD j noName)])
        refine ⟨s3.trans s4, ⟨bs ++ [t], by rw [List.map_append]; rfl, ?_⟩, _, rfl⟩
        rw [List.range_succ, List.map_append]
        exact (pb.mono fun a p h => s4 _ _ h).snoc qab
      rintro ys σ' H3 ⟨s3, ⟨bs, rfl, pb⟩, _⟩ D hD
      have s4 := qac hD (.lst (bs.map V.ref))
      have hDD := qab (H := H3) (a := D) (o := .lst (bs.map V.ref))
      generalize upd H3 D (.lst (bs.map V.ref)) = H4 at s4 hDD ⊢
      have s24 := s3.trans s4
      have eL4 := s24 _ _ eL
      have lbs : bs.length = 13 := by rw [Paired.length pb, List.length_map, List.length_range]; rfl
      refine ⟨L, D, _, _, rfl, rfl, eL4, hDD, Nat.le_of_lt (qak (by rw [List.length_map, List.length_map]; omega)), ?_⟩
      have tl : Tups H4 (upd H4 L (.lst (as.map V.ref ++ bs.map V.ref))) := Tups.lst eL4
      refine ⟨⟨_, rfl⟩, fun b o e => ?_, as ++ bs, by rw [qab, List.map_append], ?_⟩
      · rw [qai (qao e hL)]
        exact s24 _ _ (s2 _ _ e)
      · have hm := qcC n 13 (Nat.le_refl _)
        rw [show 13 * n + 13 = 13 * (n + 1) by omega] at hm
        rw [hm]
        exact qa3 (pa.mono fun a p h => tl _ _ (s24 _ _ h)) (pb.mono fun a p h => tl _ _ (s4 _ _ h))
    · rintro σ H2 ⟨⟨v2, rfl⟩, s2, lst⟩
      refine ⟨_, rfl, q L H2 s2 ?_⟩
      rw [← lb]
      exact lst
theorem scNames : FnScope ["rules", "setting", "row", "why"] ["rules", "setting", "row"] (qag sNames) := ⟨rfl, rfl, rfl, by decide +kernel, rfl, by decide +kernel, by decide +kernel⟩
theorem ok_names {f : Addr} {fd : FuncData} (F : Fun K "names_the_winner" "names_the_winner" sNames f fd) (T : BnD mg) (tW : ∃ t, mg "WORD" = some (.int 1 t)) (tY : ∃ t, mg "WHY" = some (.int 2 t)) (tV : ∃ t, mg "VALUE" = some (.int 3 t)) (tS : ∃ t, mg "SETS" = some (.int 4 t)) (F_precedence : Fx P w K mg base CX0 2 "precedence" ["rules", "number"] spPrec) : FnOk P w K mg base CX0 3 f fd ["rules", "setting", "row"] spNames := by
  refine F.ok scNames (fun vs H Q E h => ?_) (fun cdv A outer s H vs Q E hr h => ?_)
  · obtain ⟨R, S, t, rl, st, r, rfl, _⟩ := h
    rfl
  · obtain ⟨R, S, t, rl, st, r, rfl, hRl, sok, hS, l100, sets, rt, q⟩ := h
    obtain ⟨_, g_WORD⟩ := tW
    obtain ⟨_, g_WHY⟩ := tY
    obtain ⟨_, g_VALUE⟩ := tV
    obtain ⟨_, g_SETS⟩ := tS
    have hr_precedence := hr
    have hu1 := Nat.lt_of_le_of_lt (Nat.add_le_add_left (show 1 ≤ 64 by decide) _) hr.units
    have hu0 := Nat.lt_of_le_of_lt (Nat.le_add_right _ 64) hr.units
    refine ⟨_, (qad (qap (i := 3) scNames.nd (by rfl) (by trivial) (qaj ix_tup (pv 2) (qax (v := .int 2) (by rfl) g_WHY ⟨_, rfl⟩) (fun _ _ => rfl)))
      (qad (qaK (PW.pt (qcw (qal op_ne (qaB call_len_seq (by rfl) T.len b_len (qaa (pv 3) pa_nil)) qae (qas _)) (qcw (qal op_ne (qaj ix_tup (pv 3) qae (fun _ _ => rfl)) qam (qas _)) (qbX (qal op_notIn_seq (qaj ix_tup (pv 3) qae (fun _ _ => rfl)) (pv 1) (by with_unfolding_all rfl)))))) (qaf (qau qbT)) pss_nil)
      (qad (qaK (qal op_ne (qaj ix_tup (pv 2) (qax (v := .int 3) (by rfl) g_VALUE ⟨_, rfl⟩) (fun _ _ => rfl)) (qet hu1 (qaP (qbW (by rfl)) (by rfl) T.dict b_dict (qaa (qaj ix_tup (qaj ix_list (pv 0) (qaj ix_tup (pv 3) qae (fun _ _ => rfl)) (fun _ _ => rfl)) (qax (v := .int 4) (by rfl) g_SETS ⟨_, rfl⟩) (fun _ _ => rfl)) pa_nil)) (qaj ix_tup (pv 2) (qax (v := .int 1) (by rfl) g_WORD ⟨_, rfl⟩) (fun _ _ => rfl)) (fun _ _ => rfl)) (qas _)) (qaf (qau qbT)) pss_nil)
      (qaf (qau (pe_not (qaB (call_any (by rfl)) (by rfl) T.any b_any (qaa (qa0 (own := ["other"]) (by rfl) (ix := [0, 3]) (frees := ["rules", "why"]) (CompScope.frees (by rfl) (by decide +kernel) (by decide +kernel) (by decide +kernel) (by rfl) (by decide +kernel) (by first | exact qb1 (by rfl) | exact qcg (by rfl) (by rfl))) (qa2 (pv 1)) (fun cl C s2 H2 fp => (qan (i := 0) (by show (["other", "rules", "why"] : List Str).Nodup; decide +kernel) (by rfl) (by trivial) (by trivial))) (fun cl C s2 H2 fp => qa6) (fun cl C s2 H2 fp => (qbk (op_gtTK K (by rfl) hu0) (qar F_precedence hr_precedence (by rfl) qaq (qaa (pv 1) (qaa (pv 0) pa_nil))) (qar F_precedence hr_precedence (by rfl) qaq (qaa (pv 1) (qaa (qaj (r := rIxT K) ix_tup (pv 2) qae (fun _ _ => rfl)) pa_nil))) (qas _)))) pa_nil)))))))), ?_⟩
    try dsimp only [cxOf, Cx.nox]
    obtain ⟨y, ht, hy⟩ := id rt
    refine ⟨_, rfl, t, _, _, _, rfl, rfl, SqT.of ht, rfl, ?_⟩
    cases ey : r.y with
    | own =>
      rw [ey] at hy
      refine ⟨_, rfl, y, _, rfl, .inr (SqT.of hy), rfl, _, rfl, iteT (iteT ?_)⟩
      refine q false H (Same.refl H) ⟨fun z => (by cases z), ?_⟩
      rintro ⟨k, x, _, _, e, _⟩
      rw [ey] at e
      cases e
    | eld e =>
      rw [ey] at hy
      refine ⟨_, rfl, y, _, rfl, .inr (SqT.of hy), rfl, _, rfl, iteF ?_⟩
      refine ⟨_, rfl, y, _, _, _, rfl, rfl, SqT.of hy, rfl, rfl, _, rfl, ?_⟩
      refine qe9 (by decide +kernel) (iteT ?_)
      refine q false H (Same.refl H) ⟨fun z => (by cases z), ?_⟩
      rintro ⟨k, x, _, _, e, _⟩
      rw [ey] at e
      cases e
    | rule k =>
      rw [ey] at hy
      refine ⟨_, rfl, y, _, rfl, .inr (SqT.of hy), rfl, _, rfl, iteF ?_⟩
      refine ⟨_, rfl, y, _, _, _, rfl, rfl, SqT.of hy, rfl, rfl, _, rfl, ?_⟩
      refine qer (by decide +kernel) ?_
      refine ⟨_, rfl, y, _, _, _, rfl, rfl, SqT.of hy, rfl, _, rfl, S, _, rfl, .inl (SqL.of hS), rfl, flat_nats _, _, rfl, ?_⟩
      rw [if_pos rfl, inV_nat]
      by_cases hk : ∃ n ∈ st, (n : Int) = k
      rotate_left
      · rw [decide_eq_false hk]
        refine iteT ?_
        refine q false H (Same.refl H) ⟨fun z => (by cases z), ?_⟩
        rintro ⟨k', x, hk', _, e, _⟩
        rw [ey] at e
        cases e
        exact absurd ⟨k', hk', rfl⟩ hk
      rw [decide_eq_true hk]
      refine iteF ?_
      obtain ⟨n, hn, rfl⟩ := hk
      obtain ⟨x, ex, sw⟩ := sets n hn
      obtain ⟨rs, hR, pr⟩ := id hRl
      obtain ⟨rr, er, _, sa, sv, hr', _, hs', ps⟩ := pget pr ex
      obtain ⟨as', rfl, po⟩ := qc2 ps
      have so := sok _ (List.mem_of_getElem? ex)
      have uni : ∀ {k' : Nat}, r.y = .rule ((k' : Nat) : Int) → k' = n := fun {k'} e => by
        rw [ey] at e
        injection e with e'
        exact (Int.ofNat.inj e').symm
      refine ⟨_, rfl, t, _, _, _, rfl, rfl, SqT.of ht, rfl, _, rfl, _, rfl, y, _, _, _, rfl, rfl, SqT.of hy, rfl, R, _, _, _, rfl, rfl, SqL.of hR, qaz er, rr, _, _, _, rfl, rfl, SqT.of hr', rfl, sa, as', oddK x.sets, rfl, SqL.of hs', qdf po, fun dd hd => ?_⟩
      rw [qb2 so.1]
      have s1 := qac hd (.dK (oddK x.sets))
      have hdd := qab (H := H) (a := dd) (o := .dK (oddK x.sets))
      generalize upd H dd (.dK (oddK x.sets)) = H1 at s1 hdd ⊢
      refine ⟨_, rfl, t, _, _, _, rfl, rfl, SqT.of (s1 _ _ ht), rfl, dd, .int (setV x (propNames.getD r.j noName)), rfl, .inl ⟨_, .inr _, Rd.of hdd, rfl, (qcZ sw).symm⟩, rfl, _, rfl, ?_⟩
      by_cases hv : r.v = setV x (propNames.getD r.j noName)
      rotate_left
      · refine qe9 (by show (!decide (V.int r.v = V.int (setV x (propNames.getD r.j noName)))) = true; rw [decide_eq_false fun z => hv (V.int.inj z)]; rfl) ?_
        refine q false H1 s1 ⟨fun z => (by cases z), ?_⟩
        rintro ⟨k', x', _, ex', e, e2, _⟩
        have := uni e
        subst this
        rw [ex] at ex'
        cases ex'
        exact absurd e2 hv
      refine qer (by show (!decide (V.int r.v = V.int (setV x (propNames.getD r.j noName)))) = false; rw [hv, decide_eq_true rfl]; rfl) ?_
      refine ⟨_, rfl, S, rfl, ⟨_, SqL.of (s1 _ _ hS)⟩, qaO (xs := st.map fun (n : Nat) => V.int n) (fun i ys σ' H' => Same H1 H' ∧ ys = ((st.take i).map fun o => HT.lexGt (qaJ rl o) (qaJ rl n)).map V.bl ∧ ∃ z, σ' = [z, some (.ref R), some (.ref y)]) (by rw [List.length_map]; exact qak (by omega)) ⟨Same.refl _, rfl, none, rfl⟩ ?_ ?_ ?_⟩
      · rintro i ys σ' H' hi ⟨s2, rfl, _⟩
        refine ⟨SqL.of (s2 _ _ (s1 _ _ hS)), ?_⟩
        rw [List.length_map, List.length_map, List.length_take]
        exact Nat.min_le_left _ _
      · rintro i v ys σ' H2 hv' ⟨s2, rfl, z, rfl⟩
        rw [List.getElem?_map] at hv'
        obtain ⟨o, eo, rfl⟩ := Option.map_eq_some_iff.mp hv'
        obtain ⟨xo, exo, _⟩ := sets o (List.mem_of_getElem? eo)
        have s02 := s1.trans s2
        refine ⟨_, rfl, _, rfl, R, o, xo, rl, rfl, qaL s02 hRl, exo, fun t1 H3 s3 _ e3 => ?_⟩
        refine ⟨_, rfl, _, rfl, y, _, _, _, rfl, rfl, SqT.of (s3 _ _ (s02 _ _ hy)), rfl, R, n, x, rl, rfl, qaL (s02.trans s3) hRl, ex, fun t2 H4 s4 _ e4 => ?_⟩
        refine ⟨t1, t2, _, _, rfl, rfl, SqT.of (s4 _ _ e3), SqT.of e4, s2.trans (s3.trans s4), ?_, _, rfl⟩
        rw [List.take_succ, eo, List.map_append, List.map_append, ← qd9 exo, ← qd9 ex]
        rfl
      rintro ys σ' H2 ⟨s2, rfl, _⟩ D hD
      rw [show st.take (st.map fun (n : Nat) => V.int n).length = st from List.take_of_length_le (by rw [List.length_map]; exact Nat.le_refl _)]
      have s3 := qac hD (.lst ((st.map fun o => HT.lexGt (qaJ rl o) (qaJ rl n)).map V.bl))
      refine ⟨D, st.map fun o => HT.lexGt (qaJ rl o) (qaJ rl n), rfl, SqL.of qab, _, rfl, ?_⟩
      refine q _ _ (s1.trans (s2.trans s3)) ⟨fun z => ⟨n, x, hn, ex, ey, hv, fun o ho => ?_⟩, ?_⟩
      · have z' : (st.map fun o => HT.lexGt (qaJ rl o) (qaJ rl n)).any id = false := by simpa using z
        rw [List.any_eq_false] at z'
        simpa using z' _ (List.mem_map_of_mem ho)
      · rintro ⟨k', x', _, _, e, _, m⟩
        have := uni e
        subst this
        have z' : (st.map fun o => HT.lexGt (qaJ rl o) (qaJ rl k')).any id = false := by
          rw [List.any_eq_false]
          intro b hb
          obtain ⟨o, ho, rfl⟩ := List.mem_map.mp hb
          rw [m o ho]
          simp
        rw [z']
        rfl
end
end K14
namespace K14
open PySem L2 Bk Gen Gd Bd Fc
open PySem.W (Dat kqdOk)
abbrev sRowH : Stmt := top 28
def rowG (rl : List Rl) (ns : List Nat) (d : Nd) (pre : List Prw) (n j : Nat) : Prw :=
  match winO rl (propNames.getD j noName) ns with
  | some k => ⟨n, j, .rule k, match rl[k]? with | some x => setV x (propNames.getD j noName) | none => 0⟩
  | none => ⟨n, j, untY d.e n j, untV pre d.e n j⟩
theorem rowG_take {ds : List Nd} {rl : List Rl} {l : Nat} {d : Nd} {rows : List Prw} {n j m : Nat} (h : j < 2 → n ≠ 0 → d.e.toNat * 13 + j < m) : rowN ds rl l d (rows.take m) n j = rowG rl (qa5 ds l d rl rl.length) d rows n j := by
  unfold rowN rowG
  cases winO rl (propNames.getD j noName) (qa5 ds l d rl rl.length) with
  | some k => rfl
  | none =>
    have e : untV (rows.take m) d.e n j = untV rows d.e n j := by
      unfold untV
      by_cases c : j < 2 ∧ n ≠ 0
      · rw [if_pos c, if_pos c, List.getElem?_take_of_lt (h c.1 c.2)]
      · rw [if_neg c, if_neg c]
    show (⟨n, j, untY d.e n j, untV (rows.take m) d.e n j⟩ : Prw) = ⟨n, j, untY d.e n j, untV rows d.e n j⟩
    rw [e]
theorem pn_inj : ∀ i, i < 13 → ∀ j, j < 13 → propNames.getD i noName = propNames.getD j noName → i = j := by decide +kernel
theorem why_inj {a b : Why} (h : whyD a = whyD b) : a = b := by
  have n1 : Str.ofString "elder" ≠ Str.ofString "rule" := by decide +kernel
  cases a <;> cases b <;> simp only [whyD, Dat.tuple.injEq, List.cons.injEq, Dat.str.injEq, Dat.int.injEq, reduceCtorEq, and_true, and_false, true_and] at h
  all_goals first
    | rfl
    | (rw [h])
    | exact absurd h.1 n1
    | exact absurd h.1.symm n1
theorem qd4 {r r' : Prw} (h : prwD r = prwD r') (a : r.j < 13) (b : r'.j < 13) : r = r' := by
  obtain ⟨n, j, y, v⟩ := r
  obtain ⟨n', j', y', v'⟩ := r'
  simp only [prwD, Dat.tuple.injEq, List.cons.injEq, Dat.str.injEq, Dat.int.injEq, and_true] at h
  obtain ⟨h1, h2, h3, h4⟩ := h
  rw [h1, pn_inj j a j' b h2, why_inj h3, h4]
def spRowH : Sp := fun vs H Q _ => ∃ (B R Ft Pp t : Addr) (ds : List Nd) (rl : List Rl) (ns : List Nat) (rows : List Prw) (r : Prw) (n : Nat) (d : Nd), vs = [.ref B, .ref R, .ref Ft, .ref Pp, .ref t] ∧ qaY (fun _ => True) H B ds ∧ ds[n]? = some d ∧ qbp H R rl ∧ (∀ x ∈ rl, qcA x) ∧
  H Ft = some (.lst (ns.map fun (n : Nat) => V.int n)) ∧ ns.length ≤ 100 ∧ (∀ k ∈ ns, k < rl.length) ∧ qa1 PrwAt H Pp rows ∧ PrwAt H t r ∧ r.n = (n : Int) ∧ r.j < 13 ∧ (r.j < 2 → n ≠ 0 → 0 ≤ d.e ∧ d.e.toNat * 13 + r.j < rows.length ∧ rows.length ≤ 100000) ∧
  ∀ (b : Bool) (H' : Hp), Same H H' → (b = true ↔ r = rowG rl ns d rows n r.j) → Q (.bl b) H'
section
variable {P : Program} {w : World} {K : PySem.W.Frag} {mg : Str → Option Value} {base : Heap}
theorem scRowH : FnScope ["book", "rules", "fitting", "paper", "row", "setting"] ["book", "rules", "fitting", "paper", "row"] (qag sRowH) := ⟨rfl, rfl, rfl, by decide +kernel, rfl, by decide +kernel, by decide +kernel⟩
theorem ok_rowH {f : Addr} {fd : FuncData} (F : Fun K "row_holds" "row_holds" sRowH f fd) (T : BnD mg) (tN : ∃ t, mg "NODE" = some (.int 0 t)) (tW : ∃ t, mg "WORD" = some (.int 1 t)) (tY : ∃ t, mg "WHY" = some (.int 2 t)) (tS : ∃ t, mg "SETS" = some (.int 4 t))
    (F_untold_of : Fx P w K mg base CX0 1 "untold_of" ["book", "paper", "node", "word"] spUntold) (F_names_the_winner : Fx P w K mg base CX0 3 "names_the_winner" ["rules", "setting", "row"] spNames) : FnOk P w K mg base CX0 4 f fd ["book", "rules", "fitting", "paper", "row"] spRowH := by
  refine F.ok scRowH (fun vs H Q E h => ?_) (fun cdv A outer s H vs Q E hr h => ?_)
  · obtain ⟨B, R, Ft, Pp, t, ds, rl, ns, rows, r, n, d, rfl, _⟩ := h
    rfl
  · obtain ⟨B, R, Ft, Pp, t, ds, rl, ns, rows, r, n, d, rfl, hBk, ed, hRl, sok, hF, l100, nlt, hP, rt, rn, j13, eld, q⟩ := h
    obtain ⟨_, g_NODE⟩ := tN
    obtain ⟨_, g_WORD⟩ := tW
    obtain ⟨_, g_WHY⟩ := tY
    obtain ⟨_, g_SETS⟩ := tS
    have hr_untold_of : Room 1 _ := hr.mono (by decide)
    have hr_names_the_winner := hr
    have hu := hr.units
    have hu1 := Nat.lt_of_le_of_lt (Nat.add_le_add_left (show 1 ≤ 64 by decide) _) hr.units
    refine ⟨_, (qad (qcb (i := 5) (by rfl) scRowH.nd (by rfl) (by trivial) (own := ["number"]) (ix := [4, 1]) (frees := ["row", "rules"]) (CompScope.frees (by rfl) (by decide +kernel) (by decide +kernel) (by decide +kernel) (by rfl) (by decide +kernel) (by first | exact qb1 (by rfl) | exact qcg (by rfl) (by rfl))) (qa2 (pv 2)) (fun cl C s2 H2 fp => (qan (i := 0) (by show (["number", "row", "rules"] : List Str).Nodup; decide +kernel) (by rfl) (by trivial) (by trivial))) (fun cl C s2 H2 fp => (qbw (qct (qeJ hu1 (qaj (r := rIxT K) ix_tup (pv 1) (qax (v := .int 1) (by rfl) g_WORD ⟨_, rfl⟩) (fun _ _ => rfl)) (qaP (r := qew K) (qce K (by rfl) (by rfl)) (by rfl) T.dict b_dict (qaa (qaj (r := rIxT K) ix_tup (qaj (r := rIxL K) ix_list (pv 2) (pv 0) (fun _ _ => rfl)) (qax (v := .int 4) (by rfl) g_SETS ⟨_, rfl⟩) (fun _ _ => rfl)) pa_nil)))))) (fun cl C s2 H2 fp => (pv 0)))
      (qad (qaK (qal op_eq (qaB call_len_seq (by rfl) T.len b_len (qaa (pv 5) pa_nil)) qae (qas _)) (qaf (qau (qbk (qdV hu) (pv 4) (qaw op_catT (qaR sl_tup (pv 4) po_none (qaW (qax (v := .int 2) (by rfl) g_WHY ⟨_, rfl⟩))) (qar F_untold_of hr_untold_of (by rfl) qaq (qaa (pv 0) (qaa (pv 3) (qaa (qaj ix_tup (pv 4) (qax (v := .int 0) (by rfl) g_NODE ⟨_, rfl⟩) (fun _ _ => rfl)) (qaa (qaj ix_tup (pv 4) (qax (v := .int 1) (by rfl) g_WORD ⟨_, rfl⟩) (fun _ _ => rfl)) pa_nil)))))) (qas _)))) pss_nil)
      (qaf (qau (qar F_names_the_winner hr_names_the_winner (by rfl) qaq (qaa (pv 1) (qaa (pv 5) (qaa (pv 4) pa_nil)))))))), ?_⟩
    try dsimp only [cxOf, Cx.nox]
    obtain ⟨y, ht, hy⟩ := id rt
    rw [rn] at ht
    refine ⟨_, rfl, Ft, rfl, ⟨_, SqL.of hF⟩, qaO (xs := ns.map fun (n : Nat) => V.int n) (fun i ys σ' H' => Same H H' ∧ ys = (setting rl (propNames.getD r.j noName) (ns.take i)).map (fun (n : Nat) => V.int n) ∧ ∃ z, σ' = [z, some (.ref t), some (.ref R)]) (by rw [List.length_map]; exact qak (by omega)) ⟨Same.refl _, rfl, none, rfl⟩ ?_ ?_ ?_⟩
    · rintro i ys σ' H' hi ⟨s1, rfl, _⟩
      refine ⟨SqL.of (s1 _ _ hF), ?_⟩
      rw [List.length_map]
      refine Nat.le_trans (List.length_filter_le _ _) ?_
      rw [List.length_take]
      exact Nat.min_le_left _ _
    · rintro i v ys σ' H1 hv ⟨s1, rfl, z, rfl⟩
      rw [List.getElem?_map] at hv
      obtain ⟨k, en, rfl⟩ := Option.map_eq_some_iff.mp hv
      have nl := nlt k (List.mem_of_getElem? en)
      have ex : rl[k]? = some rl[k] := List.getElem?_eq_getElem nl
      obtain ⟨rs, hR, pr⟩ := qaL s1 hRl
      obtain ⟨rr, er, rx⟩ := pget pr ex
      have so := sok _ (List.mem_of_getElem? ex)
      rw [qb0 en ex]
      generalize rl[k] = x at ex rx so
      obtain ⟨_, sa, sv, hr', _, hs', ps⟩ := rx
      obtain ⟨as, rfl, po⟩ := qc2 ps
      refine ⟨_, rfl, t, _, _, _, rfl, rfl, SqT.of (s1 _ _ ht), rfl, _, rfl, _, rfl, R, _, _, _, rfl, rfl, SqL.of hR, qaz er, rr, _, _, _, rfl, rfl, SqT.of hr', rfl, sa, as, oddK x.sets, rfl, SqL.of hs', qdf po, fun d hd => ?_⟩
      rw [qb2 so.1]
      refine ⟨d, valV (oddK x.sets) (.inr (propNames.getD r.j noName)), rfl, .inl ⟨_, .inr (propNames.getD r.j noName), Rd.of qab, rfl, rfl⟩, _, rfl, ?_⟩
      have s2 := s1.trans (qac hd (.dK (oddK x.sets)))
      cases hb : qba x (propNames.getD r.j noName) with
      | true =>
        rw [show (valV (oddK x.sets) (.inr (propNames.getD r.j noName))).isSome = true from hb, if_pos rfl]
        refine iteT ⟨_, rfl, s2, ?_, _, rfl⟩
        rw [List.map_append]
        rfl
      | false =>
        rw [show (valV (oddK x.sets) (.inr (propNames.getD r.j noName))).isSome = false from hb, if_neg Bool.false_ne_true]
        exact iteF ⟨s2, rfl, _, rfl⟩
    rintro ys σ' H1 ⟨s1, rfl, _⟩ D hD
    rw [show ns.take (ns.map fun (n : Nat) => V.int n).length = ns from List.take_of_length_le (by rw [List.length_map]; exact Nat.le_refl _)]
    have sets : ∀ k ∈ setting rl (propNames.getD r.j noName) ns, ∃ x, rl[k]? = some x ∧ qba x (propNames.getD r.j noName) = true := fun k hk => by
      have h2 := (List.mem_filter.mp hk).2
      cases ex : rl[k]? with
      | none => rw [ex] at h2; cases h2
      | some x => rw [ex] at h2; exact ⟨x, rfl, h2⟩
    have sl : (setting rl (propNames.getD r.j noName) ns).length ≤ 100 := Nat.le_trans (List.length_filter_le _ _) l100
    have eW : winO rl (propNames.getD r.j noName) ns = (setting rl (propNames.getD r.j noName) ns)[winI rl (setting rl (propNames.getD r.j noName) ns)]? := rfl
    generalize setting rl (propNames.getD r.j noName) ns = st at sets sl eW ⊢
    have s2 := s1.trans (qac hD (.lst (st.map fun (n : Nat) => V.int n)))
    have hDD := qab (H := H1) (a := D) (o := .lst (st.map fun (n : Nat) => V.int n))
    generalize upd H1 D (.lst (st.map fun (n : Nat) => V.int n)) = H2 at s2 hDD ⊢
    have ht2 := s2 _ _ ht
    have rt2 := rt.same s2
    refine ⟨_, rfl, D, _, rfl, .inl (SqL.of hDD), rfl, _, rfl, ?_⟩
    by_cases c : st = []
    · subst c
      have e0 : winO rl (propNames.getD r.j noName) ns = none := eW
      have er : rowG rl ns d rows n r.j = ⟨n, r.j, untY d.e n r.j, untV rows d.e n r.j⟩ := by unfold rowG; rw [e0]
      rw [er] at q
      refine iteT ⟨_, rfl, _, rfl, _, rfl, t, _, rfl, SqT.of ht2, fun z => absurd (show HT.sIx 4 4 (some 2) = 4 from z.2) (by decide), fun p0 hp0 => ?_⟩
      have s3 := qac hp0 (.tup [.int (n : Int), .str (propNames.getD r.j noName)])
      have e3 : upd H2 p0 (.tup [.int (n : Int), .str (propNames.getD r.j noName)]) p0 = some (.tup [.int (n : Int), .str (propNames.getD r.j noName)]) := qab
      rw [show cutV [V.int (n : Int), .str (propNames.getD r.j noName), .ref y, .int r.v] none (some 2) = [V.int (n : Int), .str (propNames.getD r.j noName)] from rfl]
      generalize upd H2 p0 (.tup [.int (n : Int), .str (propNames.getD r.j noName)]) = H3 at s3 e3 ⊢
      have s03 := s2.trans s3
      refine ⟨_, rfl, _, rfl, _, rfl, t, _, _, _, rfl, rfl, SqT.of (s3 _ _ ht2), rfl, _, rfl, t, _, _, _, rfl, rfl, SqT.of (s3 _ _ ht2), rfl, B, Pp, n, r.j, d, ds, rows, rfl, qaE hBk s03, ed, j13, ?_, eld, fun t1 y1 H4 s4 e1 ey1 => ?_⟩
      · obtain ⟨as, e, pa⟩ := hP
        exact ⟨as, s03 _ _ e, pa.mono fun a r h => h.same s03⟩
      refine ⟨p0, t1, _, _, rfl, rfl, SqT.of (s4 _ _ e3), SqT.of e1, by simp, by show 4 ≤ sizeLine; decide, fun z => by simp at z, fun _ t2 h2 => ?_⟩
      have s5 := qac h2 (.tup ([V.int (n : Int), .str (propNames.getD r.j noName)] ++ [V.ref y1, .int (untV rows d.e n r.j)]))
      have s05 := s03.trans (s4.trans s5)
      have rt2' : PrwAt (upd H4 t2 (.tup ([V.int (n : Int), .str (propNames.getD r.j noName)] ++ [V.ref y1, .int (untV rows d.e n r.j)]))) t2 ⟨n, r.j, untY d.e n r.j, untV rows d.e n r.j⟩ := ⟨y1, qab, s5 _ _ ey1⟩
      refine ⟨prwD r, prwD ⟨n, r.j, untY d.e n r.j, untV rows d.e n r.j⟩, qem (rt.same s05), qem rt2', qes (n := 6) j13, qes (n := 6) j13, fun e => q true _ s05 ⟨fun _ => qd4 e j13 j13, fun _ => rfl⟩, fun e => q false _ s05 ⟨fun z => (by cases z), fun z => absurd (congrArg prwD z) e⟩⟩
    · refine qer (by
        show decide (V.int (((st.map fun (n : Nat) => V.int n).length : Nat) : Int) = V.int 0) = false
        refine decide_eq_false fun z => c ?_
        have := V.int.inj z
        rw [List.length_map] at this
        exact List.eq_nil_of_length_eq_zero (by omega)) ?_
      refine ⟨_, rfl, _, rfl, _, rfl, R, D, t, rl, st, r, rfl, qaL s2 hRl, sok, hDD, sl, sets, rt2, fun b H' s' iff => q b H' (s2.trans s') (iff.trans ?_)⟩
      have ok' : ∀ k ∈ st, ∃ x, rl[k]? = some x := fun k hk => let ⟨x, e, _⟩ := sets k hk; ⟨x, e⟩
      constructor
      · rintro ⟨k, x, hk, ex, e1, e2, mx⟩
        have ew : winO rl (propNames.getD r.j noName) ns = some k := eW.trans ((qei ok').mpr ⟨hk, mx⟩)
        unfold rowG
        rw [ew]
        simp only [ex]
        obtain ⟨rn', rj, ry, rv⟩ := r
        simp only at rn e1 e2
        rw [rn, e1, e2]
      · intro e
        obtain ⟨k, ew⟩ : ∃ k, winO rl (propNames.getD r.j noName) ns = some k := by
          rw [eW]
          cases st with
          | nil => exact absurd rfl c
          | cons a t => exact ⟨_, List.getElem?_eq_getElem qdy⟩
        obtain ⟨hk, mx⟩ := (qei ok').mp (eW.symm.trans ew)
        obtain ⟨x, ex, _⟩ := sets k hk
        unfold rowG at e
        rw [ew] at e
        simp only [ex] at e
        refine ⟨k, x, hk, ex, ?_, ?_, mx⟩
        · rw [e]
        · exact congrArg Prw.v e
end
end K14
namespace K14
open PySem L2 Bk Gen Gd Bd Fc
open PySem.W (Dat kqdOk)
abbrev sHold : Stmt := top 26
def qbr (r : Prw) : Int × Nat := (r.n, r.j)
def spHold : Sp := fun vs H Q _ => ∃ (B R Pp : Addr) (ds : List Nd) (rl : List Rl) (rows : List Prw), vs = [.ref B, .ref R, .ref Pp] ∧ qaY (fun _ => True) H B ds ∧ ds.length ≤ 69 ∧ (∀ n, n < ds.length → ∃ l, l ≤ n ∧ Lev ds n l) ∧ (∀ n d, ds[n]? = some d → n ≠ 0 → 0 ≤ d.e ∧ d.e.toNat < n) ∧ qbp H R rl ∧ rl.length ≤ 100 ∧ (∀ x ∈ rl, qcA x) ∧
  qa1 PrwAt H Pp rows ∧ rows.length ≤ 950 ∧ (∀ r ∈ rows, r.j < 13) ∧ ∀ (b : Bool) (H' : Hp), Same H H' → (b = true ↔ rows.length = 13 * ds.length ∧ PapOk ds rl rows) → Q (.bl b) H'
theorem qeI {H : Hp} {as : List Addr} {l : List (Int × Nat)} (p : Paired (HdAt H) as l) : DAll H (as.map V.ref) (l.map hdD) := by
  induction p with
  | nil => exact .nil
  | cons h t ih => exact .cons (.tup h (.cons (.int _) (.cons (.str _) .nil))) ih
theorem qeM {l : List (Int × Nat)} (h : ∀ p ∈ l, p.2 < 13) : kqdOk 9 (.list (l.map hdD)) = true := by
  simp only [kqdOk, List.all_eq_true, List.mem_map]
  rintro x ⟨p, hp, rfl⟩
  simp only [hdD, kqdOk, List.all_cons, List.all_nil, Bool.and_true, Bool.true_and]
  exact pn_str _ (h p hp)
theorem hd_inj {l l' : List (Int × Nat)} (h : ∀ p ∈ l, p.2 < 13) (h' : ∀ p ∈ l', p.2 < 13) (e : l.map hdD = l'.map hdD) : l = l' :=
  qcL (fun x hx y hy z => by
    obtain ⟨a, i⟩ := x
    obtain ⟨b, j⟩ := y
    simp only [hdD, Dat.tuple.injEq, List.cons.injEq, Dat.str.injEq, Dat.int.injEq, and_true] at z
    rw [z.1, pn_inj i (h _ hx) j (h' _ hy) z.2]) e
theorem qdS {k : Nat} : ∀ p ∈ qbP k, p.2 < 13 := fun p hp => by
  obtain ⟨m, _, rfl⟩ := List.mem_map.mp hp
  exact Nat.mod_lt _ (by decide)
theorem pap_heads {ds : List Nd} {rl : List Rl} {rows : List Prw} (h : PapOk ds rl rows) : rows.map qbr = qbP rows.length := by
  refine List.ext_getElem? fun m => ?_
  unfold qbP
  rw [List.getElem?_map, List.getElem?_map]
  by_cases c : m < rows.length
  · have e : rows[m]? = some rows[m] := List.getElem?_eq_getElem c
    obtain ⟨l, d, _, _, er⟩ := h m _ e
    rw [e, List.getElem?_range c]
    show some (qbr rows[m]) = some (((m / 13 : Nat) : Int), m % 13)
    rw [er]
    have := qeS ds rl l d (rows.take m) (m / 13) (m % 13)
    unfold qbr
    rw [this.1, this.2]
  · rw [List.getElem?_eq_none (by omega), List.getElem?_eq_none (by rw [List.length_range]; omega)]
    rfl
def qfa (ds : List Nd) (rl : List Rl) (rows : List Prw) (m : Nat) : Prop := ∀ r, rows[m]? = some r → ∃ l d, ds[m / 13]? = some d ∧ Lev ds (m / 13) l ∧ r = rowN ds rl l d (rows.take m) (m / 13) (m % 13)
theorem Lev.uniq {ds : List Nd} {i l l' : Nat} (h : Lev ds i l) (h' : Lev ds i l') : l = l' := by
  induction h generalizing l' with
  | top e1 e2 =>
    cases h' with
    | top => rfl
    | up f1 f2 f3 f4 => rw [e1] at f1; cases f1; omega
  | up e1 e2 e3 e4 ih =>
    cases h' with
    | top f1 f2 => rw [e1] at f1; cases f1; omega
    | @up _ j' _ _ f1 f2 f3 f4 =>
      rw [e1] at f1
      cases f1
      rw [e2] at f2
      have : _ = j' := Int.ofNat.inj f2
      subst this
      rw [ih f4]
section
variable {P : Program} {w : World} {K : PySem.W.Frag} {mg : Str → Option Value} {base : Heap}
theorem scHold : FnScope ["book", "rules", "paper", "node", "fitting", "rows"] ["book", "rules", "paper"] (qag sHold) := ⟨rfl, rfl, rfl, by decide +kernel, rfl, by decide +kernel, by decide +kernel⟩
theorem ok_hold {f a_PROPERTIES : Addr} {fd : FuncData} (F : Fun K "winners_hold" "winners_hold" sHold f fd) (T : BnD mg) (tY : ∃ t, mg "WHY" = some (.int 2 t)) (g_PROPERTIES : mg "PROPERTIES" = some (.ref a_PROPERTIES)) (PT : PropT K a_PROPERTIES)
    (F_headings : Fx P w K mg base CX0 1 "headings" ["book"] spHeadings) (F_fits : Fx P w K mg base CX0 2 "fits" ["book", "rule", "node"] spFits) (F_row_holds : Fx P w K mg base CX0 4 "row_holds" ["book", "rules", "fitting", "paper", "row"] spRowH) : FnOk P w K mg base CX0 5 f fd ["book", "rules", "paper"] spHold := by
  refine F.ok scHold (fun vs H Q E h => ?_) (fun cdv A outer s H vs Q E hr h => ?_)
  · obtain ⟨B, R, Pp, ds, rl, rows, rfl, _⟩ := h
    rfl
  · obtain ⟨B, R, Pp, ds, rl, rows, rfl, hBk, l69, levs, elds, hRl, r100, sok, hP, l950, j13, q⟩ := h
    obtain ⟨_, g_WHY⟩ := tY
    have hr_headings : Room 1 _ := hr.mono (by decide)
    have hr_fits : Room 2 _ := hr.mono (by decide)
    have hr_row_holds := hr
    have hu := hr.units
    refine ⟨_, (qad (qaK (qal (qea hu) (qa0 (own := ["row"]) (by rfl) (CompScope.plain (by rfl) (by decide +kernel) (by decide +kernel) (by decide +kernel)) (qa2 (pv 2)) (fun cl C s2 H2 fp => (qan (i := 0) (by show (["row"] : List Str).Nodup; decide +kernel) (by rfl) (by trivial) (by trivial))) (fun cl C s2 H2 fp => qa6) (fun cl C s2 H2 fp => (qaR (r := rSlT K) (sl_tupK K (by rfl)) (pv 0) po_none (qaW (qax (v := .int 2) (by rfl) g_WHY ⟨_, rfl⟩))))) (qar F_headings hr_headings (by rfl) qaq (qaa (pv 0) pa_nil)) (qas _)) (qaf (qau qbT)) pss_nil)
      (qad (qa4 PassesOwn.never (by rfl) (qaD (by rfl) T.range (qaa (qaB call_len_seq (by rfl) T.len b_len (qaa (pv 0) pa_nil)) pa_nil)) (qan (i := 3) scHold.nd (by rfl) (by trivial))
      (qad (qap (i := 4) scHold.nd (by rfl) (by trivial) (qa0 (own := ["number", "rule"]) (by rfl) (ix := [0, 3]) (frees := ["book", "node"]) (CompScope.frees (by rfl) (by decide +kernel) (by decide +kernel) (by decide +kernel) (by rfl) (by decide +kernel) (by first | exact qb1 (by rfl) | exact qcg (by rfl) (by rfl))) (qdu (by rfl) T.enumerate (qaa (pv 1) pa_nil)) (fun cl C s2 H2 fp => (qcr K (n := 2) (by rfl) (by rfl) (qay (qan (i := 0) (by show (["number", "rule", "book", "node"] : List Str).Nodup; decide +kernel) (by rfl) (by trivial) (by trivial)) (qay (qan (i := 1) (by show (["number", "rule", "book", "node"] : List Str).Nodup; decide +kernel) (by rfl) (by trivial) (by trivial)) pgs_nil)))) (fun cl C s2 H2 fp => (qbw (qcJ (qar F_fits hr_fits (by rfl) qaq (qaa (pv 2) (qaa (pv 1) (qaa (pv 3) pa_nil))))))) (fun cl C s2 H2 fp => (pv 0))))
      (qad (qap (i := 5) scHold.nd (by rfl) (by trivial) (qaR sl_list (pv 2) (qaW (qaw op_mul (pv 3) (qaB call_len_seq (by rfl) T.len b_len (qaa (qax (v := .ref a_PROPERTIES) (by rfl) g_PROPERTIES rfl) pa_nil)))) (qaW (qaw op_mul (qaw op_add (pv 3) qae) (qaB call_len_seq (by rfl) T.len b_len (qaa (qax (v := .ref a_PROPERTIES) (by rfl) g_PROPERTIES rfl) pa_nil))))))
      (qaf (qaK (qeP (qcJ (qaB (call_all (by rfl)) (by rfl) T.all b_all (qaa (qa0 (own := ["row"]) (by rfl) (ix := [0, 1, 4, 2]) (frees := ["book", "rules", "fitting", "paper"]) (CompScope.frees (by rfl) (by decide +kernel) (by decide +kernel) (by decide +kernel) (by rfl) (by decide +kernel) (by first | exact qb1 (by rfl) | exact qcg (by rfl) (by rfl) | exact Br.free4 (by rfl) (by rfl) (by rfl) (by rfl))) (qa2 (pv 5)) (fun cl C s2 H2 fp => (qan (i := 0) (by show (["row", "book", "rules", "fitting", "paper"] : List Str).Nodup; decide +kernel) (by rfl) (by trivial) (by trivial))) (fun cl C s2 H2 fp => qa6) (fun cl C s2 H2 fp => (qar F_row_holds hr_row_holds (by rfl) qaq (qaa (pv 1) (qaa (pv 2) (qaa (pv 3) (qaa (pv 4) (qaa (pv 0) pa_nil)))))))) pa_nil)))) (qaf (qau qbT)) pss_nil)))))
      (qaf (qau qbT)))), ?_⟩
    try dsimp only [cxOf, Cx.nox]
    obtain ⟨as, hp, pa⟩ := id hP
    have la : as.length = rows.length := Paired.length pa
    refine seq_cut fun Ca0 hCa0 => ?_
    refine ⟨_, rfl, Pp, rfl, ⟨_, SqL.of hp⟩, qaO (xs := as.map V.ref) (fun i ys σ' H' => Same H H' ∧ (∃ bs : List Addr, ys = bs.map V.ref ∧ Paired (HdAt H') bs ((rows.take i).map qbr)) ∧ ∃ z, σ' = [z]) (by rw [List.length_map]; exact qak (by omega)) ⟨Same.refl _, ⟨[], rfl, .nil⟩, none, rfl⟩ ?_ ?_ ?_⟩
    · rintro i ys σ' H' hi ⟨s1, ⟨bs, rfl, pb⟩, _⟩
      refine ⟨SqL.of (s1 _ _ hp), ?_⟩
      rw [List.length_map, Paired.length pb, List.length_map, List.length_take]
      exact Nat.min_le_left _ _
    · rintro i v ys σ' H1 hv ⟨s1, ⟨bs, rfl, pb⟩, z, rfl⟩
      obtain ⟨a, ea, rfl⟩ := qbH hv
      obtain ⟨r, er, ra⟩ := qa8 pa ea
      obtain ⟨y, ha, _⟩ := ra.same s1
      refine ⟨_, rfl, _, rfl, a, _, rfl, SqT.of ha, fun z => absurd (show HT.sIx 4 4 (some 2) = 4 from z.2) (by decide), fun p0 hp0 => ?_⟩
      have s2 := qac hp0 (.tup [.int r.n, .str (propNames.getD r.j noName)])
      refine ⟨s1.trans s2, ⟨bs ++ [p0], by rw [List.map_append]; rfl, ?_⟩, _, rfl⟩
      rw [List.take_succ, er, List.map_append]
      exact (pb.mono fun a p h => s2 _ _ h).snoc qab
    rintro ys σ' H1 ⟨s1, ⟨bs, rfl, pb⟩, _⟩ D hD
    rw [List.length_map, la, List.take_length] at pb
    have s2 := qac hD (.lst (bs.map V.ref))
    have hDD := qab (H := H1) (a := D) (o := .lst (bs.map V.ref))
    have pb2 : Paired (HdAt (upd H1 D (.lst (bs.map V.ref)))) bs (rows.map qbr) := pb.mono fun a p h => s2 _ _ h
    generalize upd H1 D (.lst (bs.map V.ref)) = H2 at s2 hDD pb2 ⊢
    have s02 := s1.trans s2
    refine ⟨_, rfl, B, ds, _, rfl, qaE hBk s02, l69, fun L H3 s3 lst3 => ?_⟩
    obtain ⟨cs, hL3, pc⟩ := lst3
    have s03 := s02.trans s3
    have hok : ∀ p ∈ rows.map qbr, p.2 < 13 := fun p hp => by
      obtain ⟨r, hr', rfl⟩ := List.mem_map.mp hp
      exact j13 r hr'
    refine ⟨_, _, .lst (s3 _ _ hDD) (qeI (pb2.mono fun a p h => s3 _ _ h)), .lst hL3 (qeI pc), qeM hok, qeM qdS, fun e => ⟨_, rfl, iteF ?_⟩, fun ne => ⟨_, rfl, iteT ?_⟩⟩
    rotate_left
    · refine q false H3 s03 ⟨fun z => (by cases z), fun z => ?_⟩
      refine absurd ?_ ne
      rw [pap_heads z.2, z.1]
    have eh : rows.map qbr = qbP (13 * ds.length) := hd_inj hok qdS (by injection e)
    have lrows : rows.length = 13 * ds.length := by
      have := congrArg List.length eh
      rw [List.length_map, qdp] at this
      exact this
    have hat : ∀ m r, rows[m]? = some r → r.n = ((m / 13 : Nat) : Int) ∧ r.j = m % 13 := fun m r em => by
      have h1 : (rows.map qbr)[m]? = some (qbr r) := by rw [List.getElem?_map, em]; rfl
      have ml : m < 13 * ds.length := by rw [← lrows]; exact (List.getElem?_eq_some_iff.mp em).1
      rw [eh] at h1
      unfold qbP at h1
      rw [List.getElem?_map, List.getElem?_range ml] at h1
      have h2 : (((m / 13 : Nat) : Int), m % 13) = qbr r := Option.some.inj h1
      unfold qbr at h2
      exact ⟨(congrArg Prod.fst h2).symm, (congrArg Prod.snd h2).symm⟩
    clear e pb pb2 hDD s2 s1 hL3 pc
    obtain ⟨ab, hB, nd⟩ := id hBk
    have lb : ((ab.map V.ref).length : Nat) = ds.length := by rw [List.length_map, nd.length]
    subst hCa0
    try dsimp only [qaS, tNext]
    refine seq_cut fun Ca1 hCa1 => ?_
    refine ⟨_, rfl, B, _, rfl, .inl (SqL.of (s03 _ _ hB)), _, rfl, by omega, by omega, qaI (fun i σ H' => (∃ v3 v4 v5, σ = [some (.ref B), some (.ref R), some (.ref Pp), v3, v4, v5]) ∧ Same H H' ∧ ∀ m, m < 13 * i → qfa ds rl rows m) ⟨⟨none, none, none, rfl⟩, s03, fun m hm => by omega⟩ ?_ ?_⟩
    · rintro n σ H4 hn ⟨⟨v3, v4, v5, rfl⟩, s4, done⟩
      have hn' : n < ds.length := by rw [← lb]; simpa using hn
      rw [show (0 : Int) + (n : Int) = (n : Int) from Int.zero_add _]
      have ed : ds[n]? = some ds[n] := List.getElem?_eq_getElem hn'
      obtain ⟨l, ln, lv⟩ := levs n hn'
      generalize ds[n] = d at ed
      have hRl4 := qaL s4 hRl
      have hBk4 := qaE hBk s4
      obtain ⟨rs, hR4, pr4⟩ := id hRl4
      have lr : (rs.map V.ref).length = rl.length := by rw [List.length_map, Paired.length pr4]
      refine seq_cut fun Cb0 hCb0 => ?_
      refine ⟨_, rfl, R, rfl, ⟨_, SqL.of hR4⟩, qc9 (xs := rs.map V.ref) (fun i ys σ' H' => Same H4 H' ∧ ys = (qa5 ds l d rl i).map (fun (k : Nat) => V.int k) ∧ ∃ a b, σ' = [a, b, some (.ref B), some (.int n)]) (by rw [lr]; exact qak (by omega)) ⟨Same.refl _, rfl, none, none, rfl⟩ ?_ ?_ ?_⟩
      · rintro i ys σ' H' hi ⟨s3, rfl, _⟩
        exact ⟨SqL.of (s3 _ _ hR4), by rw [List.length_map]; exact qb4 _ _ _ _ _⟩
      · rintro i x ys σ' H' t hx ht ⟨s3, rfl, a, b, rfl⟩
        obtain ⟨r, er, rfl⟩ := qbH hx
        obtain ⟨y, ey, ry⟩ := qa8 pr4 er
        have s5 := s3.trans (qac ht (.tup [.int (i : Nat), .ref r]))
        refine ⟨t, _, rfl, SqT.of qab, rfl, _, _, rfl, _, _, rfl, rfl, ?_⟩
        refine ⟨_, rfl, _, rfl, _, rfl, B, r, n, l, d, y, ds, _, _, rfl, qaE hBk4 s5, ry.keep s5.keep fun _ n _ => n, ed, lv, by omega, fun H5 s6 => ⟨_, rfl, ?_⟩⟩
        have s7 := s5.trans s6
        rw [qbV ey]
        by_cases hf : qaV ds l d y = true
        · rw [hf, if_pos rfl]
          refine iteT ⟨_, rfl, s7, ?_, _, _, rfl⟩
          rw [List.map_append]
          rfl
        · rw [if_neg hf, show qaV ds l d y = false by simpa using hf]
          exact iteF ⟨s7, rfl, _, _, rfl⟩
      rintro ys σ' H5 ⟨s5, rfl, _⟩ Ft hFt
      rw [lr]
      have s6 := s5.trans (qac hFt (.lst ((qa5 ds l d rl rl.length).map (fun (k : Nat) => V.int k))))
      have hF6 := qab (H := H5) (a := Ft) (o := .lst ((qa5 ds l d rl rl.length).map (fun (k : Nat) => V.int k)))
      generalize upd H5 Ft (.lst ((qa5 ds l d rl rl.length).map (fun (k : Nat) => V.int k))) = H6 at s6 hF6 ⊢
      have s06 := s4.trans s6
      subst hCb0
      try dsimp only [qaS, tNext]
      refine seq_cut fun Cb1 hCb1 => ?_
      refine ⟨_, rfl, _, rfl, a_PROPERTIES, _, rfl, .inr (PT.tup _), _, _, rfl, rfl, .inr ⟨by decide, by decide⟩, _, rfl, _, rfl, _, _, rfl, rfl, a_PROPERTIES, _, rfl, .inr (PT.tup _), _, _, rfl, rfl, .inr ⟨by decide, by decide⟩, _, rfl, Pp, _, rfl, SqL.of (s06 _ _ hp), fun D0 h0 => ?_⟩
      have ec : cutV (as.map V.ref) (some ((n : Int) * (((propNames.map V.str).length : Nat) : Int))) (some (((n : Int) + 1) * (((propNames.map V.str).length : Nat) : Int))) = ((as.drop (13 * n)).take 13).map V.ref := by
        have := Br.cutV_nat (as := as) (i := 13 * n) (j := 13 * n + 13) (by omega) (by omega)
        rw [show 13 * n + 13 - 13 * n = 13 by omega] at this
        rw [← this, show (((propNames.map V.str).length : Nat) : Int) = 13 from rfl, show (n : Int) * 13 = ((13 * n : Nat) : Int) by omega, show ((n : Int) + 1) * 13 = ((13 * n + 13 : Nat) : Int) by omega]
      rw [ec]
      have s7 := qac h0 (.lst (((as.drop (13 * n)).take 13).map V.ref))
      have hD0 := qab (H := H6) (a := D0) (o := .lst (((as.drop (13 * n)).take 13).map V.ref))
      generalize upd H6 D0 (.lst (((as.drop (13 * n)).take 13).map V.ref)) = H7 at s7 hD0 ⊢
      have s07 := s06.trans s7
      have hF7 := s7 _ _ hF6
      have lc : (((as.drop (13 * n)).take 13).map V.ref).length = 13 := by rw [List.length_map, List.length_take, List.length_drop]; omega
      subst hCb1
      try dsimp only [qaS, tNext]
      refine ⟨_, rfl, D0, rfl, ⟨_, SqL.of hD0⟩, qaO (xs := ((as.drop (13 * n)).take 13).map V.ref) (fun i ys σ' H' => Same H7 H' ∧ (∃ bs : List Bool, ys = bs.map V.bl ∧ bs.length = i ∧ ∀ j b, bs[j]? = some b → (b = true ↔ qfa ds rl rows (13 * n + j))) ∧ ∃ z, σ' = [z, some (.ref B), some (.ref R), some (.ref Ft), some (.ref Pp)]) (by rw [lc]; decide) ⟨Same.refl _, ⟨[], rfl, rfl, fun j b z => by simp at z⟩, none, rfl⟩ ?_ ?_ ?_⟩
      · rintro i ys σ' H' hi ⟨s8, ⟨bs, rfl, e, _⟩, _⟩
        refine ⟨SqL.of (s8 _ _ hD0), ?_⟩
        rw [List.length_map, e]
        exact Nat.le_refl _
      · rintro i v ys σ' H8 hv ⟨s8, ⟨bs, rfl, ebs, okb⟩, z, rfl⟩
        obtain ⟨a, ea, rfl⟩ := qbH hv
        have i13 : i < 13 := by have := (List.getElem?_eq_some_iff.mp hv).1; omega
        rw [List.getElem?_take_of_lt i13, List.getElem?_drop] at ea
        obtain ⟨r, er, ra⟩ := qa8 pa ea
        have s08 := s07.trans s8
        obtain ⟨rn, rj⟩ := hat _ _ er
        rw [show (13 * n + i) / 13 = n by omega] at rn
        rw [show (13 * n + i) % 13 = i by omega] at rj
        have hlt : r.j < 2 → n ≠ 0 → 0 ≤ d.e ∧ d.e.toNat * 13 + r.j < 13 * n + i := fun _ h => by
          obtain ⟨h1, h2⟩ := elds n d ed h
          exact ⟨h1, by omega⟩
        refine ⟨_, rfl, _, rfl, _, rfl, _, rfl, _, rfl, B, R, Ft, Pp, a, ds, rl, _, rows, r, n, d, rfl, qaE hBk s08, ed, qaL s08 hRl, sok, s8 _ _ hF7, Nat.le_trans (qb4 _ _ _ _ _) r100, fun k hk => qc3 hk, ?_, ra.same s08, rn, by omega, fun h1 h2 => ?_, fun b H9 s9 iff => ⟨s8.trans s9, ⟨bs ++ [b], by rw [List.map_append]; rfl, by rw [List.length_append, ebs]; rfl, fun j b' hb => ?_⟩, _, rfl⟩⟩
        · exact ⟨as, s08 _ _ hp, pa.mono fun a r h => h.same s08⟩
        · obtain ⟨h3, h4⟩ := hlt h1 h2
          exact ⟨h3, by omega, by omega⟩
        · rcases Nat.lt_trichotomy j bs.length with c | c | c
          · rw [List.getElem?_append_left c] at hb
            exact okb j b' hb
          · rw [c, List.getElem?_append_right (Nat.le_refl _), Nat.sub_self] at hb
            obtain rfl : b = b' := Option.some.inj hb
            rw [c, ebs]
            refine iff.trans ?_
            have eg := rowG_take (ds := ds) (rl := rl) (l := l) (d := d) (rows := rows) (n := n) (j := r.j) (m := 13 * n + i) fun h1 h2 => (hlt h1 h2).2
            rw [rj] at eg
            constructor
            · intro e r' er'
              rw [er] at er'
              cases er'
              rw [show (13 * n + i) / 13 = n by omega, show (13 * n + i) % 13 = i by omega]
              refine ⟨l, d, ed, lv, ?_⟩
              rw [eg]
              rw [rj] at e
              exact e
            · intro h
              obtain ⟨l', d', e1, e2, e3⟩ := h r er
              rw [show (13 * n + i) / 13 = n by omega] at e1 e2
              rw [show (13 * n + i) / 13 = n by omega, show (13 * n + i) % 13 = i by omega] at e3
              rw [ed] at e1
              cases e1
              obtain rfl := Lev.uniq lv e2
              rw [rj, ← eg]
              exact e3
          · rw [List.getElem?_eq_none (by rw [List.length_append]; simp; omega)] at hb
            cases hb
      rintro ys σ' H8 ⟨s8, ⟨bs, rfl, ebs, okb⟩, _⟩ D1 hD1
      rw [lc] at ebs
      have s9 := s8.trans (qac hD1 (.lst (bs.map V.bl)))
      refine ⟨D1, bs, rfl, SqL.of qab, _, rfl, ?_⟩
      have s09 := s07.trans s9
      cases hall : bs.all id with
      | true =>
        refine iteF ⟨⟨_, _, _, rfl⟩, s09, fun m hm => ?_⟩
        by_cases c : m < 13 * n
        · exact done m c
        · have hj : m - 13 * n < bs.length := by omega
          have eb : bs[m - 13 * n]? = some bs[m - 13 * n] := List.getElem?_eq_getElem hj
          have := (okb _ _ eb).mp (by
            rw [List.all_eq_true] at hall
            exact hall _ (List.getElem_mem hj))
          rw [show 13 * n + (m - 13 * n) = m by omega] at this
          exact this
      | false =>
        refine iteT ?_
        refine q false _ s09 ⟨fun z => (by cases z), fun z => ?_⟩
        have : bs.all id = true := by
          rw [List.all_eq_true]
          intro b hb
          obtain ⟨j, hj, e⟩ := List.mem_iff_getElem.mp hb
          exact (okb j b (by rw [List.getElem?_eq_getElem hj, e])).mpr fun r er => z.2 _ r er
        rw [this] at hall
        cases hall
    · rintro σ H4 ⟨⟨v3, v4, v5, rfl⟩, s4, done⟩
      subst hCa1
      try dsimp only [qaS, tNext]
      refine q true H4 s4 ⟨fun _ => ⟨lrows, fun m r er => ?_⟩, fun _ => rfl⟩
      have ml : m < 13 * ds.length := by rw [← lrows]; exact (List.getElem?_eq_some_iff.mp er).1
      rw [← lb] at ml
      exact done m ml r er
end
end K14
namespace Br
open PySem L2 Bk Gen Gd Bd
end Br
namespace L2
open PySem PySem.Spec PyProof.Rows
def tNotT (ta : TE) : TE := fun σ H Q => ta σ H fun x H1 => ∃ b, x = .bl b ∧ Q (.bl (!b)) H1
section
variable {X : Cx} {a : Expr} {ta : TE}
theorem pc_notT {j pos'} (ha : PE X a ta) : PC X .IsNot a (.Constant (.bool true) j pos') (tNotT ta) := by
  intro pins s σ H Q I h
  refine thn (ha pins s σ H _ I h) fun v s1 ⟨x, H1, I1, r1, b, e, q1⟩ => ?_
  subst e
  cases r1
  refine Constant_bool ?_
  refine wpAny_of_eq (a := Value.bool (!b)) ?_ ⟨.bl _, H1, I1, rfl, q1⟩
  cases b <;> rfl
end
end L2
namespace Br
open PySem L2 Bk Gen Gd Bd
theorem pairedSet {α β : Type} {F : α → β → Prop} {a : α} {b : β} (hab : F a b) {l1 : List α} {l2 : List β} (p : Paired F l1 l2) (i : Nat) : Paired F (l1.set i a) (l2.set i b) := by
  induction p generalizing i with
  | nil => exact .nil
  | cons h t ih =>
    cases i with
    | zero => exact .cons hab t
    | succ i => exact .cons h (ih i)
theorem pairedDrop {α β : Type} {F : α → β → Prop} {l1 : List α} {l2 : List β} (p : Paired F l1 l2) (i : Nat) : Paired F (l1.drop i) (l2.drop i) := by
  induction p generalizing i with
  | nil => rw [List.drop_nil, List.drop_nil]; exact .nil
  | cons h t ih =>
    cases i with
    | zero => exact .cons h t
    | succ i => exact ih i
theorem pairedTake {α β : Type} {F : α → β → Prop} {l1 : List α} {l2 : List β} (p : Paired F l1 l2) (i : Nat) : Paired F (l1.take i) (l2.take i) := by
  induction p generalizing i with
  | nil => rw [List.take_nil, List.take_nil]; exact .nil
  | cons h t ih =>
    cases i with
    | zero => exact .nil
    | succ i => exact .cons h (ih i)
theorem cut_pre {as : List Addr} {i : Nat} (h : i ≤ as.length) : cutV (as.map V.ref) none (some (i : Int)) = (as.take i).map V.ref := by
  unfold cutV
  rw [HT.sIx_none, HT.sIx_nat, List.length_map, List.drop_zero, Nat.min_eq_left h, Nat.sub_zero, List.map_take]
theorem cut_suf {as : List Addr} {i : Nat} (h : i ≤ as.length) : cutV (as.map V.ref) (some (i : Int)) none = (as.drop i).map V.ref := by
  unfold cutV
  rw [HT.sIx_none, HT.sIx_nat, List.length_map, Nat.min_eq_left h, ← List.map_drop, List.take_of_length_le (by rw [List.length_map, List.length_drop]; omega)]
theorem ref_ne_st {H : Hp} {L st : Addr} {as : List Addr} (h : H L = some (.lst (as.map V.ref))) (S : StOk H st) : L ≠ st := fun z => by
  obtain ⟨x, y, e, _⟩ := S
  rw [z, e] at h
  have := HO.lst.inj (Option.some.inj h)
  cases as with
  | nil => cases this
  | cons a as => cases this
end Br
namespace K14
open PySem L2 Bk Gen Gd Bd Fc
abbrev sWhyL : Stmt := top 50
abbrev sRowL : Stmt := top 51
theorem qbJ {l : List Int} {i : Int} (h0 : 0 ≤ i) (h1 : i < (l.length : Int)) : ∃ v, atI (l.map V.int) i = some (.int v) := by
  obtain ⟨k, rfl⟩ : ∃ k : Nat, i = k := ⟨i.toNat, by omega⟩
  have hk : k < l.length := by omega
  exact ⟨l[k], qcX (by rw [List.getElem?_map, List.getElem?_eq_getElem hk]; rfl)⟩
theorem qbc {st : Addr} {H H' : Hp} (S : StOk H st) (k : Keep1 st H H') : Tups H H' := fun b xs e => k b _ (fun z => by obtain ⟨x, y, e', _⟩ := S; rw [z, e'] at e; cases e) e
def spWhyL : Sp := fun vs H Q _ => ∃ (st y : Addr) (u : Why) (M n : Int), vs = [.ref st, .ref y, .int M, .int n] ∧ StOk H st ∧ H y = some (.tup u.vs) ∧ 0 ≤ M ∧ M ≤ 100 ∧ ∀ (y' : Addr) (u' : Why) (H' : Hp), StOk H' st → Keep1 st H H' → H' y' = some (.tup u'.vs) → Q (.ref y') H'
def spRowL : Sp := fun vs H Q _ => ∃ (st t : Addr) (r : Prw) (M : Int), vs = [.ref st, .ref t, .int M] ∧ StOk H st ∧ PrwAt H t r ∧ r.j < 13 ∧ 0 ≤ M ∧ M ≤ 100 ∧ ∀ (t' : Addr) (r' : Prw) (H' : Hp), StOk H' st → Keep1 st H H' → PrwAt H' t' r' → r'.j < 13 → Q (.ref t') H'
section
variable {P : Program} {w : World} {K : PySem.W.Frag} {mg : Str → Option Value} {base : Heap}
theorem scWhyL : FnScope ["_law_stream_here", "_law_why_here", "_law_many", "_law_node", "_law_way"] ["_law_stream_here", "_law_why_here", "_law_many", "_law_node"] (qag sWhyL) := ⟨rfl, rfl, rfl, by decide +kernel, rfl, by decide +kernel, by decide +kernel⟩
theorem ok_whyL {f : Addr} {fd : FuncData} (F : Fun K "_law_why" "_law_why" sWhyL f fd) (T : BnD mg) (F_take : Fx P w K mg base CX0 1 "_law_take" ["_law_stream_here", "_law_most"] spTake) : FnOk P w K mg base CX0 2 f fd ["_law_stream_here", "_law_why_here", "_law_many", "_law_node"] spWhyL := by
  refine F.ok scWhyL (fun vs H Q E h => ?_) (fun cdv A outer s H vs Q E hr h => ?_)
  · obtain ⟨st, y, u, M, n, rfl, _⟩ := h
    rfl
  · obtain ⟨st, y, u, M, n, rfl, S, hy, M0, M1, q⟩ := h
    have hr_take := hr
    refine ⟨_, (qad (qap (i := 4) scWhyL.nd (by rfl) (by trivial) (qar F_take hr_take (by rfl) qaq (qaa (pv 0) (qaa qae pa_nil))))
      (qad (qaK (qal op_eq (pv 4) qae (qas _)) (qaf (qau (qaC (qaa qam pa_nil)))) pss_nil)
      (qad (qaK (qal op_eq (pv 4) qae (qas _)) (qaf (qau (qaC (qaa qam (qaa (qaj ix_list (qaA (qaa (qaw op_sub (pv 3) qae) (qaa qae (qaa (pv 3) (qaa (qcu un_neg qae) (qaa qae pa_nil)))))) (qar F_take hr_take (by rfl) qaq (qaa (pv 0) (qaa qae pa_nil))) (fun _ _ => rfl)) pa_nil))))) pss_nil)
      (qad (qaK (PW.pt (qbn (qal op_eq (pv 4) qae (qas _)) (qa7 (qal op_eq (qaB call_len_seq (by rfl) T.len b_len (qaa (pv 1) pa_nil)) qae (qas _))))) (qaf (qau (qaC (qaa (qaj ix_tup (pv 1) qae (fun _ _ => rfl)) (qaa (qaw op_add (qaj ix_tup (pv 1) qae (fun _ _ => rfl)) (qaj ix_list (qaA (qaa qae (qaa (qcu un_neg qae) pa_nil))) (qar F_take hr_take (by rfl) qaq (qaa (pv 0) (qaa qae pa_nil))) (fun _ _ => rfl))) pa_nil))))) pss_nil)
      (qad (qaK (qal op_eq (pv 4) qae (qas _)) (qaf (qau (qaC (qaa qam (qaa (qaj ix_list (qaA (qaa (qcu un_neg qae) (qaa (pv 2) (qaa (qaw op_add (pv 2) (qar F_take hr_take (by rfl) qaq (qaa (pv 0) (qaa (qaw op_pow qae qae) pa_nil)))) (qaa (qcu un_neg qae) pa_nil))))) (qar F_take hr_take (by rfl) qaq (qaa (pv 0) (qaa qae pa_nil))) (fun _ _ => rfl)) pa_nil))))) pss_nil)
      (qaf (qau (qaC (qaa qam (qaa (qar F_take hr_take (by rfl) qaq (qaa (pv 0) (qaa (qaw op_add (pv 2) qae) pa_nil))) pa_nil)))))))))), ?_⟩
    try dsimp only [cxOf, Cx.nox]
    refine ⟨_, rfl, st, 6, rfl, S, by decide, by decide, fun way H1 w0 w1 S1 K1 => ?_⟩
    have hy1 := qbc S K1 _ _ hy
    have fin : ∀ (u' : Why) (H2 : Hp), StOk H2 st → Keep1 st H H2 → ∀ t, H2 t = none → Q (.ref t) (upd H2 t (.tup u'.vs)) := fun u' H2 S2 K2 t ht => q t u' _ (S2.same (qac ht _)) (K2.trans (qac ht _).keep) qab
    refine ⟨_, rfl, rfl, _, rfl, ?_⟩
    refine ite2 (fun _ => ?_) (fun _ => ?_)
    · exact ⟨by show 1 ≤ sizeLine; decide, fun t ht => fin .own H1 S1 K1 t ht⟩
    refine ⟨_, rfl, rfl, _, rfl, ?_⟩
    refine ite2 (fun _ => ?_) (fun _ => ?_)
    · refine ⟨_, rfl, _, _, rfl, rfl, _, rfl, _, rfl, by show 5 ≤ sizeLine; decide, fun la hla => ?_⟩
      have nl : la ≠ st := qah S1.some hla
      refine ⟨_, rfl, st, 5, rfl, S1.same (qac hla _), by decide, by decide, fun i H2 i0 i1 S2 K2 => ?_⟩
      obtain ⟨v, ev⟩ := qbJ (l := [n - 1, 0, n, -1, 60]) i0 i1
      refine ⟨la, _, _, _, rfl, rfl, SqL.of (K2 _ _ nl qab), ev, by show 2 ≤ sizeLine; decide, fun t ht => fin (.eld v) H2 S2 ((K1.trans (qac hla _).keep).trans K2) t ht⟩
    dsimp only [tNext]
    refine qbj (fun b H' => H' = H1 ∧ (b = true → u.vs.length = 2)) (fun Q' k => ?_) ?_
    · refine ⟨_, rfl, rfl, _, rfl, ?_⟩
      refine ite2 (fun _ => ?_) (fun _ => ?_)
      · refine ⟨_, rfl, y, _, rfl, .inr (SqT.of hy1), rfl, _, rfl, k _ _ ⟨rfl, fun z => ?_⟩⟩
        have := V.int.inj (of_decide_eq_true z)
        omega
      · exact k _ _ ⟨rfl, fun z => (by cases z)⟩
    rintro b H' ⟨rfl, hb⟩
    refine ite2 (fun c => ?_) (fun _ => ?_)
    · have two := hb c
      obtain ⟨x, e, mk, hm, hvs⟩ : ∃ (x : Str) (e : Int) (mk : Int → Why), (∀ v, (mk v).vs = [.str x, .int v]) ∧ u.vs = [.str x, .int e] := by
        cases u with
        | own => exact absurd two (by decide)
        | eld e => exact ⟨_, e, .eld, fun _ => rfl, rfl⟩
        | rule e => exact ⟨_, e, .rule, fun _ => rfl, rfl⟩
      have hy2 := hy1
      rw [hvs] at hy2
      refine ⟨_, rfl, y, _, _, _, rfl, rfl, SqT.of hy2, rfl, _, rfl, y, _, _, _, rfl, rfl, SqT.of hy2, rfl, _, rfl, by show 2 ≤ sizeLine; decide, fun la hla => ?_⟩
      have nl : la ≠ st := qah S1.some hla
      refine ⟨_, rfl, st, 2, rfl, S1.same (qac hla _), by decide, by decide, fun i H2 i0 i1 S2 K2 => ?_⟩
      obtain ⟨v, ev⟩ := qbJ (l := [1, -1]) i0 i1
      refine ⟨la, _, _, _, rfl, rfl, SqL.of (K2 _ _ nl qab), ev, _, _, rfl, rfl, by show 2 ≤ sizeLine; decide, fun t ht => ?_⟩
      have := fin (mk (e + v)) H2 S2 ((K1.trans (qac hla _).keep).trans K2) t ht
      rw [hm] at this
      exact this
    refine ⟨_, rfl, rfl, _, rfl, ?_⟩
    refine ite2 (fun _ => ?_) (fun _ => ?_)
    · refine ⟨_, rfl, _, rfl, _, rfl, _, rfl, _, _, rfl, rfl, ⟨by decide, by decide, by decide⟩, st, 10 ^ 9, rfl, S1, by decide, by decide, fun z H2 z0 z1 S2 K2 => ⟨_, _, rfl, rfl, _, rfl, by show 4 ≤ sizeLine; decide, fun la hla => ?_⟩⟩
      have nl : la ≠ st := qah S2.some hla
      refine ⟨_, rfl, st, 4, rfl, S2.same (qac hla _), by decide, by decide, fun i H3 i0 i1 S3 K3 => ?_⟩
      obtain ⟨v, ev⟩ := qbJ (l := [-1, M, M + z, -2]) i0 i1
      refine ⟨la, _, _, _, rfl, rfl, SqL.of (K3 _ _ nl qab), ev, by show 2 ≤ sizeLine; decide, fun t ht => fin (.rule v) H3 S3 (((K1.trans K2).trans (qac hla _).keep).trans K3) t ht⟩
    · refine ⟨_, rfl, _, rfl, _, _, rfl, rfl, st, M + 1, rfl, S1, by omega, by omega, fun v H2 v0 v1 S2 K2 => ⟨by show 2 ≤ sizeLine; decide, fun t ht => fin (.rule v) H2 S2 (K1.trans K2) t ht⟩⟩
theorem scRowL : FnScope ["_law_stream_here", "_law_row_here", "_law_many", "_law_node", "_law_word_here", "_law_why_here", "_law_value", "_law_way"] ["_law_stream_here", "_law_row_here", "_law_many"] (qag sRowL) := ⟨rfl, rfl, rfl, by decide +kernel, rfl, by decide +kernel, by decide +kernel⟩
theorem ok_rowL {f : Addr} {fd : FuncData} (F : Fun K "_law_row" "_law_row" sRowL f fd) (T : BnD mg) (F_take : Fx P w K mg base CX0 1 "_law_take" ["_law_stream_here", "_law_most"] spTake) (F_table : Fx P w K mg base CX0 1 "_law_table" [] spTable) (F_why : Fx P w K mg base CX0 2 "_law_why" ["_law_stream_here", "_law_why_here", "_law_many", "_law_node"] spWhyL) : FnOk P w K mg base CX0 3 f fd ["_law_stream_here", "_law_row_here", "_law_many"] spRowL := by
  refine F.ok scRowL (fun vs H Q E h => ?_) (fun cdv A outer s H vs Q E hr h => ?_)
  · obtain ⟨st, t, r, M, rfl, _⟩ := h
    rfl
  · obtain ⟨st, t, r, M, rfl, S, rt, j13, M0, M1, q⟩ := h
    have hr_take : Room 1 _ := hr.mono (by decide)
    have hr_table : Room 1 _ := hr.mono (by decide)
    have hr_why := hr
    refine ⟨_, (qad (qb8 (pv 1) (qcH (by rfl) (qay (qan (i := 3) scRowL.nd (by rfl) (by trivial)) (qay (qan (i := 4) scRowL.nd (by rfl) (by trivial)) (qay (qan (i := 5) scRowL.nd (by rfl) (by trivial)) (qay (qan (i := 6) scRowL.nd (by rfl) (by trivial)) pgs_nil))))))
      (qad (qap (i := 7) scRowL.nd (by rfl) (by trivial) (qar F_take hr_take (by rfl) qaq (qaa (pv 0) (qaa qae pa_nil))))
      (qad (qaK (qal op_eq (pv 7) qae (qas _)) (qaf (qau (qaC (qaa (qaw op_add (pv 3) (qaj ix_list (qaA (qaa qae (qaa (qcu un_neg qae) pa_nil))) (qar F_take hr_take (by rfl) qaq (qaa (pv 0) (qaa qae pa_nil))) (fun _ _ => rfl))) (qaa (pv 4) (qaa (pv 5) (qaa (pv 6) pa_nil))))))) pss_nil)
      (qad (qaK (qal op_eq (pv 7) qae (qas _)) (qaf (qau (qaC (qaa (pv 3) (qaa (qaj ix_tup (qaj ix_list (qdX F_table hr_table (by rfl) qaq) (qar F_take hr_take (by rfl) qaq (qaa (pv 0) (qaa qae pa_nil))) (fun _ _ => rfl)) qae (fun _ _ => rfl)) (qaa (pv 5) (qaa (pv 6) pa_nil))))))) pss_nil)
      (qad (qaK (qal op_lt (pv 7) qae (qas _)) (qaf (qau (qaC (qaa (pv 3) (qaa (pv 4) (qaa (pv 5) (qaa (qaw op_add (pv 6) (qaj ix_list (qaA (qaa qae (qaa (qcu un_neg qae) (qaa (qaw op_pow qae qae) pa_nil)))) (qar F_take hr_take (by rfl) qaq (qaa (pv 0) (qaa qae pa_nil))) (fun _ _ => rfl))) pa_nil))))))) pss_nil)
      (qad (qaK (qal op_eq (pv 7) qae (qas _)) (qaf (qau (qaC (qaa (pv 3) (qaa (pv 4) (qaa (pv 5) (qaa (qar F_take hr_take (by rfl) qaq (qaa (pv 0) (qaa qae pa_nil))) pa_nil))))))) pss_nil)
      (qaf (qau (qaC (qaa (pv 3) (qaa (pv 4) (qaa (qar F_why hr_why (by rfl) qaq (qaa (pv 0) (qaa (pv 5) (qaa (pv 2) (qaa (pv 3) pa_nil))))) (qaa (pv 6) pa_nil))))))))))))), ?_⟩
    try dsimp only [cxOf, Cx.nox]
    obtain ⟨y, ht, hy⟩ := id rt
    refine ⟨_, rfl, t, _, rfl, SqT.of ht, rfl, _, _, rfl, _, _, rfl, _, _, rfl, _, _, rfl, rfl, ?_⟩
    refine ⟨_, rfl, st, 7, rfl, S, by decide, by decide, fun way H1 w0 w1 S1 K1 => ?_⟩
    have hy1 := qbc S K1 _ _ hy
    have fin : ∀ (n' : Int) (j' : Nat) (y' : Addr) (u' : Why) (v' : Int) (H2 : Hp), StOk H2 st → Keep1 st H H2 → H2 y' = some (.tup u'.vs) → j' < 13 → ∀ t', H2 t' = none → Q (.ref t') (upd H2 t' (.tup [.int n', .str (propNames.getD j' noName), .ref y', .int v'])) := fun n' j' y' u' v' H2 S2 K2 hy2 j2 t' ht' => q t' ⟨n', j', u', v'⟩ _ (S2.same (qac ht' _)) (K2.trans (qac ht' _).keep) ⟨y', qab, qac ht' _ _ _ hy2⟩ j2
    have yk : ∀ {H2 : Hp}, Keep1 st H1 H2 → H2 y = some (.tup r.y.vs) := fun k => qbc S1 k _ _ hy1
    refine ⟨_, rfl, rfl, _, rfl, ?_⟩
    refine ite2 (fun _ => ?_) (fun _ => ?_)
    · refine ⟨_, rfl, _, rfl, by show 2 ≤ sizeLine; decide, fun la hla => ?_⟩
      have nl : la ≠ st := qah S1.some hla
      refine ⟨_, rfl, st, 2, rfl, S1.same (qac hla _), by decide, by decide, fun i H2 i0 i1 S2 K2 => ?_⟩
      obtain ⟨v, ev⟩ := qbJ (l := [1, -1]) i0 i1
      have k2 : Keep1 st H1 H2 := (qac hla _).keep.trans K2
      exact ⟨la, _, _, _, rfl, rfl, SqL.of (K2 _ _ nl qab), ev, _, _, rfl, rfl, _, rfl, _, rfl, _, rfl, by show 4 ≤ sizeLine; decide, fun t' ht' => fin _ r.j y r.y r.v H2 S2 (K1.trans k2) (yk k2) j13 t' ht'⟩
    refine ⟨_, rfl, rfl, _, rfl, ?_⟩
    refine ite2 (fun _ => ?_) (fun _ => ?_)
    · refine ⟨_, rfl, rfl, fun lt ts H2 hlt s2 e2 p2 => ?_⟩
      have nt : lt ≠ st := qah S1.some hlt
      refine ⟨_, rfl, st, 13, rfl, S1.same s2, by decide, by decide, fun i H3 i0 i1 S3 K3 => ?_⟩
      obtain ⟨k, rfl⟩ : ∃ k : Nat, i = k := ⟨i.toNat, by omega⟩
      have lp : k < props.length := by show k < 13; omega
      have ez : props[k]? = some props[k] := List.getElem?_eq_getElem lp
      obtain ⟨a, ea, pa⟩ := qc5 p2 ez
      have zn := qdQ ez
      have k3 : Keep1 st H1 H3 := s2.keep.trans K3
      have pa3 := qbc (S1.same s2) K3 _ _ pa
      rw [zn] at pa3
      exact ⟨lt, _, _, _, rfl, rfl, SqL.of (K3 _ _ nt e2), qaz ea, a, _, _, _, rfl, rfl, SqT.of pa3, rfl, _, rfl, _, rfl, by show 4 ≤ sizeLine; decide, fun t' ht' => fin _ k y r.y r.v H3 S3 (K1.trans k3) (yk k3) (by omega) t' ht'⟩
    refine ⟨_, rfl, _, _, rfl, rfl, _, rfl, ?_⟩
    refine ite2 (fun _ => ?_) (fun _ => ?_)
    · refine ⟨_, rfl, _, rfl, _, rfl, _, rfl, _, rfl, _, _, rfl, rfl, ⟨by decide, by decide, by decide⟩, by show 3 ≤ sizeLine; decide, fun la hla => ?_⟩
      have nl : la ≠ st := qah S1.some hla
      refine ⟨_, rfl, st, 3, rfl, S1.same (qac hla _), by decide, by decide, fun i H2 i0 i1 S2 K2 => ?_⟩
      obtain ⟨v, ev⟩ := qbJ (l := [1, -1, 10 ^ 9]) i0 i1
      have k2 : Keep1 st H1 H2 := (qac hla _).keep.trans K2
      exact ⟨la, _, _, _, rfl, rfl, SqL.of (K2 _ _ nl qab), ev, _, _, rfl, rfl, by show 4 ≤ sizeLine; decide, fun t' ht' => fin _ r.j y r.y _ H2 S2 (K1.trans k2) (yk k2) j13 t' ht'⟩
    refine ⟨_, rfl, rfl, _, rfl, ?_⟩
    refine ite2 (fun _ => ?_) (fun _ => ?_)
    · exact ⟨_, rfl, _, rfl, _, rfl, _, rfl, st, 10, rfl, S1, by decide, by decide, fun v H2 v0 v1 S2 K2 => ⟨by show 4 ≤ sizeLine; decide, fun t' ht' => fin _ r.j y r.y v H2 S2 (K1.trans K2) (yk K2) j13 t' ht'⟩⟩
    · exact ⟨_, rfl, _, rfl, _, rfl, _, rfl, _, rfl, _, rfl, st, y, r.y, M, r.n, rfl, S1, hy1, M0, M1, fun y' u' H2 S2 K2 hy2 => ⟨_, rfl, by show 4 ≤ sizeLine; decide, fun t' ht' => fin _ r.j y' u' r.v H2 S2 (K1.trans K2) hy2 j13 t' ht'⟩⟩
end
end K14
namespace K14
open PySem L2 Bk Gen Gd Bd Fc
abbrev sBent : Stmt := top 52
def Good (rs : List Prw) : Prop := ∀ r ∈ rs, r.j < 13
def spBent : Sp := fun vs H Q _ => ∃ (st Pp : Addr) (rows : List Prw) (M : Int), vs = [.ref st, .ref Pp, .int M] ∧ StOk H st ∧ qa1 PrwAt H Pp rows ∧ 0 < rows.length ∧ rows.length ≤ 900 ∧ Good rows ∧ 0 ≤ M ∧ M ≤ 100 ∧
  ∀ (L : Addr) (rows' : List Prw) (H' : Hp), StOk H' st → Keep1 st H H' → qa1 PrwAt H' L rows' → Good rows' → rows.length ≤ rows'.length + 1 → rows'.length ≤ rows.length + 1 → Q (.ref L) H'
theorem qbv {st : Addr} {H H' : Hp} (S : StOk H st) (k : Keep1 st H H') {L : Addr} {rows : List Prw} (h : qa1 PrwAt H L rows) : qa1 PrwAt H' L rows := by
  obtain ⟨as, e, p⟩ := h
  exact ⟨as, k _ _ (Br.ref_ne_st e S) e, p.mono fun a r h => h.tups (qbc S k)⟩
theorem qaM {H H' : Hp} (s : Same H H') {p : Addr} {rs : List Prw} (h : qa1 PrwAt H p rs) : qa1 PrwAt H' p rs := by
  obtain ⟨as, e, pr⟩ := h
  exact ⟨as, s _ _ e, pr.mono fun a r q => q.same s⟩
theorem Good.sub {rs rs' : List Prw} (h : Good rs) (k : ∀ r ∈ rs', r ∈ rs) : Good rs' := fun r hr => h r (k r hr)
theorem Good.app {a b : List Prw} (h : Good a) (k : Good b) : Good (a ++ b) := fun r hr => (List.mem_append.mp hr).elim (h r) (k r)
theorem Good.set {a : List Prw} {i : Nat} {x : Prw} (h : Good a) (k : x.j < 13) : Good (a.set i x) := fun r hr => by
  rcases List.mem_or_eq_of_mem_set hr with z | z
  · exact h r z
  · rw [z]; exact k
section
variable {P : Program} {w : World} {K : PySem.W.Frag} {mg : Str → Option Value} {base : Heap}
theorem scBent : FnScope ["_law_stream_here", "_law_paper_here", "_law_many", "_law_way", "_law_at", "_law_other", "_law_found"] ["_law_stream_here", "_law_paper_here", "_law_many"] (qag sBent) := ⟨rfl, rfl, rfl, by decide +kernel, rfl, by decide +kernel, by decide +kernel⟩
theorem ok_bent {f : Addr} {fd : FuncData} (F : Fun K "_law_bent" "_law_bent" sBent f fd) (T : BnD mg) (F_take : Fx P w K mg base CX0 1 "_law_take" ["_law_stream_here", "_law_most"] spTake) (F_row : Fx P w K mg base CX0 3 "_law_row" ["_law_stream_here", "_law_row_here", "_law_many"] spRowL) : FnOk P w K mg base CX0 4 f fd ["_law_stream_here", "_law_paper_here", "_law_many"] spBent := by
  refine F.ok scBent (fun vs H Q E h => ?_) (fun cdv A outer s H vs Q E hr h => ?_)
  · obtain ⟨st, Pp, rows, M, rfl, _⟩ := h
    rfl
  · obtain ⟨st, Pp, rows, M, rfl, S, hP, l0, l900, gd, M0, M1, q⟩ := h
    have hr_take : Room 1 _ := hr.mono (by decide)
    have hr_row := hr
    refine ⟨_, (qad (qap (i := 3) scBent.nd (by rfl) (by trivial) (qar F_take hr_take (by rfl) qaq (qaa (pv 0) (qaa qae pa_nil))))
      (qad (qap (i := 4) scBent.nd (by rfl) (by trivial) (qar F_take hr_take (by rfl) qaq (qaa (pv 0) (qaa (qaB call_len_seq (by rfl) T.len b_len (qaa (pv 1) pa_nil)) pa_nil))))
      (qad (qaK (qal op_eq (pv 3) qae (qas _)) (qaf (qau (qaw op_cat (qaR sl_list (pv 1) po_none (qaW (pv 4))) (qaR sl_list (pv 1) (qaW (qaw op_add (pv 4) qae)) po_none)))) pss_nil)
      (qad (qaK (qal op_eq (pv 3) qae (qas _)) (qaf (qau (qaw op_cat (qaR sl_list (pv 1) po_none (qaW (qaw op_add (pv 4) qae))) (qaR sl_list (pv 1) (qaW (pv 4)) po_none)))) pss_nil)
      (qad (qaK (qal op_eq (pv 3) qae (qas _)) (qad (qap (i := 5) scBent.nd (by rfl) (by trivial) (qar F_take hr_take (by rfl) qaq (qaa (pv 0) (qaa (qaB call_len_seq (by rfl) T.len b_len (qaa (pv 1) pa_nil)) pa_nil))))
      (qad (qap (i := 6) scBent.nd (by rfl) (by trivial) (qaP call_list_of (by rfl) T.list b_list (qaa (pv 1) pa_nil)))
      (qad (qb8 (qaj ix_list (pv 1) (pv 5) (fun _ _ => rfl)) (qdJ (pv 6) (pv 4) set_list))
      (qad (qb8 (qaj ix_list (pv 1) (pv 4) (fun _ _ => rfl)) (qdJ (pv 6) (pv 5) set_list))
      (qaf (qau (pv 6))))))) pss_nil)
      (qaf (qau (qaw op_cat (qaw op_cat (qaR sl_list (pv 1) po_none (qaW (pv 4))) (qaA (qaa (qar F_row hr_row (by rfl) qaq (qaa (pv 0) (qaa (qaj ix_list (pv 1) (pv 4) (fun _ _ => rfl)) (qaa (pv 2) pa_nil)))) pa_nil))) (qaR sl_list (pv 1) (qaW (qaw op_add (pv 4) qae)) po_none))))))))), ?_⟩
    try dsimp only [cxOf, Cx.nox]
    refine ⟨_, rfl, st, 9, rfl, S, by decide, by decide, fun way H1 w0 w1 S1 K1 => ?_⟩
    have hP1 := qbv S K1 hP
    obtain ⟨as1, hp1, pa1⟩ := id hP1
    have la1 : as1.length = rows.length := Paired.length pa1
    refine ⟨_, rfl, _, rfl, Pp, _, rfl, .inl (SqL.of hp1), st, ((as1.map V.ref).length : Int), rfl, S1, by rw [List.length_map]; omega, by rw [List.length_map]; omega, fun at0 H2 a0 a1 S2 K2 => ?_⟩
    rw [List.length_map, la1] at a1
    obtain ⟨at', rfl⟩ : ∃ k : Nat, at0 = k := ⟨at0.toNat, by omega⟩
    have atl : at' < rows.length := by omega
    have hP2 := qbv S1 K2 hP1
    have K02 := K1.trans K2
    clear hp1 pa1 la1 as1 hP1
    obtain ⟨as, hp, pa⟩ := id hP2
    have la : as.length = rows.length := Paired.length pa
    have cat : ∀ (i j : Nat) (D1 D2 : Addr) (H4 : Hp), i ≤ as.length → j ≤ as.length → Same H2 H4 → H4 D1 = some (.lst ((as.take i).map V.ref)) → H4 D2 = some (.lst ((as.drop j).map V.ref)) → rows.length ≤ i + (rows.length - j) + 1 → i + (rows.length - j) ≤ rows.length + 1 → ∀ l3, H4 l3 = none → Q (.ref l3) (upd H4 l3 (.lst ((as.take i).map V.ref ++ (as.drop j).map V.ref))) := fun i j D1 D2 H4 hi hj s4 e1 e2 b1 b2 l3 h3 => by
      have s5 := qac h3 (.lst ((as.take i).map V.ref ++ (as.drop j).map V.ref))
      have s25 := s4.trans s5
      refine q l3 (rows.take i ++ rows.drop j) _ (S2.same s25) (K02.trans s25.keep) ⟨as.take i ++ as.drop j, by rw [qab, List.map_append], qa3 (Br.pairedTake (pa.mono fun a r h => h.same s25) i) (Br.pairedDrop (pa.mono fun a r h => h.same s25) j)⟩ ((gd.sub fun r hr => List.mem_of_mem_take hr).app (gd.sub fun r hr => List.mem_of_mem_drop hr)) ?_ ?_
      · rw [List.length_append, List.length_take, List.length_drop]; omega
      · rw [List.length_append, List.length_take, List.length_drop]; omega
    refine ⟨_, rfl, rfl, _, rfl, ?_⟩
    refine ite2 (fun _ => ?_) (fun _ => ?_)
    · refine ⟨_, rfl, _, rfl, _, rfl, Pp, _, rfl, SqL.of hp, fun D1 h1 => ?_⟩
      rw [Br.cut_pre (as := as) (i := at') (by omega)]
      have s3 := qac h1 (.lst ((as.take at').map V.ref))
      have e1 := qab (H := H2) (a := D1) (o := .lst ((as.take at').map V.ref))
      generalize upd H2 D1 (.lst ((as.take at').map V.ref)) = H3 at s3 e1 ⊢
      refine ⟨_, rfl, _, rfl, _, _, rfl, rfl, _, rfl, Pp, _, rfl, SqL.of (s3 _ _ hp), fun D2 h2 => ?_⟩
      rw [show ((at' : Int) + 1) = ((at' + 1 : Nat) : Int) by omega, Br.cut_suf (as := as) (i := at' + 1) (by omega)]
      have s4 := qac h2 (.lst ((as.drop (at' + 1)).map V.ref))
      have e2 := qab (H := H3) (a := D2) (o := .lst ((as.drop (at' + 1)).map V.ref))
      generalize upd H3 D2 (.lst ((as.drop (at' + 1)).map V.ref)) = H4 at s4 e2 ⊢
      exact ⟨D1, D2, _, _, rfl, rfl, s4 _ _ e1, e2, Nat.le_of_lt (qak (by rw [List.length_map, List.length_map, List.length_take, List.length_drop]; omega)), cat at' (at' + 1) D1 D2 H4 (by omega) (by omega) (s3.trans s4) (s4 _ _ e1) e2 (by omega) (by omega)⟩
    refine ⟨_, rfl, rfl, _, rfl, ?_⟩
    refine ite2 (fun _ => ?_) (fun _ => ?_)
    · refine ⟨_, rfl, _, rfl, _, _, rfl, rfl, _, rfl, Pp, _, rfl, SqL.of hp, fun D1 h1 => ?_⟩
      rw [show ((at' : Int) + 1) = ((at' + 1 : Nat) : Int) by omega, Br.cut_pre (as := as) (i := at' + 1) (by omega)]
      have s3 := qac h1 (.lst ((as.take (at' + 1)).map V.ref))
      have e1 := qab (H := H2) (a := D1) (o := .lst ((as.take (at' + 1)).map V.ref))
      generalize upd H2 D1 (.lst ((as.take (at' + 1)).map V.ref)) = H3 at s3 e1 ⊢
      refine ⟨_, rfl, _, rfl, _, rfl, Pp, _, rfl, SqL.of (s3 _ _ hp), fun D2 h2 => ?_⟩
      rw [Br.cut_suf (as := as) (i := at') (by omega)]
      have s4 := qac h2 (.lst ((as.drop at').map V.ref))
      have e2 := qab (H := H3) (a := D2) (o := .lst ((as.drop at').map V.ref))
      generalize upd H3 D2 (.lst ((as.drop at').map V.ref)) = H4 at s4 e2 ⊢
      exact ⟨D1, D2, _, _, rfl, rfl, s4 _ _ e1, e2, Nat.le_of_lt (qak (by rw [List.length_map, List.length_map, List.length_take, List.length_drop]; omega)), cat (at' + 1) at' D1 D2 H4 (by omega) (by omega) (s3.trans s4) (s4 _ _ e1) e2 (by omega) (by omega)⟩
    refine ⟨_, rfl, rfl, _, rfl, ?_⟩
    refine ite2 (fun _ => ?_) (fun _ => ?_)
    · -- two rows in each other's place
      refine ⟨_, rfl, _, rfl, Pp, _, rfl, .inl (SqL.of hp), st, ((as.map V.ref).length : Int), rfl, S2, by rw [List.length_map]; omega, by rw [List.length_map]; omega, fun o0 H3 b0 b1 S3 K3 => ?_⟩
      rw [List.length_map, la] at b1
      obtain ⟨o', rfl⟩ : ∃ k : Nat, o0 = k := ⟨o0.toNat, by omega⟩
      have hP3 := qbv S2 K3 hP2
      have K03 := K02.trans K3
      obtain ⟨bs, hp3, pb⟩ := id hP3
      have lb : bs.length = rows.length := Paired.length pb
      refine ⟨_, rfl, Pp, _, rfl, .inl (SqL.of hp3), fun Fd hF => ?_⟩
      have s4 := qac hF (.lst (bs.map V.ref))
      have e4 := qab (H := H3) (a := Fd) (o := .lst (bs.map V.ref))
      have nF : Pp ≠ Fd := Ne.symm (qah ⟨_, hp3⟩ hF)
      generalize upd H3 Fd (.lst (bs.map V.ref)) = H4 at s4 e4 ⊢
      have er1 : rows[o']? = some rows[o'] := List.getElem?_eq_getElem (by omega)
      have er2 : rows[at']? = some rows[at'] := List.getElem?_eq_getElem atl
      obtain ⟨x1, ex1, px1⟩ := pget pb er1
      obtain ⟨x2, ex2, px2⟩ := pget pb er2
      have g1 := gd _ (List.getElem_mem (show o' < rows.length by omega))
      have g2 := gd _ (List.getElem_mem atl)
      generalize rows[o'] = r1 at er1 px1 g1
      generalize rows[at'] = r2 at er2 px2 g2
      have hp4 := s4 _ _ hp3
      have ixk : ∀ (k : Nat) (xs : List V), k < xs.length → ixN xs.length (k : Int) = some k := fun k xs h => by
        unfold ixN
        rw [if_pos (by omega), if_pos (by omega)]
        simp
      refine ⟨_, rfl, _, rfl, Pp, _, _, _, rfl, rfl, SqL.of hp4, qaz ex1, _, rfl, _, rfl, Fd, _, _, at', rfl, rfl, e4, ixk at' _ (by rw [List.length_map]; omega), ?_⟩
      have t5 : Tups H4 (upd H4 Fd (.lst ((bs.map V.ref).set at' (.ref x1)))) := Tups.lst e4
      have hp5 : upd H4 Fd (.lst ((bs.map V.ref).set at' (.ref x1))) Pp = some (.lst (bs.map V.ref)) := by rw [qai nF]; exact hp4
      have e5 := qab (H := H4) (a := Fd) (o := .lst ((bs.map V.ref).set at' (.ref x1)))
      have S5 : StOk (upd H4 Fd (.lst ((bs.map V.ref).set at' (.ref x1)))) st := by
        obtain ⟨x, y, e, z⟩ := S3.same s4
        exact ⟨x, y, by rw [qai (Ne.symm (qah S3.some hF))]; exact e, z⟩
      have K05 : Keep1 st H (upd H4 Fd (.lst ((bs.map V.ref).set at' (.ref x1)))) := fun b o nb e => by
        have e3 := K03 _ _ nb e
        rw [qai (qao e3 hF)]
        exact s4 _ _ e3
      have kk5 : ∀ b o, H3 b = some o → upd H4 Fd (.lst ((bs.map V.ref).set at' (.ref x1))) b = some o := fun b o e => by
        rw [qai (qao e hF)]
        exact s4 _ _ e
      generalize upd H4 Fd (.lst ((bs.map V.ref).set at' (.ref x1))) = H5 at t5 hp5 e5 S5 K05 kk5 ⊢
      refine ⟨_, rfl, _, rfl, Pp, _, _, _, rfl, rfl, SqL.of hp5, qaz ex2, _, rfl, _, rfl, Fd, _, _, o', rfl, rfl, e5, ixk o' _ (by rw [List.length_set, List.length_map]; omega), ?_⟩
      have t6 : Tups H5 (upd H5 Fd (.lst (((bs.map V.ref).set at' (.ref x1)).set o' (.ref x2)))) := Tups.lst e5
      have t36 : Tups H3 (upd H5 Fd (.lst (((bs.map V.ref).set at' (.ref x1)).set o' (.ref x2)))) := (Tups.of s4).trans (t5.trans t6)
      refine ⟨_, rfl, q Fd ((rows.set at' r1).set o' r2) _ ?_ (fun b o nb e => ?_) ⟨(bs.set at' x1).set o' x2, ?_, ?_⟩ ((gd.set g1).set g2) ?_ ?_⟩
      · obtain ⟨x, y, e, z⟩ := S5
        exact ⟨x, y, by rw [qai (Ne.symm (qah S3.some hF))]; exact e, z⟩
      · rw [qai (qao (K03 _ _ nb e) hF)]
        exact K05 _ _ nb e
      · rw [qab, List.map_set, List.map_set]
      · exact Br.pairedSet (px2.tups t36) (Br.pairedSet (px1.tups t36) (pb.mono fun a r h => h.tups t36) at') o'
      · rw [List.length_set, List.length_set]; omega
      · rw [List.length_set, List.length_set]; omega
    refine ⟨_, rfl, _, rfl, _, rfl, Pp, _, rfl, SqL.of hp, fun D1 h1 => ?_⟩
    rw [Br.cut_pre (as := as) (i := at') (by omega)]
    have s3 := qac h1 (.lst ((as.take at').map V.ref))
    have e1 := qab (H := H2) (a := D1) (o := .lst ((as.take at').map V.ref))
    generalize upd H2 D1 (.lst ((as.take at').map V.ref)) = H3 at s3 e1 ⊢
    have er2 : rows[at']? = some rows[at'] := List.getElem?_eq_getElem atl
    obtain ⟨x2, ex2, px2⟩ := pget pa er2
    have g2 := gd _ (List.getElem_mem atl)
    generalize rows[at'] = r2 at er2 px2 g2
    refine ⟨_, rfl, _, rfl, _, rfl, Pp, _, _, _, rfl, rfl, SqL.of (s3 _ _ hp), qaz ex2, _, rfl, st, x2, r2, M, rfl, S2.same s3, px2.same s3, g2, M0, M1, fun t' r' H4 S4 K4 pt' gt' => ?_⟩
    have e1' := K4 _ _ (Br.ref_ne_st e1 (S2.same s3)) e1
    have hp4 := K4 _ _ (Br.ref_ne_st (s3 _ _ hp) (S2.same s3)) (s3 _ _ hp)
    have pa4 : Paired (PrwAt H4) as rows := pa.mono fun a r h => (h.same s3).tups (qbc (S2.same s3) K4)
    have K04 : Keep1 st H H4 := (K02.trans s3.keep).trans K4
    refine ⟨by show 1 ≤ sizeLine; decide, fun D2 h2 => ?_⟩
    have s5 := qac h2 (.lst [.ref t'])
    have e2 := qab (H := H4) (a := D2) (o := .lst [.ref t'])
    generalize upd H4 D2 (.lst [.ref t']) = H5 at s5 e2 ⊢
    refine ⟨D1, D2, _, _, rfl, rfl, s5 _ _ e1', e2, Nat.le_of_lt (qak (by rw [List.length_map, List.length_take]; simp; omega)), fun D3 h3 => ?_⟩
    have s6 := qac h3 (.lst ((as.take at').map V.ref ++ [.ref t']))
    have e3 := qab (H := H5) (a := D3) (o := .lst ((as.take at').map V.ref ++ [.ref t']))
    generalize upd H5 D3 (.lst ((as.take at').map V.ref ++ [.ref t'])) = H6 at s6 e3 ⊢
    refine ⟨_, rfl, _, rfl, _, _, rfl, rfl, _, rfl, Pp, _, rfl, SqL.of (s6 _ _ (s5 _ _ hp4)), fun D4 h4 => ?_⟩
    rw [show ((at' : Int) + 1) = ((at' + 1 : Nat) : Int) by omega, Br.cut_suf (as := as) (i := at' + 1) (by omega)]
    have s7 := qac h4 (.lst ((as.drop (at' + 1)).map V.ref))
    have e4 := qab (H := H6) (a := D4) (o := .lst ((as.drop (at' + 1)).map V.ref))
    generalize upd H6 D4 (.lst ((as.drop (at' + 1)).map V.ref)) = H7 at s7 e4 ⊢
    refine ⟨D3, D4, _, _, rfl, rfl, s7 _ _ e3, e4, Nat.le_of_lt (qak (by rw [List.length_append, List.length_map, List.length_map, List.length_take, List.length_drop]; simp; omega)), fun l3 h5 => ?_⟩
    have s8 := qac h5 (.lst ((as.take at').map V.ref ++ [.ref t'] ++ (as.drop (at' + 1)).map V.ref))
    have s48 := s5.trans (s6.trans (s7.trans s8))
    refine q l3 (rows.take at' ++ [r'] ++ rows.drop (at' + 1)) _ (S4.same s48) (K04.trans s48.keep) ⟨as.take at' ++ [t'] ++ as.drop (at' + 1), by rw [qab, List.map_append, List.map_append]; rfl, ?_⟩ ?_ ?_ ?_
    · exact qa3 ((Br.pairedTake (pa4.mono fun a r h => h.same s48) at').snoc (pt'.same s48)) (Br.pairedDrop (pa4.mono fun a r h => h.same s48) (at' + 1))
    · refine ((gd.sub fun r hr => List.mem_of_mem_take hr).app fun r hr => ?_).app (gd.sub fun r hr => List.mem_of_mem_drop hr)
      have : r = r' := by simpa using hr
      rw [this]; exact gt'
    · rw [List.length_append, List.length_append, List.length_take, List.length_drop]; simp; omega
    · rw [List.length_append, List.length_append, List.length_take, List.length_drop]; simp; omega
end
end K14
namespace K14
open PySem L2 Bk Gen Gd Bd Fc
abbrev sFew : Stmt := top 43
abbrev sRules : Stmt := top 44
def fewK : List Str := ["", "", "text", "body"].map Str.ofString
def fewW : List Str := ["", "", "body", "shelf"].map Str.ofString
def fewM : List Str := ["", "", "", "big"].map Str.ofString
theorem fewK_in : ∀ k ∈ fewK, k ∈ ruleKinds := by decide +kernel
theorem fewW_in : ∀ k ∈ fewW, k ∈ ruleKinds := by decide +kernel
theorem fewM_in : ∀ k ∈ fewM, k ∈ ruleMarks := by decide +kernel
def spRules : Sp := fun vs H Q _ => ∃ (st : Addr) (b : Bool), vs = [.ref st, .bl b] ∧ StOk H st ∧ ∀ (R : Addr) (rl : List Rl) (H' : Hp), (∀ x ∈ rl, RlOk x) → rl.length ≤ 100 → qbp H' R rl → StOk H' st → Keep1 st H H' → Q (.ref R) H'
section
variable {P : Program} {w : World} {K : PySem.W.Frag} {mg : Str → Option Value} {base : Heap}
theorem scFew : FnScope ["_law_stream_here", "_law_kind", "_law_around", "_law_mark", "_law_sets", "_law_k", "_law_word_here", "_law_low", "_law_great", "_law_plain"] ["_law_stream_here"] (qag sFew) := ⟨rfl, rfl, rfl, by decide +kernel, rfl, by decide +kernel, by decide +kernel⟩
theorem ok_few {f : Addr} {fd : FuncData} (F : Fun K "_law_few" "_law_few" sFew f fd) (T : Bn mg) (F_take : Fx P w K mg base CX0 1 "_law_take" ["_law_stream_here", "_law_most"] spTake) (F_table : Fx P w K mg base CX0 1 "_law_table" [] spTable) : FnOk P w K mg base CX0 2 f fd ["_law_stream_here"] spRule := by
  refine F.ok scFew (fun vs H Q E h => ?_) (fun cdv A outer s H vs Q E hr h => ?_)
  · obtain ⟨st, rfl, _⟩ := h
    rfl
  · obtain ⟨st, rfl, S, q⟩ := h
    have hr_take := hr
    have hr_table := hr
    refine ⟨_, (qad (qap (i := 1) scFew.nd (by rfl) (by trivial) (qaj ix_list (qaA (qaa qam (qaa qam (qaa qam (qaa qam pa_nil))))) (qar F_take hr_take (by rfl) qaq (qaa (pv 0) (qaa qae pa_nil))) (fun _ _ => rfl)))
      (qad (qap (i := 2) scFew.nd (by rfl) (by trivial) (qaj ix_list (qaA (qaa qam (qaa qam (qaa qam (qaa qam pa_nil))))) (qar F_take hr_take (by rfl) qaq (qaa (pv 0) (qaa qae pa_nil))) (fun _ _ => rfl)))
      (qad (qap (i := 3) scFew.nd (by rfl) (by trivial) (qaj ix_list (qaA (qaa qam (qaa qam (qaa qam (qaa qam pa_nil))))) (qar F_take hr_take (by rfl) qaq (qaa (pv 0) (qaa qae pa_nil))) (fun _ _ => rfl)))
      (qad (qap (i := 4) scFew.nd (by rfl) (by trivial) (qaA pa_nil))
      (qad (qa4 PassesOwn.never (by rfl) (qaD (by rfl) T.range (qaa (qaw op_add qae (qar F_take hr_take (by rfl) qaq (qaa (pv 0) (qaa qae pa_nil)))) pa_nil)) (qan (i := 5) scFew.nd (by rfl) (by trivial))
      (qad (qb8 (qaj ix_list (qdX F_table hr_table (by rfl) qaq) (qar F_take hr_take (by rfl) qaq (qaa (pv 0) (qaa qae pa_nil))) (fun _ _ => rfl)) (qcH (by rfl) (qay (qan (i := 6) scFew.nd (by rfl) (by trivial)) (qay (qan (i := 7) scFew.nd (by rfl) (by trivial)) (qay (qan (i := 8) scFew.nd (by rfl) (by trivial)) (qay (qan (i := 9) scFew.nd (by rfl) (by trivial)) pgs_nil))))))
      (qaf (qaK (qal op_notIn_seq (pv 6) (qa0 (own := ["_law_own_here", "_law_value"]) (by rfl) (CompScope.plain (by rfl) (by decide +kernel) (by decide +kernel) (by decide +kernel)) (qa2 (pv 4)) (fun cl C s2 H2 fp => (qcr K (n := 2) (by rfl) (by rfl) (qay (qan (i := 0) (by show (["_law_own_here", "_law_value"] : List Str).Nodup; decide +kernel) (by rfl) (by trivial) (by trivial)) (qay (qan (i := 1) (by show (["_law_own_here", "_law_value"] : List Str).Nodup; decide +kernel) (by rfl) (by trivial) (by trivial)) pgs_nil)))) (fun cl C s2 H2 fp => qa6) (fun cl C s2 H2 fp => (pv 0))) (by with_unfolding_all rfl)) (qaf (qaN (qbI PySem.F.plainAttrs_list PySem.F.slot_list_append PySem.F.type_list_append mt_append (pv 4) (qaa (qaC (qaa (pv 6) (qaa (qaw op_add (pv 7) (qar F_take hr_take (by rfl) qaq (qaa (pv 0) (qaa (qaw op_add (qaw op_sub (pv 8) (pv 7)) qae) pa_nil)))) pa_nil))) pa_nil)))) pss_nil))))
      (qaf (qau (qaC (qaa (qar F_take hr_take (by rfl) qaq (qaa (pv 0) (qaa qae pa_nil))) (qaa (pv 1) (qaa (pv 2) (qaa (pv 3) (qaa (pv 4) pa_nil))))))))))))), ?_⟩
    try dsimp only [cxOf, Cx.nox]
    refine seq_cut fun Ca0 hCa0 => ?_
    refine ⟨by show 4 ≤ sizeLine; decide, fun l1 hl1 => ?_⟩
    have s1 := qac hl1 (.lst (fewK.map V.str))
    have n1 : l1 ≠ st := qah S.some hl1
    refine ⟨_, rfl, st, 4, rfl, S.same s1, by decide, by decide, fun i1 H1 i10 i11 S1 K1 => ?_⟩
    obtain ⟨kd, ekd, mkd0⟩ := qbs (nms := fewK) i10 i11
    have mkd := fewK_in _ mkd0
    refine ⟨l1, _, _, _, rfl, rfl, SqL.of (K1 _ _ n1 qab), ekd, ?_⟩
    have K01 : Keep1 st H H1 := s1.keep.trans K1
    subst hCa0
    try dsimp only [qaS, tNext]
    refine seq_cut fun Ca1 hCa1 => ?_
    refine ⟨by show 4 ≤ sizeLine; decide, fun l2 hl2 => ?_⟩
    have s2 := qac hl2 (.lst (fewW.map V.str))
    have n2 : l2 ≠ st := qah S1.some hl2
    refine ⟨_, rfl, st, 4, rfl, S1.same s2, by decide, by decide, fun i2 H2 i20 i21 S2 K2 => ?_⟩
    obtain ⟨wi, ewi, mwi0⟩ := qbs (nms := fewW) i20 i21
    have mwi := fewW_in _ mwi0
    refine ⟨l2, _, _, _, rfl, rfl, SqL.of (K2 _ _ n2 qab), ewi, ?_⟩
    have K02 : Keep1 st H H2 := K01.trans (s2.keep.trans K2)
    subst hCa1
    try dsimp only [qaS, tNext]
    refine seq_cut fun Ca2 hCa2 => ?_
    refine ⟨by show 4 ≤ sizeLine; decide, fun lm hlm => ?_⟩
    have s5 := qac hlm (.lst (fewM.map V.str))
    have nm : lm ≠ st := qah S2.some hlm
    refine ⟨_, rfl, st, 4, rfl, S2.same s5, by decide, by decide, fun i6 H6 i60 i61 S6 K6 => ?_⟩
    obtain ⟨mk, emk, mmk0⟩ := qbs (nms := fewM) i60 i61
    have mmk := fewM_in _ mmk0
    refine ⟨lm, _, _, _, rfl, rfl, SqL.of (K6 _ _ nm qab), emk, ?_⟩
    have K36 : Keep1 st H H6 := (K02.trans s5.keep).trans K6
    clear s5 s1 s2 K6 K1 K2 K01 K02 S1 S2 mkd0 mwi0 mmk0
    subst hCa2
    try dsimp only [qaS, tNext]
    refine seq_cut fun Ca3 hCa3 => ?_
    refine ⟨by show 0 ≤ sizeLine; decide, fun ls hls => ?_⟩
    have s7 := qac hls (.lst [])
    have ns : ls ≠ st := qah S6.some hls
    have ls0 : H ls = none := K36.back ns hls
    subst hCa3
    try dsimp only [qaS, tNext]
    refine seq_cut fun Ca4 hCa4 => ?_
    refine ⟨_, rfl, st, 3, rfl, S6.same s7, by decide, by decide, fun i8 H8 i80 i81 S8 K8 => ⟨_, _, rfl, rfl, _, rfl, by omega, by omega, qaI (fun i σ H' => ∃ (vs : List V) (ys : List (Str × Int)) (v7 v8 v9 v10 v11 : Option V), σ = [some (.ref st), some (.str kd), some (.str wi), some (.str mk), some (.ref ls), v7, v8, v9, v10, v11] ∧ StOk H' st ∧ Keep1 st H H' ∧ H' ls = some (.lst vs) ∧ Paired (SetAt (fun b => H b = none ∧ b ≠ ls) H') vs ys ∧ ys.length ≤ i ∧ (0 < i → ys ≠ []) ∧ (∀ y ∈ ys, qeA y) ∧ (ys.map (·.1)).Nodup)
      ⟨[], [], none, none, none, none, none, rfl, S8, (K36.trans s7.keep).trans K8, K8 _ _ ns qab, .nil, Nat.le_refl _, (fun z => absurd z (Nat.lt_irrefl 0)), (fun y hy => nomatch hy), List.nodup_nil⟩ ?_ ?_⟩⟩
    · rintro i σ H9 hi ⟨vs, ys, v7, v8, v9, v10, v11, rfl, S9, K9, hl9, pr, le, nz, sok, nd⟩
      have lenv : vs.length = ys.length := pr.length
      have hi13 : i < 13 := by omega
      refine seq_cut fun Cb0 hCb0 => ?_
      refine ⟨rfl, fun lt ts H10 hlt s10 e10 p10 => ?_⟩
      have nt : lt ≠ st := qah S9.some hlt
      refine ⟨_, rfl, st, 5, rfl, S9.same s10, by decide, by decide, fun r H11 r0 r1 S11 K11 => ?_⟩
      obtain ⟨ri, rfl⟩ : ∃ ri : Nat, r = ri := ⟨r.toNat, by omega⟩
      have lp : ri < props.length := by show ri < 13; omega
      have ez : props[ri]? = some props[ri] := List.getElem?_eq_getElem lp
      obtain ⟨a, ea, pa⟩ := qc5 p10 ez
      have bz := prop_bounds _ (List.getElem_mem lp)
      have mz : props[ri] ∈ props := List.getElem_mem lp
      generalize props[ri] = z at ez pa bz mz
      have na : a ≠ st := fun z => by
        obtain ⟨x, y, e, _⟩ := S9.same s10
        rw [z] at pa
        unfold qbg at pa
        rw [e] at pa
        cases pa
      refine ⟨lt, _, _, _, rfl, rfl, SqL.of (K11 _ _ nt e10), qaz ea, ?_⟩
      refine ⟨a, _, rfl, SqT.of (K11 _ _ na pa), rfl, _, _, rfl, _, _, rfl, _, _, rfl, _, _, rfl, rfl, ?_⟩
      have K911 : Keep1 st H9 H11 := s10.keep.trans K11
      have hl11 := K911 _ _ ns hl9
      have sub : ∀ b, H b = none ∧ b ≠ ls → b ≠ st := fun b nb z => by
        obtain ⟨o, e⟩ := S.some
        rw [z, e] at nb
        cases nb.1
      have pr11 := pr.mono fun v y q => q.keep (K911.mono sub) fun _ n _ => n
      subst hCb0
      try dsimp only [qaS, tNext]
      refine ⟨_, rfl, _, rfl, ls, rfl, ⟨_, SqL.of hl11⟩, qaO (fun i zs σ' H' => H' = H11 ∧ zs = ((ys.take i).map (·.1)).map V.str ∧ ∃ z1 z2, σ' = [z1, z2]) (by rw [lenv]; exact qak (by omega)) ⟨rfl, rfl, none, none, rfl⟩ ?_ ?_ ?_⟩
      · rintro i zs σ' H' hi ⟨rfl, rfl, _⟩
        refine ⟨SqL.of hl11, ?_⟩
        rw [List.length_map, List.length_map, List.length_take]
        exact Nat.min_le_left _ _
      · rintro i v zs σ' H' hv ⟨rfl, rfl, z1, z2, rfl⟩
        obtain ⟨y, ey, b, rfl, nb, hb⟩ := qa8 pr11 hv
        refine ⟨b, _, rfl, SqT.of hb, rfl, _, _, rfl, _, _, rfl, rfl, ?_⟩
        refine ⟨_, rfl, rfl, ?_, _, _, rfl⟩
        rw [List.take_succ, ey, List.map_append, List.map_append]
        rfl
      rintro zs σ' H' ⟨rfl, rfl, _⟩ D hD
      rw [lenv, List.take_length]
      have sD := qac hD (.lst ((ys.map (·.1)).map V.str))
      refine ⟨D, _, rfl, .inl (SqL.of qab), rfl, qbh _, _, rfl, ?_⟩
      rw [if_pos rfl, qbC]
      have hlD := sD _ _ hl11
      have SD := S11.same sD
      have prD := pr11.mono fun v y q => q.keep sD.keep fun _ n _ => n
      have K9D : Keep1 st H9 (upd H' D (.lst ((ys.map (·.1)).map V.str))) := K911.trans sD.keep
      generalize upd H' D (.lst ((ys.map (·.1)).map V.str)) = H12 at hlD SD prD K9D ⊢
      by_cases hin : z.1 ∈ ys.map (·.1)
      · rw [decide_eq_true hin]
        refine iteF ?_
        exact ⟨vs, ys, _, _, _, _, _, rfl, SD, K9.trans K9D, hlD, prD, by omega, (fun _ e => by rw [e] at hin; cases hin), sok, nd⟩
      · rw [decide_eq_false hin]
        refine iteT ?_
        refine ⟨_, rfl, .inl ⟨rfl, _, SqL.of hlD⟩, _, rfl, _, rfl, _, rfl, _, rfl, _, rfl, _, _, rfl, rfl, _, _, rfl, rfl, ?_⟩
        refine ⟨st, z.2.2.1 - z.2.1 + 1, rfl, SD, by omega, by omega, fun v H13 v0 v1 S13 K13 => ⟨_, _, rfl, rfl, by show 2 ≤ sizeLine; decide, fun t ht => ?_⟩⟩
        have s13 := qac ht (.tup [.str z.1, .int (z.2.1 + v)])
        have hl13 := s13 _ _ (K13 _ _ ns hlD)
        refine ⟨ls, _, _, rfl, rfl, hl13, qak (by omega), ?_⟩
        have K913 : Keep1 st H9 (upd H13 t (.tup [.str z.1, .int (z.2.1 + v)])) := (K9D.trans K13).trans s13.keep
        have tn : H t = none ∧ t ≠ ls := ⟨((K9.trans K9D).trans K13).back (qah S13.some ht) ht, qah ⟨_, K13 _ _ ns hlD⟩ ht⟩
        have it13 : SetAt (fun b => H b = none ∧ b ≠ ls) (upd H13 t (.tup [.str z.1, .int (z.2.1 + v)])) (.ref t) (z.1, z.2.1 + v) := ⟨t, rfl, tn, qab⟩
        have pr13 := prD.mono fun v y q => q.keep ((K13.trans s13.keep).mono sub) fun _ n _ => n
        have S14 := S13.same s13
        generalize upd H13 t (.tup [.str z.1, .int (z.2.1 + v)]) = H14 at hl13 K913 it13 pr13 S14 ⊢
        have kk : KeepN (fun b => H b = none ∧ b ≠ ls) H14 (upd H14 ls (.lst (vs ++ [.ref t]))) := fun b o nb e => by rw [qai nb.2]; exact e
        refine ⟨vs ++ [.ref t], ys ++ [(z.1, z.2.1 + v)], _, _, _, _, _, rfl, ?_, ?_, qab, (pr13.mono fun v y q => q.keep kk fun _ n _ => n).snoc (it13.keep kk fun _ n _ => n), by rw [List.length_append]; simp; omega, (fun _ e => by simp at e), ?_, ?_⟩
        · obtain ⟨x, y, e, z⟩ := S14
          exact ⟨x, y, by rw [qai (Ne.symm ns)]; exact e, z⟩
        · intro b o nb e
          rw [qai (qao e ls0)]
          exact K913 _ _ nb (K9 _ _ nb e)
        · intro y hy
          rcases List.mem_append.mp hy with hy | hy
          · exact sok y hy
          · have : y = (z.1, z.2.1 + v) := by simpa using hy
            subst this
            exact ⟨z, mz, rfl, by show z.2.1 ≤ z.2.1 + v; omega, by show z.2.1 + v ≤ z.2.2.1; omega⟩
        · rw [List.map_append, List.nodup_append]
          refine ⟨nd, by simp, fun x hx y hy => ?_⟩
          have : y = z.1 := by simpa using hy
          subst this
          exact fun e => hin (e ▸ hx)
    · rintro σ H9 ⟨vs, ys, v7, v8, v9, v10, v11, rfl, S9, K9, hl9, pr, le, nz, sok, nd⟩
      subst hCa4
      try dsimp only [qaS, tNext]
      refine ⟨_, rfl, st, 2, rfl, S9, by decide, by decide, fun rk H10 k0 k1 S10 K10 => ?_⟩
      have sub : ∀ b, H b = none ∧ b ≠ ls → b ≠ st := fun b nb z => by
        obtain ⟨o, e⟩ := S.some
        rw [z, e] at nb
        cases nb.1
      refine ⟨_, rfl, _, rfl, _, rfl, _, rfl, by show 5 ≤ sizeLine; decide, fun t ht => ?_⟩
      have s9 := qac ht (.tup [.int rk, .str kd, .str wi, .str mk, .ref ls])
      have K910 := K9.trans K10
      refine q t ⟨rk, kd, wi, mk, ys⟩ _ ⟨k0, by show rk ≤ 9; omega, mkd, mwi, mmk, nz (by omega), by show ys.length ≤ 13; omega, sok, nd⟩ ⟨K910.back (qah S10.some ht) ht, ls, vs, qab, ls0, s9 _ _ (K10 _ _ ns hl9), pr.mono fun v y q => (q.keep (K10.mono sub) fun _ n _ => n).keep s9.keep fun _ n _ => n.1⟩ (S10.same s9) (K910.trans s9.keep)
theorem scRules : FnScope ["_law_stream_here", "_law_long"] ["_law_stream_here", "_law_long"] (qag sRules) := ⟨rfl, rfl, rfl, by decide +kernel, rfl, by decide +kernel, by decide +kernel⟩
theorem ok_rules {f : Addr} {fd : FuncData} (F : Fun K "_law_rules" "_law_rules" sRules f fd) (T : Bn mg) (F_take : Fx P w K mg base CX0 1 "_law_take" ["_law_stream_here", "_law_most"] spTake) (F_few : Fx P w K mg base CX0 2 "_law_few" ["_law_stream_here"] spRule) (F_rule : Fx P w K mg base CX0 2 "_law_rule" ["_law_stream_here"] spRule) : FnOk P w K mg base CX0 3 f fd ["_law_stream_here", "_law_long"] spRules := by
  refine F.ok scRules (fun vs H Q E h => ?_) (fun cdv A outer s H vs Q E hr h => ?_)
  · obtain ⟨st, b, rfl, _⟩ := h
    rfl
  · obtain ⟨st, b, rfl, S, q⟩ := h
    have hr_take : Room 1 _ := hr.mono (by decide)
    have hr_few := hr
    have hr_rule := hr
    refine ⟨_, (qad (qaK (qcJ (pv 1)) (qaf (qau (qa0 (own := ["_law_k"]) (by rfl) (ix := [0]) (frees := ["_law_stream_here"]) (CompScope.frees (by rfl) (by decide +kernel) (by decide +kernel) (by decide +kernel) (by rfl) (by decide +kernel) (by first | exact qb1 (by rfl) | exact qcg (by rfl) (by rfl))) (qaD (by rfl) T.range (qaa (qaw op_add qae (qar F_take hr_take (by rfl) qaq (qaa (pv 0) (qaa qae pa_nil)))) pa_nil)) (fun cl C s2 H2 fp => (qan (i := 0) (by show (["_law_k", "_law_stream_here"] : List Str).Nodup; decide +kernel) (by rfl) (by trivial) (by trivial))) (fun cl C s2 H2 fp => qa6) (fun cl C s2 H2 fp => (qar F_few hr_few (by rfl) qaq (qaa (pv 1) pa_nil)))))) pss_nil)
      (qaf (qau (qa0 (own := ["_law_k"]) (by rfl) (ix := [0]) (frees := ["_law_stream_here"]) (CompScope.frees (by rfl) (by decide +kernel) (by decide +kernel) (by decide +kernel) (by rfl) (by decide +kernel) (by first | exact qb1 (by rfl) | exact qcg (by rfl) (by rfl))) (qaD (by rfl) T.range (qaa (qar F_take hr_take (by rfl) qaq (qaa (pv 0) (qaa qae pa_nil))) pa_nil)) (fun cl C s2 H2 fp => (qan (i := 0) (by show (["_law_k", "_law_stream_here"] : List Str).Nodup; decide +kernel) (by rfl) (by trivial) (by trivial))) (fun cl C s2 H2 fp => qa6) (fun cl C s2 H2 fp => (qar F_rule hr_rule (by rfl) qaq (qaa (pv 1) pa_nil))))))), ?_⟩
    try dsimp only [cxOf, Cx.nox]
    have fin : ∀ {rs : List Addr} {xs : List Rl} {H6 : Hp} {D : Addr}, rs.length ≤ 100 → Paired (RlAt (fun b => b ≠ st) H6) rs xs → (∀ x ∈ xs, RlOk x) → StOk H6 st → Keep1 st H H6 → H6 D = none → Q (.ref D) (upd H6 D (.lst (rs.map V.ref))) := fun {rs xs H6 D} le pr ok S6 K6 hD => by
      have sD := qac hD (.lst (rs.map V.ref))
      exact q D xs _ ok (by rw [← Paired.length pr]; exact le) ⟨rs, qab, pr.mono fun a b h => h.keep sD.keep fun _ _ _ => trivial⟩ (S6.same sD) (K6.trans sD.keep)
    cases b with
    | true =>
      refine ⟨_, rfl, _, rfl, iteT ?_⟩
      refine ⟨_, rfl, st, 34, rfl, S, by decide, by decide, fun r7 H5 r70 r71 S5 K5 => ⟨_, _, rfl, rfl, _, rfl, by omega, by omega, qbz (fun i ys σ' H' => ∃ rs xs, ys = rs.map V.ref ∧ rs.length = i ∧ Paired (RlAt (fun b => b ≠ st) H') rs xs ∧ (∀ x ∈ xs, RlOk x) ∧ (∃ z, σ' = [z, some (.ref st)]) ∧ StOk H' st ∧ Keep1 st H H') (qak (by omega)) ⟨[], [], rfl, rfl, .nil, (fun x hx => nomatch hx), ⟨none, rfl⟩, S5, K5⟩ ?_ ?_ ?_⟩⟩
      · rintro i ys σ' H' hi ⟨rs, xs, rfl, e, _⟩
        rw [List.length_map]
        omega
      · rintro i ys σ' H' hi ⟨rs, xs, rfl, e, pr, ok, ⟨z, rfl⟩, S6, K6⟩
        refine ⟨_, rfl, st, rfl, S6, fun r x H7 xok R S7 K7 => ?_⟩
        refine ⟨rs ++ [r], xs ++ [x], by rw [List.map_append]; rfl, by rw [List.length_append, e]; rfl, ?_, fun y hy => ?_, ⟨_, rfl⟩, S7, K6.trans K7⟩
        · exact (pr.mono fun a b h => h.keep K7 fun _ n _ => n).snoc (R.keep KeepN.refl fun b n _ => qah S6.some n)
        · rcases List.mem_append.mp hy with hy | hy
          · exact ok y hy
          · have : y = x := by simpa using hy
            rw [this]; exact xok
      rintro ys σ' H6 ⟨rs, xs, rfl, e, pr, ok, ⟨z, rfl⟩, S6, K6⟩ D hD
      exact fin (by omega) pr ok S6 K6 hD
    | false =>
      refine ⟨_, rfl, _, rfl, iteF ?_⟩
      refine ⟨_, rfl, st, 7, rfl, S, by decide, by decide, fun r7 H5 r70 r71 S5 K5 => ⟨_, rfl, by omega, by omega, qbz (fun i ys σ' H' => ∃ rs xs, ys = rs.map V.ref ∧ rs.length = i ∧ Paired (RlAt (fun b => b ≠ st) H') rs xs ∧ (∀ x ∈ xs, RlOk x) ∧ (∃ z, σ' = [z, some (.ref st)]) ∧ StOk H' st ∧ Keep1 st H H') (qak (by omega)) ⟨[], [], rfl, rfl, .nil, (fun x hx => nomatch hx), ⟨none, rfl⟩, S5, K5⟩ ?_ ?_ ?_⟩⟩
      · rintro i ys σ' H' hi ⟨rs, xs, rfl, e, _⟩
        rw [List.length_map]
        omega
      · rintro i ys σ' H' hi ⟨rs, xs, rfl, e, pr, ok, ⟨z, rfl⟩, S6, K6⟩
        refine ⟨_, rfl, st, rfl, S6, fun r x H7 xok R S7 K7 => ?_⟩
        refine ⟨rs ++ [r], xs ++ [x], by rw [List.map_append]; rfl, by rw [List.length_append, e]; rfl, ?_, fun y hy => ?_, ⟨_, rfl⟩, S7, K6.trans K7⟩
        · exact (pr.mono fun a b h => h.keep K7 fun _ n _ => n).snoc (R.keep KeepN.refl fun b n _ => qah S6.some n)
        · rcases List.mem_append.mp hy with hy | hy
          · exact ok y hy
          · have : y = x := by simpa using hy
            rw [this]; exact xok
      rintro ys σ' H6 ⟨rs, xs, rfl, e, pr, ok, ⟨z, rfl⟩, S6, K6⟩ D hD
      exact fin (by omega) pr ok S6 K6 hD
end
end K14
namespace K14
open PySem L2 Bk Gen Gd Bd Fc
open PySem.W (Dat kqdOk)
abbrev sLaw : Stmt := top 53
def qeB (Pt : Addr) (K : PySem.W.Frag) : Sp := fun vs H Q _ => ∃ (a : Addr) (ns : List Int), vs = [.ref a] ∧ SqL K H a (ns.map V.int) ∧ ns.length ≤ 63 ∧ TabOk H Pt lam.2.2.2 lamQ ∧ ∀ H', Q (.bl true) H'
theorem SqL.keepT {K : PySem.W.Frag} {H H' : Hp} {a : Addr} {xs : List V} (h : SqL K H a xs) (k : ∀ o, (∀ qs, o ≠ HO.tbl qs) → H a = some o → H' a = some o) : SqL K H' a xs := by
  rcases h with (h | ⟨o, h⟩) | h
  · exact .inl (.inl (k _ (fun _ z => nomatch z) h))
  · exact .inl (.inr ⟨o, k _ (fun _ z => nomatch z) h⟩)
  · exact .inr h
theorem qch {ds : List Nd} (b : Book ds) : ∀ n d, ds[n]? = some d → n ≠ 0 → 0 ≤ d.e ∧ d.e.toNat < n := by
  obtain ⟨d0, sub, ks, rfl, h1, h2, f, _⟩ := b.tree
  intro n d e hn
  cases n with
  | zero => exact absurd rfl hn
  | succ k =>
    rw [List.getElem?_cons_succ] at e
    obtain ⟨j, ej, hj⟩ := f.elds (by decide) k d e
    rw [ej]
    exact ⟨by omega, by omega⟩
theorem bk_pos {ds : List Nd} (b : Book ds) : 1 ≤ ds.length := by
  obtain ⟨d0, sub, ks, rfl, _⟩ := b.tree
  rw [List.length_cons]
  omega
theorem TabOk.keep1 {st Pt : Addr} {H H' : Hp} {pos : Pos} {q : Str} (S : StOk H st) (t : TabOk H Pt pos q) (k : Keep1 st H H') : TabOk H' Pt pos q :=
  TabOk.g (fun b o n e => k b o (fun z => by obtain ⟨x, y, e', _⟩ := S; rw [z, e'] at e; cases e; exact n _ rfl) e) t
theorem TabOk.same {Pt : Addr} {H H' : Hp} {pos : Pos} {q : Str} (t : TabOk H Pt pos q) (s : Same H H') : TabOk H' Pt pos q := TabOk.g (fun b o _ e => s b o e) t
theorem PapOk.uniq {ds : List Nd} {rl : List Rl} {rows rows' : List Prw} (h : PapOk ds rl rows) (h' : PapOk ds rl rows') (e : rows.length = rows'.length) : rows = rows' := by
  have key : ∀ m, m ≤ rows.length → rows.take m = rows'.take m := by
    intro m
    induction m with
    | zero => intro _; rfl
    | succ m ih =>
      intro hm
      have ih := ih (by omega)
      have e1 : rows[m]? = some rows[m] := List.getElem?_eq_getElem (by omega)
      have e2 : rows'[m]? = some (rows'[m]'(by omega)) := List.getElem?_eq_getElem (by omega)
      obtain ⟨l, d, a1, a2, a3⟩ := h m _ e1
      obtain ⟨l', d', b1, b2, b3⟩ := h' m _ e2
      rw [a1] at b1
      cases b1
      have hl := Lev.uniq a2 b2
      subst hl
      rw [List.take_succ, List.take_succ, e1, e2, a3, b3, ih]
  have := key rows.length (Nat.le_refl _)
  rw [List.take_length, e, List.take_length] at this
  exact this
theorem PapOk.lt {ds : List Nd} {rl : List Rl} {rows : List Prw} (h : PapOk ds rl rows) {m : Nat} {r : Prw} (e : rows[m]? = some r) : r.j < 13 := by
  obtain ⟨l, d, _, _, rfl⟩ := h m r e
  rw [(qeS ..).2]
  omega
theorem pc_okN {n : Nat} {x : Th} (h : PcOk x) : kqdOk (n + 2) (thD x) = true := by
  cases x with
  | int n => cases h
  | tri s x t =>
    cases s <;> cases x <;> first | (exfalso; exact h) | skip
    · have := qdO h.1
      simp [thD, thgD, kqdOk, this, qcG]
    · have := qbA (.inr h.1)
      simp [thD, thgD, kqdOk, this, qcG]
    · simp [thD, thgD, kqdOk, qcG]
theorem stuff_okN {n : Nat} {k : Kd} {l : List Th} (h : Stuff k l) : ∀ x ∈ l, kqdOk (n + 2) (thD x) = true := by
  intro x hx
  cases k <;> first
    | (obtain ⟨h1, _⟩ := h; exact pc_okN (h1 x hx))
    | (obtain ⟨a, b, rfl, _⟩ := h; rcases List.mem_cons.mp hx with rfl | hx; rfl; have : x = .int b := (by simpa using hx); subst this; rfl)
    | (have : l = [] := h; subst this; cases hx)
theorem nd_okN {n : Nat} {d : Nd} (h : Form d) : kqdOk (n + 4) (ndD d) = true := by
  have h1 := qbA h.nm
  have h2 : ∀ m ∈ d.mks, PyData.strOk m = true := fun m hm => qbA (.inr (h.mks.2.1 m hm))
  have h3 := stuff_okN (n := n) h.st
  simp only [ndD, kqdOk, List.all_cons, List.all_nil, Bool.and_true, Bool.and_eq_true, List.all_eq_true, List.mem_map]
  refine ⟨trivial, qeL _, h1, ?_, ?_⟩
  · rintro x ⟨m, hm, rfl⟩
    exact h2 m hm
  · rintro x ⟨m, hm, rfl⟩
    exact h3 m hm
def qeX (ds : List Nd) (xs : List Rl) : Dat := .list [bkD ds, .list (xs.map rlD)]
theorem qeq {ds : List Nd} {xs : List Rl} (h : ∀ d ∈ ds, Form d) (hx : ∀ x ∈ xs, RlOk x) : kqdOk 9 (qeX ds xs) = true := by
  simp only [qeX, bkD, kqdOk, List.all_cons, List.all_nil, Bool.and_true, Bool.and_eq_true, List.all_eq_true, List.mem_map]
  refine ⟨?_, ?_⟩
  · rintro x ⟨m, hm, rfl⟩
    exact nd_okN (n := 3) (h m hm)
  · rintro x ⟨m, hm, rfl⟩
    exact rl_ok (n := 3) (hx m hm)
theorem qez {N : Addr → Prop} {H : Hp} {a B R : Addr} {ds : List Nd} {xs : List Rl} (e : H a = some (.lst [.ref B, .ref R])) (b : qaY N H B ds) (r : qbp H R xs) : DIn H (.ref a) (qeX ds xs) := by
  obtain ⟨rs, eR, pr⟩ := r
  exact .lst e (.cons (bk_in b) (.cons (.lst eR (rls_in pr)) .nil))
theorem lst_g {Pt : Addr} {H H' : Hp} {pos : Pos} {q : Str} (t : TabOk H Pt pos q) (g : GSame Pt H H') {L : Addr} {rows : List Prw} (h : qa1 PrwAt H L rows) : qa1 PrwAt H' L rows := by
  obtain ⟨as, e, p⟩ := h
  exact ⟨as, g _ _ (qbl t e fun _ z => nomatch z) e, p.mono fun a r h => h.tups (qeH t g)⟩
theorem k_bb {K : PySem.W.Frag} : PySem.W.kitOne K (.type "bool") (.type "bool") = some true := by unfold PySem.W.kitOne; rw [if_pos (by decide)]
theorem pairedRev {α β : Type} {F : α → β → Prop} {l1 : List α} {l2 : List β} (h : Paired F l1 l2) : Paired F l1.reverse l2.reverse := by
  induction h with
  | nil => exact .nil
  | cons q t ih =>
    rw [List.reverse_cons, List.reverse_cons]
    exact ih.snoc q
theorem prws_inj {l l' : List Prw} (h : Good l) (h' : Good l') (e : l.map prwD = l'.map prwD) : l = l' := qcL (fun x hx y hy z => qd4 z (h x hx) (h' y hy)) e
def PapG (H : Hp) (p : Addr) (rs : List Prw) : Prop := qa1 PrwAt H p rs ∧ Good rs ∧ rs.length ≤ 950
theorem PapG.keep1 {st : Addr} {H H' : Hp} {p : Addr} {rs : List Prw} (h : PapG H p rs) (S : StOk H st) (k : Keep1 st H H') : PapG H' p rs := ⟨qbv S k h.1, h.2⟩
theorem PapG.put {H : Hp} {Pl L p : Addr} {ps : List Addr} {ys : List V} {rs : List Prw} {o : HO} (h : PapG H p rs) (e : H Pl = some (.lst ((L :: ps).map V.ref))) (hL : H L = some (.lst ys)) : PapG (upd H Pl o) p rs := by
  obtain ⟨⟨as, ea, pa⟩, g⟩ := h
  have n : p ≠ Pl := fun z => by
    rw [z, e] at ea
    have e2 : (L :: ps).map V.ref = as.map V.ref := HO.lst.inj (Option.some.inj ea)
    cases as with
    | nil => cases e2
    | cons a t =>
      have : V.ref L = V.ref a := (List.cons.inj e2).1
      cases this
      cases pa with
      | cons q _ =>
        obtain ⟨y, e3, _⟩ := q
        rw [hL] at e3
        cases e3
  exact ⟨⟨as, by rw [qai n]; exact ea, pa.mono fun a r h => h.tups (Tups.lst e)⟩, g⟩
section
variable {P : Program} {w : World} {K : PySem.W.Frag} {mg : Str → Option Value} {base : Heap}
theorem scLaw : FnScope ["_law_script", "_law_stream_here", "_law_other", "_law_long", "_law_book_here", "_law_rules_here", "_law_due", "_law_handed", "_law_third", "_law_papers", "_law_k", "_law_bent_here", "_law_j", "_law_paper_here", "_law_held", "_law_told_here"] ["_law_script"] (qag sLaw) := ⟨rfl, rfl, rfl, by decide +kernel, rfl, by decide +kernel, by decide +kernel⟩
theorem ok_law {f Pt : Addr} {fd : FuncData} (F : Fun K "law" "law" sLaw f fd) (T : BnD mg)
    (F_stream : Fx P w K mg base CX0 1 "_law_stream" ["_law_script", "_law_k"] (qcV K)) (F_take : Fx P w K mg base CX0 1 "_law_take" ["_law_stream_here", "_law_most"] spTake)
    (F_book : Fx P w K mg base CX0 11 "_law_book" ["_law_stream_here", "_law_many", "_law_room"] spBook) (F_rules : Fx P w K mg base CX0 3 "_law_rules" ["_law_stream_here", "_law_long"] spRules) (F_paper : Fx P w K mg base CX0 3 "_law_paper" ["_law_book_here", "_law_rules_here"] spPaperL)
    (F_winners : Fx P w K mg base CX0 6 "winners" ["book", "rules"] (qca Pt)) (F_winners_hold : Fx P w K mg base CX0 5 "winners_hold" ["book", "rules", "paper"] spHold) (F_bent : Fx P w K mg base CX0 4 "_law_bent" ["_law_stream_here", "_law_paper_here", "_law_many"] spBent) : FnOk P w K mg base CX0 12 f fd ["_law_script"] (qeB Pt K) := by
  refine F.ok scLaw (fun vs H Q E h => ?_) (fun cdv A outer s H vs Q E hr h => ?_)
  · obtain ⟨a, ns, rfl, _⟩ := h
    rfl
  · obtain ⟨a, ns, rfl, hS, h63, tb, q⟩ := h
    have hr_stream : Room 1 _ := hr.mono (by decide)
    have hr_take : Room 1 _ := hr.mono (by decide)
    have hr_rules : Room 3 _ := hr.mono (by decide)
    have hr_paper : Room 3 _ := hr.mono (by decide)
    have hr_winners : Room 6 _ := hr.mono (by decide)
    have hr_winners_hold : Room 5 _ := hr.mono (by decide)
    have hr_bent : Room 4 _ := hr.mono (by decide)
    have hr_book := hr
    have hu := hr.units
    refine ⟨_, (qad (qap (i := 1) scLaw.nd (by rfl) (by trivial) (qar F_stream hr_stream (by rfl) qaq (qaa (pv 0) (qaa qae pa_nil))))
      (qad (qap (i := 2) scLaw.nd (by rfl) (by trivial) (qar F_stream hr_stream (by rfl) qaq (qaa (pv 0) (qaa qae pa_nil))))
      (qad (qap (i := 3) scLaw.nd (by rfl) (by trivial) (qbk op_eq (qar F_take hr_take (by rfl) qaq (qaa (pv 2) (qaa qae pa_nil))) qae (qas _)))
      (qad (qap (i := 4) scLaw.nd (by rfl) (by trivial) (qar F_book hr_book (by rfl) qaq (qaa (pv 1) (qaa (qaw op_add qae (qar F_take hr_take (by rfl) qaq (qaa (pv 1) (qaa (qaj ix_list (qaA (qaa qae (qaa qae pa_nil))) (qaP call_int1 (by rfl) T.int b_int (qaa (pv 3) pa_nil)) (fun _ _ => rfl)) pa_nil)))) (qaa (qaj ix_list (qaA (qaa qae (qaa qae pa_nil))) (qaP call_int1 (by rfl) T.int b_int (qaa (pv 3) pa_nil)) (fun _ _ => rfl)) pa_nil)))))
      (qad (qap (i := 5) scLaw.nd (by rfl) (by trivial) (qar F_rules hr_rules (by rfl) qaq (qaa (pv 2) (qaa (pv 3) pa_nil))))
      (qad (qap (i := 6) scLaw.nd (by rfl) (by trivial) (qar F_paper hr_paper (by rfl) qaq (qaa (pv 4) (qaa (pv 5) pa_nil))))
      (qad (qap (i := 7) scLaw.nd (by rfl) (by trivial) (qaA (qaa (qaP call_list_of (by rfl) T.list b_list (qaa (pv 4) pa_nil)) (qaa (qa0 (own := ["_law_rank", "_law_kind", "_law_around", "_law_mark", "_law_sets"]) (by rfl) (CompScope.plain (by rfl) (by decide +kernel) (by decide +kernel) (by decide +kernel)) (qa2 (pv 5)) (fun cl C s2 H2 fp => (qcr K (n := 5) (by rfl) (by rfl) (qay (qan (i := 0) (by show (["_law_rank", "_law_kind", "_law_around", "_law_mark", "_law_sets"] : List Str).Nodup; decide +kernel) (by rfl) (by trivial) (by trivial)) (qay (qan (i := 1) (by show (["_law_rank", "_law_kind", "_law_around", "_law_mark", "_law_sets"] : List Str).Nodup; decide +kernel) (by rfl) (by trivial) (by trivial)) (qay (qan (i := 2) (by show (["_law_rank", "_law_kind", "_law_around", "_law_mark", "_law_sets"] : List Str).Nodup; decide +kernel) (by rfl) (by trivial) (by trivial)) (qay (qan (i := 3) (by show (["_law_rank", "_law_kind", "_law_around", "_law_mark", "_law_sets"] : List Str).Nodup; decide +kernel) (by rfl) (by trivial) (by trivial)) (qay (qan (i := 4) (by show (["_law_rank", "_law_kind", "_law_around", "_law_mark", "_law_sets"] : List Str).Nodup; decide +kernel) (by rfl) (by trivial) (by trivial)) pgs_nil))))))) (fun cl C s2 H2 fp => qa6) (fun cl C s2 H2 fp => (qaC (qaa (pv 0) (qaa (pv 1) (qaa (pv 2) (qaa (pv 3) (qaa (qaP (call_listK K (by rfl)) (by rfl) T.list b_list (qaa (pv 4) pa_nil)) pa_nil)))))))) pa_nil))))
      (qad (qaK (qct (pc_notT (qar F_winners_hold hr_winners_hold (by rfl) qaq (qaa (qaj ix_list (pv 7) qae (fun _ _ => rfl)) (qaa (qaj ix_list (pv 7) qae (fun _ _ => rfl)) (qaa (qar F_winners hr_winners (by rfl) qaq (qaa (pv 4) (qaa (pv 5) pa_nil))) pa_nil)))))) (qaf (qau qbT)) pss_nil)
      (qad (qap (i := 8) scLaw.nd (by rfl) (by trivial) (qar F_stream hr_stream (by rfl) qaq (qaa (pv 0) (qaa qae pa_nil))))
      (qad (qap (i := 9) scLaw.nd (by rfl) (by trivial) (qaA (qaa (pv 6) (qaa (qaA pa_nil) (qaa (qaR sl_list (pv 6) po_none (qaW (qaw op_mul qae (qar F_take hr_take (by rfl) qaq (qaa (pv 8) (qaa (qaw op_add (qaB call_len_seq (by rfl) T.len b_len (qaa (pv 4) pa_nil)) qae) pa_nil)))))) (qaa (qar F_paper hr_paper (by rfl) qaq (qaa (pv 4) (qaa (pe_revS (pv 5) (qaW (qcu un_neg qae))) pa_nil))) (qaa (qaw op_cat (pv 6) (qaR sl_list (pv 6) po_none (qaW qae))) pa_nil)))))))
      (qad (qa4 PassesOwn.never (by rfl) (qaD (by rfl) T.range (qaa qae pa_nil)) (qan (i := 10) scLaw.nd (by rfl) (by trivial))
      (qad (qap (i := 11) scLaw.nd (by rfl) (by trivial) (pv 6))
      (qad (qa4 PassesOwn.never (by rfl) (qaD (by rfl) T.range (qaa (qaw op_add qae (qar F_take hr_take (by rfl) qaq (qaa (pv 8) (qaa qae pa_nil)))) pa_nil)) (qan (i := 12) scLaw.nd (by rfl) (by trivial))
      (qaf (qap (i := 11) scLaw.nd (by rfl) (by trivial) (qar F_bent hr_bent (by rfl) qaq (qaa (pv 8) (qaa (pv 11) (qaa (qaB call_len_seq (by rfl) T.len b_len (qaa (pv 5) pa_nil)) pa_nil)))))))
      (qaf (qaN (qbI PySem.F.plainAttrs_list PySem.F.slot_list_append PySem.F.type_list_append mt_append (pv 9) (qaa (pv 11) pa_nil)))))))
      (qad (qa4 PassesOwn.never (by rfl) (qa2 (pv 9)) (qan (i := 13) scLaw.nd (by rfl) (by trivial))
      (qad (qap (i := 14) scLaw.nd (by rfl) (by trivial) (qaP call_list_of (by rfl) T.list b_list (qaa (pv 13) pa_nil)))
      (qad (qap (i := 15) scLaw.nd (by rfl) (by trivial) (qar F_winners_hold hr_winners_hold (by rfl) qaq (qaa (qaj ix_list (pv 7) qae (fun _ _ => rfl)) (qaa (qaj ix_list (pv 7) qae (fun _ _ => rfl)) (qaa (pv 13) pa_nil)))))
      (qaf (qaK (PW.pt (qcw (qeP (qcJ (pe_isi T.isinstance (by rfl) T.bool (by rfl) b_bool (pv 15)))) (qcw (qal op_ne (pv 15) (qbk (qdV hu) (pv 13) (pv 6) (qas _)) (qas _)) (qbX (qal (qea hu) (pv 13) (pv 14) (qas _)))))) (qaf (qau qbT)) pss_nil)))))
      (qaf (qau (qbk (qdV hu) (pv 7) (qaA (qaa (pv 4) (qaa (pv 5) pa_nil))) (qas _)))))))))))))))), ?_⟩
    try dsimp only [cxOf, Cx.nox]
    refine seq_cut fun C0 hC0 => ?_
    refine ⟨_, rfl, a, ns, 0, rfl, hS, by decide, by decide, fun st H1 hst S1 s1 => ?_⟩
    have tb1 := TabOk.same tb s1
    subst hC0
    try dsimp only [qaS, tNext]
    refine seq_cut fun C1 hC1 => ?_
    refine ⟨_, rfl, a, ns, 1, rfl, SqL.keepT hS fun o _ e => s1 _ _ e, by decide, by decide, fun st2 H2 hst2 S2 s2 => ?_⟩
    have n12 : st ≠ st2 := qah S1.some hst2 |>.symm
    have tb2 := TabOk.same tb1 s2
    subst hC1
    try dsimp only [qaS, tNext]
    refine seq_cut fun C2 hC2 => ?_
    refine ⟨_, rfl, st2, 8, rfl, S2, by decide, by decide, fun r8 H3 r80 r81 S3 K3 => ⟨rfl, ?_⟩⟩
    have tb3 := TabOk.keep1 S2 tb2 K3
    have S13 : StOk H3 st := by
      obtain ⟨x, y, e, z⟩ := S1.same s2
      exact ⟨x, y, K3 _ _ n12 e, z⟩
    have na2 : ∀ o, H a = some o → a ≠ st2 := fun o e => qao (s1 _ _ e) hst2
    have ka3 : ∀ o, H a = some o → H3 a = some o := fun o e => K3 _ _ (na2 o e) (s2 _ _ (s1 _ _ e))
    generalize decide (V.int r8 = V.int 1) = lg
    clear K3 S1 S2 s1 s2 tb1 tb2
    have f41 : ∀ b : Bool, atI [V.int 4, V.int 1] (if b = true then 1 else 0) = some (.int (if b = true then 1 else 4)) := fun b => by cases b <;> rfl
    have f12 : ∀ b : Bool, atI [V.int 12, V.int 4] (if b = true then 1 else 0) = some (.int (if b = true then 4 else 12)) := fun b => by cases b <;> rfl
    subst hC2
    try dsimp only [qaS, tNext]
    refine seq_cut fun C3 hC3 => ?_
    refine ⟨_, rfl, _, rfl, by show 2 ≤ sizeLine; decide, fun t4 ht4 => ?_⟩
    have s4 := qac ht4 (.lst [V.int 4, V.int 1])
    refine ⟨_, rfl, .inr ⟨lg, rfl, t4, _, _, _, rfl, rfl, SqL.of qab, f41 lg, st, _, rfl, S13.same s4, by split <;> decide, by split <;> decide, fun r H5 r0 r1 S5 K5 => ?_⟩⟩
    have r4 : r < 4 := by revert r1; split <;> omega
    have K35 : Keep1 st H3 H5 := s4.keep.trans K5
    have tb5 := TabOk.keep1 S13 tb3 K35
    have S25 : StOk H5 st2 := by
      obtain ⟨x, y, e, z⟩ := S3
      exact ⟨x, y, K35 _ _ (Ne.symm n12) e, z⟩
    have ka5 : ∀ o, H a = some o → H5 a = some o := fun o e => K35 _ _ (qao e hst) (ka3 o e)
    clear K35 K5 s4 S13 S3 tb3
    refine ⟨_, _, rfl, rfl, by show 2 ≤ sizeLine; decide, fun t5 ht5 => ?_⟩
    have s5 := qac ht5 (.lst [V.int 12, V.int 4])
    have ht5' := qab (H := H5) (a := t5) (o := .lst [V.int 12, V.int 4])
    have S5' := S5.same s5
    have S25' := S25.same s5
    have tb5' := TabOk.same tb5 s5
    generalize upd H5 t5 (.lst [V.int 12, V.int 4]) = H5' at s5 ht5' S5' S25' tb5' ⊢
    obtain ⟨m, em⟩ : ∃ m : Nat, (1 : Int) + r = m := ⟨(1 + r).toNat, by omega⟩
    obtain ⟨R, eR, R1, R12⟩ : ∃ R : Nat, (if lg = true then (4 : Int) else 12) = R ∧ 1 ≤ R ∧ R ≤ 12 := by
      cases lg
      · exact ⟨12, rfl, by decide, by decide⟩
      · exact ⟨4, rfl, by decide, by decide⟩
    refine ⟨_, rfl, .inr ⟨lg, rfl, t5, _, _, _, rfl, rfl, SqL.of ht5', f12 lg, st, m, R, by show [V.ref st, V.int (1 + r), V.int (if lg = true then 4 else 12)] = _; rw [em, eR], S5', by omega, by omega, R1, R12, fun p ds H6 bk le hp0 B6 S6 K6 => ?_⟩⟩
    have S26 : StOk H6 st2 := by
      obtain ⟨x, y, e, z⟩ := S25'
      exact ⟨x, y, K6 _ _ (Ne.symm n12) e, z⟩
    have tb6 := TabOk.keep1 S5' tb5' K6
    subst hC3
    try dsimp only [qaS, tNext]
    refine seq_cut fun C4 hC4 => ?_
    refine ⟨_, rfl, _, rfl, st2, lg, rfl, S26, fun R' xs H7 xok xle hR7 S7 K7 => ?_⟩
    have tb7 := TabOk.keep1 S26 tb6 K7
    have B7 : qaY (fun b => b ≠ Pt) H7 p ds := by
      obtain ⟨as, e, nd⟩ := B6
      have np : p ≠ st2 := qah S25'.some hp0
      refine ⟨as, K7 _ _ np e, (nd.keep (N' := fun b => b ≠ st2 ∧ b ≠ Pt) KeepN.refl fun b hb _ => ⟨qah S25'.some hb, fun z => ?_⟩).keep (fun b o n e => K7 b o n.1 e) fun b n _ => n.2⟩
      obtain ⟨ps, e', _⟩ := tb5'
      rw [z] at hb
      unfold qeu at hb
      rw [hb] at e'
      cases e'
    have ka7 : ∀ o, H a = some o → H7 a = some o := fun o e => K7 _ _ (na2 o e) (K6 _ _ (qao e hst) (s5 _ _ (ka5 o e)))
    clear B6 S5 S25 S5' S25' S26 tb5 tb5' tb6 K6 K7 s5 ht5' S6 S7 hp0
    subst hC4
    try dsimp only [qaS, tNext]
    refine seq_cut fun C5 hC5 => ?_
    refine ⟨_, rfl, _, rfl, p, R', ds, xs, _, rfl, B7, by omega, bk.lev, qch bk, hR7, xle, fun L rows H8 s8 hL lst8 len8 pap8 => ?_⟩
    obtain ⟨ab, hp7, nd7⟩ := id B7
    subst hC5
    try dsimp only [qaS, tNext]
    refine seq_cut fun C6 hC6 => ?_
    refine ⟨_, rfl, p, _, rfl, .inl (SqL.of (s8 _ _ hp7)), fun p' hp' => ?_⟩
    have s9 := qac hp' (.lst (ab.map V.ref))
    have hp9 := qab (H := H8) (a := p') (o := .lst (ab.map V.ref))
    generalize upd H8 p' (.lst (ab.map V.ref)) = H9 at s9 hp9 ⊢
    have s79 := s8.trans s9
    have Bp9 : qaY (fun b => b ≠ Pt) H9 p' ds := ⟨ab, hp9, nd7.keep s79.keep fun _ n _ => n⟩
    obtain ⟨rs, hR9, pr9⟩ := qaL s79 hR7
    have lr : (rs.map V.ref).length = xs.length := by rw [List.length_map, Paired.length pr9]
    refine ⟨_, rfl, R', rfl, ⟨_, SqL.of hR9⟩, qaO (xs := rs.map V.ref) (fun i ys σ' H' => Same H9 H' ∧ (∃ rs' : List Addr, ys = rs'.map V.ref ∧ Paired (RlAt (fun _ => True) H') rs' (xs.take i)) ∧ ∃ z0 z1 z2 z3 z4, σ' = [z0, z1, z2, z3, z4]) (by rw [lr]; exact qak (by omega)) ⟨Same.refl _, ⟨[], rfl, .nil⟩, none, none, none, none, none, rfl⟩ ?_ ?_ ?_⟩
    · rintro i ys σ' H' hi ⟨s, ⟨rs', rfl, pp⟩, _⟩
      refine ⟨SqL.of (s _ _ hR9), ?_⟩
      rw [List.length_map, Paired.length pp, List.length_take]
      exact Nat.min_le_left _ _
    · rintro i y ys σ' H' hy ⟨s, ⟨rs', rfl, pp⟩, z0, z1, z2, z3, z4, rfl⟩
      obtain ⟨r, er, rfl⟩ := qbH hy
      obtain ⟨x, ex, rx⟩ := qa8 pr9 er
      obtain ⟨_, sa, sv, hr', _, hs', ps⟩ := rx.keep s.keep fun _ n _ => n
      refine ⟨r, _, rfl, SqT.of hr', rfl, _, _, rfl, _, _, rfl, _, _, rfl, _, _, rfl, _, _, rfl, rfl, ?_⟩
      refine ⟨_, rfl, _, rfl, _, rfl, _, rfl, _, rfl, sa, _, rfl, .inl (SqL.of hs'), fun l hl => ⟨by show 5 ≤ sizeLine; decide, fun t ht => ?_⟩⟩
      have s10 := qac hl (.lst sv)
      have s11 := qac ht (.tup [.int x.rank, .str x.k, .str x.wi, .str x.mrk, .ref l])
      have s12 := s10.trans s11
      refine ⟨s.trans s12, ⟨rs' ++ [t], by rw [List.map_append]; rfl, ?_⟩, _, _, _, _, _, rfl⟩
      rw [List.take_succ, ex]
      show Paired _ (rs' ++ [t]) (xs.take i ++ [x])
      exact (pp.mono fun a b h => h.keep s12.keep fun _ n _ => n).snoc ⟨trivial, l, sv, qab, trivial, s11 _ _ qab, ps.mono fun v y q => q.keep s12.keep fun _ _ _ => trivial⟩
    rintro ys σ' H10 ⟨s10, ⟨rs', rfl, pp⟩, _⟩ D hD
    rw [lr, List.take_length] at pp
    have sD := qac hD (.lst (rs'.map V.ref))
    have hDD := qab (H := H10) (a := D) (o := .lst (rs'.map V.ref))
    have RdD : qbp (upd H10 D (.lst (rs'.map V.ref))) D xs := ⟨rs', hDD, pp.mono fun a b h => h.keep sD.keep fun _ n _ => n⟩
    generalize upd H10 D (.lst (rs'.map V.ref)) = H10' at sD hDD RdD ⊢
    refine ⟨by show 2 ≤ sizeLine; decide, fun hd hhd => ?_⟩
    have s11 := qac hhd (.lst [.ref p', .ref D])
    have e11 := qab (H := H10') (a := hd) (o := .lst [.ref p', .ref D])
    generalize upd H10' hd (.lst [.ref p', .ref D]) = H11 at s11 e11 ⊢
    have s911 : Same H9 H11 := s10.trans (sD.trans s11)
    have s811 := s9.trans s911
    have s711 := s8.trans s811
    have tb11 := TabOk.same tb7 s711
    have Bp := qaE B7 s711
    have Bp' := qaE Bp9 s911
    have Rr := qaL s711 hR7
    have Rd := qaL s11 RdD
    have Ld : qa1 PrwAt H11 L rows := by
      obtain ⟨as, e, pa⟩ := lst8
      exact ⟨as, s811 _ _ e, pa.mono fun a r h => h.same s811⟩
    have sok : ∀ x ∈ xs, qcA x := fun x hx => ⟨(xok x hx).nd, Nat.le_trans (xok x hx).le (by decide)⟩
    have ka11 : ∀ o, H a = some o → H11 a = some o := fun o e => s711 _ _ (ka7 o e)
    clear RdD hDD sD pp s10 hD hhd s11 s911 s811 s711 pr9 hR9 Bp9 s79 s9 hp9 hp' nd7 hp7 lst8 hL s8 B7 hR7 tb7
    have good : Good rows := fun r hr => by
      obtain ⟨m, hm, e⟩ := List.mem_iff_getElem.mp hr
      exact pap8.lt (by rw [List.getElem?_eq_getElem hm, e])
    have dl : 1 ≤ ds.length := bk_pos bk
    subst hC6
    try dsimp only [qaS, tNext]
    refine seq_cut fun C7 hC7 => ?_
    refine ⟨_, rfl, hd, _, _, _, rfl, rfl, SqL.of e11, rfl, _, rfl, hd, _, _, _, rfl, rfl, SqL.of e11, rfl, _, rfl, _, rfl, p, R', ds, xs, rfl, Bp, by omega, bk.lev, qch bk, Rr, xle, sok, tb11, fun Lf rows' H12 g12 tb12 hLf lst12 len12 pap12 => ?_⟩
    obtain rfl := pap8.uniq pap12 (by rw [len8, len12])
    refine ⟨p', D, Lf, ds, xs, rows, rfl, qcT (qcs ⟨_, _, tb11⟩ g12 Bp'), by omega, bk.lev, qch bk, qdl (fun b o z e => g12 b o (qbl tb11 e z) e) Rd, xle, sok, lst12, by omega, good, fun b H13 s13 iff => ?_⟩
    obtain rfl : b = true := iff.mpr ⟨len12, pap12⟩
    refine ⟨true, rfl, _, rfl, iteF ?_⟩
    have g13 := g12.trans (GSame.of s13)
    have e13 : H13 hd = _ := g13 _ _ (qbl tb11 e11 fun _ z => nomatch z) e11
    have Bp13 := qcT (qcs ⟨_, _, tb11⟩ g13 Bp)
    have Bq13 := qcT (qcs ⟨_, _, tb11⟩ g13 Bp')
    have Rr13 : qbp H13 R' xs := qdl (fun b o z e => g13 b o (qbl tb11 e z) e) Rr
    have Rd13 : qbp H13 D xs := qdl (fun b o z e => g13 b o (qbl tb11 e z) e) Rd
    have Ld13 : qa1 PrwAt H13 L rows := lst_g tb11 g13 Ld
    have hS13 : SqL K H13 a (ns.map V.int) := SqL.keepT hS fun o n e => g13 _ _ (qbl tb11 (ka11 o e) n) (ka11 o e)
    clear g12 s13 lst12 tb12 g13 e11 Bp Bp' Rr Rd Ld ka11 ka7 ka5 ka3 tb11 iff hLf pap12
    subst hC7
    try dsimp only [qaS, tNext]
    refine seq_cut fun C8 hC8 => ?_
    refine ⟨_, rfl, a, ns, 2, rfl, hS13, by decide, by decide, fun st3 H14 hst3 S14 s14 => ?_⟩
    have stepK : ∀ {Hx Hy : Hp}, Same H13 Hx → Keep1 st3 Hx Hy → Same H13 Hy := fun s k b o e => k _ _ (qao e hst3) (s _ _ e)
    subst hC8
    try dsimp only [qaS, tNext]
    refine seq_cut fun C9 hC9 => ?_
    refine ⟨_, rfl, by show 0 ≤ sizeLine; decide, fun E0 hE0 => ?_⟩
    have s15 := qac hE0 (.lst [])
    have pE0 : qa1 PrwAt (upd H14 E0 (.lst [])) E0 [] := ⟨[], qab, .nil⟩
    have S15 := S14.same s15
    have b15 := s14.trans s15
    generalize upd H14 E0 (.lst []) = H15 at s15 pE0 S15 b15 ⊢
    clear s14 S14 s15 hE0
    obtain ⟨ab, hp15, nd15⟩ := qaE Bp13 b15
    have lab : (ab.map V.ref).length = ds.length := by rw [List.length_map, nd15.length]
    refine ⟨_, rfl, _, rfl, _, rfl, p, _, rfl, .inl (SqL.of hp15), _, _, rfl, rfl, st3, _, rfl, S15, by omega, by omega, fun r16 H16 r160 r161 S16 K16 => ?_⟩
    have b16 := stepK b15 K16
    have pE0' := qbv S15 K16 pE0
    clear K16 S15 b15 pE0 hp15 nd15
    obtain ⟨k, rfl⟩ : ∃ k : Nat, r16 = k := ⟨r16.toNat, by omega⟩
    obtain ⟨as, eL16, pa16⟩ := qaM b16 Ld13
    have las : as.length = 13 * ds.length := by rw [Paired.length pa16, len8]
    refine ⟨_, _, rfl, rfl, .inl ⟨by decide, by decide⟩, _, rfl, L, _, rfl, SqL.of eL16, fun E1 hE1 => ?_⟩
    rw [show (13 : Int) * (k : Int) = ((13 * k : Nat) : Int) by omega, Br.cut_pre (as := as) (i := 13 * k) (by omega)]
    have s17 := qac hE1 (.lst ((as.take (13 * k)).map V.ref))
    have pE1 : qa1 PrwAt (upd H16 E1 (.lst ((as.take (13 * k)).map V.ref))) E1 (rows.take (13 * k)) := ⟨_, qab, Br.pairedTake (pa16.mono fun a r h => h.same s17) _⟩
    have b17 := b16.trans s17
    have S17 := S16.same s17
    have pE0'' := qaM s17 pE0'
    generalize upd H16 E1 (.lst ((as.take (13 * k)).map V.ref)) = H17 at s17 pE1 b17 S17 pE0'' ⊢
    clear s17 hE1 pE0' b16 S16 eL16 pa16 las as
    obtain ⟨rs, hR17, pr17⟩ := qaL b17 Rr13
    refine ⟨_, rfl, _, rfl, _, rfl, _, rfl, rfl, R', _, rfl, SqL.of hR17, fun Rv hRv => ?_⟩
    have s18 := qac hRv (.lst (rs.map V.ref).reverse)
    have Rv18 : qbp (upd H17 Rv (.lst (rs.map V.ref).reverse)) Rv xs.reverse := ⟨rs.reverse, by rw [qab, List.map_reverse], pairedRev (pr17.mono fun a b h => h.keep s18.keep fun _ n _ => n)⟩
    have b18 := b17.trans s18
    refine ⟨p, Rv, ds, xs.reverse, _, rfl, qaE Bp13 b18, by omega, bk.lev, qch bk, Rv18, by rw [List.length_reverse]; exact xle, fun L4 rows4 H19 s19 hL4 lst4 len4 pap4 => ?_⟩
    have good4 : Good rows4 := fun r hr => by
      obtain ⟨m, hm, e⟩ := List.mem_iff_getElem.mp hr
      exact pap4.lt (by rw [List.getElem?_eq_getElem hm, e])
    have s1719 := s18.trans s19
    have b19 := b17.trans s1719
    have S19 := S17.same s1719
    have pE0 := qaM s1719 pE0''
    have pE1' := qaM s1719 pE1
    clear s18 s19 hRv Rv18 b18 pr17 hR17 S17 b17 pE0'' pE1 s1719 hL4 pap4
    obtain ⟨as, eL19, pa19⟩ := qaM b19 Ld13
    have las : as.length = 13 * ds.length := by rw [Paired.length pa19, len8]
    refine ⟨_, rfl, _, rfl, _, rfl, L, _, rfl, SqL.of eL19, fun E2 hE2 => ?_⟩
    rw [show cutV (as.map V.ref) none (some 1) = (as.take 1).map V.ref from Br.cut_pre (as := as) (i := 1) (by omega)]
    have s20 := qac hE2 (.lst ((as.take 1).map V.ref))
    have e20 := qab (H := H19) (a := E2) (o := .lst ((as.take 1).map V.ref))
    generalize upd H19 E2 (.lst ((as.take 1).map V.ref)) = H20 at s20 e20 ⊢
    refine ⟨L, E2, _, _, rfl, rfl, s20 _ _ eL19, e20, Nat.le_of_lt (qak (by rw [List.length_map, List.length_map, List.length_take]; omega)), fun E3 hE3 => ?_⟩
    have s21 := s20.trans (qac hE3 (.lst (as.map V.ref ++ (as.take 1).map V.ref)))
    have pE3 : qa1 PrwAt (upd H20 E3 (.lst (as.map V.ref ++ (as.take 1).map V.ref))) E3 (rows ++ rows.take 1) := ⟨as ++ as.take 1, by rw [qab, List.map_append], qa3 (pa19.mono fun a r h => h.same s21) (Br.pairedTake (pa19.mono fun a r h => h.same s21) 1)⟩
    generalize upd H20 E3 (.lst (as.map V.ref ++ (as.take 1).map V.ref)) = H21 at s21 pE3 ⊢
    have b21 := b19.trans s21
    refine ⟨by show 5 ≤ sizeLine; decide, fun Pl hPl => ?_⟩
    have hPl13 : H13 Pl = none := b21.free hPl
    have s22 := qac hPl (.lst [.ref L, .ref E0, .ref E1, .ref L4, .ref E3])
    have ePl : upd H21 Pl (.lst [.ref L, .ref E0, .ref E1, .ref L4, .ref E3]) Pl = some (.lst ((L :: [E0, E1, L4, E3]).map V.ref)) := qab
    have s1922 := s21.trans s22
    have b22 := b21.trans s22
    have S22 := S19.same s1922
    have pap : Paired (PapG (upd H21 Pl (.lst [.ref L, .ref E0, .ref E1, .ref L4, .ref E3]))) [E0, E1, L4, E3] [[], rows.take (13 * k), rows4, rows ++ rows.take 1] := by
      refine .cons ⟨qaM s1922 pE0, (fun r hr => by cases hr), Nat.zero_le _⟩ (.cons ⟨qaM s1922 pE1', good.sub fun r hr => List.mem_of_mem_take hr, ?_⟩ (.cons ⟨qaM s1922 lst4, good4, by omega⟩ (.cons ⟨qaM s22 pE3, good.app (good.sub fun r hr => List.mem_of_mem_take hr), ?_⟩ .nil)))
      · rw [List.length_take]; omega
      · rw [List.length_append, List.length_take]; omega
    generalize upd H21 Pl (.lst [.ref L, .ref E0, .ref E1, .ref L4, .ref E3]) = H22 at s22 ePl s1922 b22 S22 pap ⊢
    clear s22 s1922 b21 hPl s21 pE3 hE3 e20 s20 hE2 las pa19 eL19 as pE1' pE0 S19 b19 lst4 len4 good4
    subst hC9
    try dsimp only [qaS, tNext]
    refine seq_cut fun C10 hC10 => ?_
    refine ⟨_, rfl, by decide, by decide, qaI (fun i σ H' => (∃ v10 v11 v12 v13 v14 v15, σ = [some (.ref a), some (.ref st), some (.ref st2), some (.bl lg), some (.ref p), some (.ref R'), some (.ref L), some (.ref hd), some (.ref st3), some (.ref Pl), v10, v11, v12, v13, v14, v15]) ∧ StOk H' st3 ∧ Same H13 H' ∧ ∃ ps rss, H' Pl = some (.lst ((L :: ps).map V.ref)) ∧ ps.length ≤ 4 + i ∧ Paired (PapG H') ps rss) ⟨⟨none, none, none, none, none, none, rfl⟩, S22, b22, _, _, ePl, Nat.le_refl _, pap⟩ ?_ ?_⟩
    · rintro i σ H23 hi ⟨⟨v10, v11, v12, v13, v14, v15, rfl⟩, S23, b23, ps, rss, ePl23, lps, pap23⟩
      have hi6 : i < 6 := by simpa using hi
      refine ⟨_, rfl, _, rfl, st3, 3, rfl, S23, by decide, by decide, fun r24 H24 r240 r241 S24 K24 => ?_⟩
      have b24 := stepK b23 K24
      have ePl24 := K24 _ _ (Br.ref_ne_st ePl23 S23) ePl23
      have pap24 : Paired (PapG H24) ps rss := pap23.mono fun p r h => h.keep1 S23 K24
      refine ⟨_, _, rfl, rfl, _, rfl, by omega, by omega, qaI (fun j σ H' => (∃ v10 v12 v13 v14 v15 bp rs, σ = [some (.ref a), some (.ref st), some (.ref st2), some (.bl lg), some (.ref p), some (.ref R'), some (.ref L), some (.ref hd), some (.ref st3), some (.ref Pl), v10, some (.ref bp), v12, v13, v14, v15] ∧ qa1 PrwAt H' bp rs ∧ Good rs ∧ 13 * ds.length ≤ rs.length + j ∧ rs.length ≤ 13 * ds.length + j) ∧ StOk H' st3 ∧ Same H13 H' ∧ H' Pl = some (.lst ((L :: ps).map V.ref)) ∧ Paired (PapG H') ps rss) ⟨⟨_, _, _, _, _, L, rows, rfl, qaM b24 Ld13, good, by omega, by omega⟩, S24, b24, ePl24, pap24⟩ ?_ ?_⟩
      · rintro j σ H25 hj ⟨⟨w10, w12, w13, w14, w15, bp, rs, rfl, lst25, good25, lo25, hi25⟩, S25, b25, ePl25, pap25⟩
        have hj3 : j < 3 := by omega
        obtain ⟨rr, hR25, pr25⟩ := qaL b25 Rr13
        have lrr : (rr.map V.ref).length = xs.length := by rw [List.length_map, Paired.length pr25]
        refine ⟨_, rfl, _, rfl, _, rfl, R', _, rfl, .inl (SqL.of hR25), st3, bp, rs, _, rfl, S25, lst25, by omega, by omega, good25, by omega, by omega, fun L' rs' H26 S26 K26 lst26 good26 c1 c2 => ?_⟩
        exact ⟨⟨_, _, _, _, _, L', rs', rfl, lst26, good26, by omega, by omega⟩, S26, stepK b25 K26, K26 _ _ (Br.ref_ne_st ePl25 S25) ePl25, pap25.mono fun p r h => h.keep1 S25 K26⟩
      · rintro σ H25 ⟨⟨w10, w12, w13, w14, w15, bp, rs, rfl, lst25, good25, lo25, hi25⟩, S25, b25, ePl25, pap25⟩
        have b3 : (1 + r24 : Int).toNat ≤ 3 := by omega
        refine ⟨_, rfl, .inl ⟨rfl, _, SqL.of ePl25⟩, _, rfl, Pl, _, _, rfl, rfl, ePl25, qak (by rw [List.length_map, List.length_cons]; omega), ⟨_, _, _, _, _, _, rfl⟩, ?_, fun b o e => ?_, ps ++ [bp], rss ++ [rs], ?_, ?_, ?_⟩
        · obtain ⟨x, y, e, z⟩ := S25
          exact ⟨x, y, by rw [qai (Ne.symm (Br.ref_ne_st ePl25 ⟨x, y, e, z⟩))]; exact e, z⟩
        · rw [qai (qao e hPl13)]
          exact b25 _ _ e
        · rw [qab, ← List.cons_append, List.map_append]
          rfl
        · rw [List.length_append]
          show ps.length + 1 ≤ 4 + (i + 1)
          omega
        · obtain ⟨asL, eL25, _⟩ := qaM b25 Ld13
          exact (pap25.mono fun p r h => h.put ePl25 eL25).snoc (PapG.put ⟨lst25, good25, by omega⟩ ePl25 eL25)
    · rintro σ H30 ⟨⟨v10, v11, v12, v13, v14, v15, rfl⟩, S30, b30, ps, rss, ePl30, lps, pap30⟩
      have all30 : Paired (PapG H30) (L :: ps) (rows :: rss) := .cons ⟨qaM b30 Ld13, good, by omega⟩ pap30
      subst hC10
      try dsimp only [qaS, tNext]
      refine seq_cut fun C11 hC11 => ?_
      refine ⟨_, rfl, Pl, rfl, ⟨_, SqL.of ePl30⟩, qdU (xs := (L :: ps).map V.ref) (fun i σ H' => (∃ v10 v11 v12 v13 v14 v15, σ = [some (.ref a), some (.ref st), some (.ref st2), some (.bl lg), some (.ref p), some (.ref R'), some (.ref L), some (.ref hd), some (.ref st3), some (.ref Pl), v10, v11, v12, v13, v14, v15]) ∧ Same H30 H') ⟨⟨_, _, _, _, _, _, rfl⟩, Same.refl _⟩ ?_ ?_ ?_⟩
      · rintro i σ H' hi ⟨_, s⟩
        exact SqL.of (s _ _ ePl30)
      · rintro i y σ H31 hy ⟨⟨w10, w11, w12, w13, w14, w15, rfl⟩, s31⟩
        obtain ⟨pp, ep, rfl⟩ := qbH hy
        obtain ⟨rs, ers, lst30, good30, le30⟩ := qa8 all30 ep
        obtain ⟨cs, epp, pc⟩ := qaM s31 lst30
        refine ⟨_, rfl, pp, _, rfl, .inl (SqL.of epp), fun Hd hHd => ?_⟩
        have s32 := qac hHd (.lst (cs.map V.ref))
        have lstH : qa1 PrwAt (upd H31 Hd (.lst (cs.map V.ref))) Hd rs := ⟨cs, qab, pc.mono fun a r h => h.same s32⟩
        generalize upd H31 Hd (.lst (cs.map V.ref)) = H32 at s32 lstH ⊢
        have s3032 := s31.trans s32
        have b32 := b30.trans s3032
        have e32 := b32 _ _ e13
        refine ⟨_, rfl, hd, _, _, _, rfl, rfl, SqL.of e32, rfl, _, rfl, hd, _, _, _, rfl, rfl, SqL.of e32, rfl, _, rfl, p', D, pp, ds, xs, rs, rfl, qaE Bq13 b32, by omega, bk.lev, qch bk, qaL b32 Rd13, xle, sok, qaM s3032 lst30, le30, good30, fun b H33 s33 iff => ?_⟩
        have s3033 := s3032.trans s33
        refine ⟨_, rfl, _, _, _, _, rfl, .bl _, ⟨_, fun u r => r, k_bb⟩, _, rfl, iteF ?_⟩
        have lst33 := qaM s3033 lst30
        have due33 := qaM (b32.trans s33) Ld13
        have held33 := qaM s33 lstH
        refine ⟨_, rfl, _, rfl, _, rfl, _, _, qcK lst33, qcK due33, qcE good30, qcE good, fun e => ⟨rfl, _, rfl, ?_⟩, fun ne => ⟨rfl, _, rfl, ?_⟩⟩
        · have er : rs = rows := prws_inj good30 good (by injection e)
          obtain rfl : b = true := iff.mpr (by rw [er]; exact ⟨len8, pap8⟩)
          refine qer (by first | rfl | decide) ?_
          exact ⟨_, rfl, _, rfl, _, _, qcK lst33, qcK held33, qcE good30, qcE good30, fun _ => ⟨_, rfl, iteF ⟨⟨_, _, _, _, _, _, rfl⟩, s3033⟩⟩, fun z => absurd rfl z⟩
        · obtain rfl : b = false := by
            cases b with
            | false => rfl
            | true =>
              have h := iff.mp rfl
              refine absurd ?_ ne
              rw [h.2.uniq pap8 (by rw [h.1, len8])]
          refine qer (by first | rfl | decide) ?_
          exact ⟨_, rfl, _, rfl, _, _, qcK lst33, qcK held33, qcE good30, qcE good30, fun _ => ⟨_, rfl, iteF ⟨⟨_, _, _, _, _, _, rfl⟩, s3033⟩⟩, fun z => absurd rfl z⟩
      · rintro σ H31 ⟨⟨w10, w11, w12, w13, w14, w15, rfl⟩, s31⟩
        have b31 := b30.trans s31
        subst hC11
        try dsimp only [qaS, tNext]
        refine ⟨_, rfl, _, rfl, _, rfl, by show 2 ≤ sizeLine; decide, fun l2 hl2 => ?_⟩
        have s32 := qac hl2 (.lst [.ref p, .ref R'])
        have b32 := b31.trans s32
        exact ⟨_, _, qez (b32 _ _ e13) (qaE Bq13 b32) (qaL b32 Rd13), qez qab (qaE Bp13 b32) (qaL b32 Rr13), qeq bk.form xok, qeq bk.form xok, fun _ => q _, fun z => absurd rfl z⟩
end
end K14
namespace K14
open PySem L2 Bk Gen Gd Bd Fc
theorem qeQ {K : PySem.W.Frag} {a : Addr} {od : Option Addr} {its : Array Value} {n : Nat} {sl : Array (Option Value)} {H : Hp} {vs : List V} (l : K.lookup a = some ⟨.type "tuple", od, .seq its n, sl⟩) (z : its.size ≤ sizeLine) (v : Vals vs its.toList) : SqT K H a vs :=
  .inr ⟨_, its, n, l, rfl, rfl, z, v⟩
inductive DRows (w : World) : List DictEntry → List (Key × Value) → Prop
  | nil : DRows w [] []
  | cons {x : Str} {t : Tok} {v : Value} {es : List DictEntry} {kvs : List (Key × Value)} (h : DRows w es kvs) : DRows w (⟨PyData.keyHash w.params x, .str x t, v⟩ :: es) ((.inr x, v) :: kvs)
theorem DRows.keys {P : Program} {w : World} {es : List DictEntry} {kvs : List (Key × Value)} (h : DRows w es kvs) : ∀ e ∈ es, ∃ k, (qaT P w).is k e.key = true ∧ e.hash = (qaT P w).hash k := by
  induction h with
  | nil => intro e he; cases he
  | cons _ ih =>
    intro e he
    cases he with
    | head => exact ⟨.inr _, qbf _ _ _ _, rfl⟩
    | tail _ m => exact ih e m
theorem DRows.pairs {P : Program} {w : World} {es : List DictEntry} {kvs : List (Key × Value)} (h : DRows w es kvs) : Pairs (qaT P w) es kvs := by
  induction h with
  | nil => exact .nil
  | cons _ ih => exact .cons (qbf _ _ _ _) rfl ih
theorem val_hit {k : Key} {v : Value} {r : List (Key × Value)} : valueAt ((k, v) :: r) k = some v := by simp [valueAt]
theorem val_miss {k k' : Key} {v : Value} {r : List (Key × Value)} (h : k' ≠ k) : valueAt ((k', v) :: r) k = valueAt r k := by simp [valueAt, h]
theorem val_at : ∀ {ks : List Str} {vs : List Value} {j : Nat} {x : Str} {v : Value}, ks.Nodup → ks[j]? = some x → vs[j]? = some v → valueAt ((ks.zip vs).map fun p => ((.inr p.1 : Key), p.2)) (.inr x) = some v
  | [], _, _, _, _, _, h, _ => by simp at h
  | _ :: _, [], _, _, _, _, _, h => by simp at h
  | k :: ks, v0 :: vs, 0, x, v, _, h1, h2 => by
    simp only [List.getElem?_cons_zero, Option.some.injEq] at h1 h2
    subst h1; subst h2
    exact val_hit
  | k :: ks, v0 :: vs, j + 1, x, v, nd, h1, h2 => by
    simp only [List.getElem?_cons_succ] at h1 h2
    have nd' := List.nodup_cons.mp nd
    have ne : k ≠ x := fun z => nd'.1 (z ▸ List.mem_of_getElem? h1)
    show valueAt ((.inr k, v0) :: (ks.zip vs).map fun p => ((.inr p.1 : Key), p.2)) (.inr x) = some v
    rw [val_miss (fun z => ne (Sum.inr.inj z))]
    exact val_at nd'.2 h1 h2
theorem un_of {P : Program} {w : World} {K : PySem.W.Frag} {a : Addr} {n : Nat} {tk0 tk1 tk2 tk3 tk4 tk5 tk6 tk7 tk8 tk9 tk10 tk11 tk12 tv0 tv1 tv2 tv3 tv4 tv5 tv6 tv7 tv8 tv9 tv10 tv11 tv12 : Tok} (l : K.lookup a = some ⟨.type "dict", none, .dict #[⟨PyData.keyHash w.params (Str.ofString "face"), .str (Str.ofString "face") tk0, .int 0 tv0⟩, ⟨PyData.keyHash w.params (Str.ofString "align"), .str (Str.ofString "align") tk1, .int 0 tv1⟩, ⟨PyData.keyHash w.params (Str.ofString "above"), .str (Str.ofString "above") tk2, .int 0 tv2⟩, ⟨PyData.keyHash w.params (Str.ofString "inset"), .str (Str.ofString "inset") tk3, .int 0 tv3⟩, ⟨PyData.keyHash w.params (Str.ofString "weight"), .str (Str.ofString "weight") tk4, .int 1 tv4⟩, ⟨PyData.keyHash w.params (Str.ofString "least"), .str (Str.ofString "least") tk5, .int 0 tv5⟩, ⟨PyData.keyHash w.params (Str.ofString "most"), .str (Str.ofString "most") tk6, .int 4000 tv6⟩, ⟨PyData.keyHash w.params (Str.ofString "columns"), .str (Str.ofString "columns") tk7, .int 2 tv7⟩, ⟨PyData.keyHash w.params (Str.ofString "span"), .str (Str.ofString "span") tk8, .int 1 tv8⟩, ⟨PyData.keyHash w.params (Str.ofString "deep"), .str (Str.ofString "deep") tk9, .int 1 tv9⟩, ⟨PyData.keyHash w.params (Str.ofString "side"), .str (Str.ofString "side") tk10, .int 0 tv10⟩, ⟨PyData.keyHash w.params (Str.ofString "wide"), .str (Str.ofString "wide") tk11, .int 100 tv11⟩, ⟨PyData.keyHash w.params (Str.ofString "fresh"), .str (Str.ofString "fresh") tk12, .int 0 tv12⟩] n, #[]⟩) : UnD P w K a := by
  have r : DRows w [⟨PyData.keyHash w.params (Str.ofString "face"), .str (Str.ofString "face") tk0, .int 0 tv0⟩, ⟨PyData.keyHash w.params (Str.ofString "align"), .str (Str.ofString "align") tk1, .int 0 tv1⟩, ⟨PyData.keyHash w.params (Str.ofString "above"), .str (Str.ofString "above") tk2, .int 0 tv2⟩, ⟨PyData.keyHash w.params (Str.ofString "inset"), .str (Str.ofString "inset") tk3, .int 0 tv3⟩, ⟨PyData.keyHash w.params (Str.ofString "weight"), .str (Str.ofString "weight") tk4, .int 1 tv4⟩, ⟨PyData.keyHash w.params (Str.ofString "least"), .str (Str.ofString "least") tk5, .int 0 tv5⟩, ⟨PyData.keyHash w.params (Str.ofString "most"), .str (Str.ofString "most") tk6, .int 4000 tv6⟩, ⟨PyData.keyHash w.params (Str.ofString "columns"), .str (Str.ofString "columns") tk7, .int 2 tv7⟩, ⟨PyData.keyHash w.params (Str.ofString "span"), .str (Str.ofString "span") tk8, .int 1 tv8⟩, ⟨PyData.keyHash w.params (Str.ofString "deep"), .str (Str.ofString "deep") tk9, .int 1 tv9⟩, ⟨PyData.keyHash w.params (Str.ofString "side"), .str (Str.ofString "side") tk10, .int 0 tv10⟩, ⟨PyData.keyHash w.params (Str.ofString "wide"), .str (Str.ofString "wide") tk11, .int 100 tv11⟩, ⟨PyData.keyHash w.params (Str.ofString "fresh"), .str (Str.ofString "fresh") tk12, .int 0 tv12⟩] ((propNames.zip ((untolds.zip [tv0, tv1, tv2, tv3, tv4, tv5, tv6, tv7, tv8, tv9, tv10, tv11, tv12]).map fun p => Value.int p.1 p.2)).map fun p => ((.inr p.1 : Key), p.2)) := (.cons (.cons (.cons (.cons (.cons (.cons (.cons (.cons (.cons (.cons (.cons (.cons (.cons .nil)))))))))))))
  have nd : propNames.Nodup := by decide +kernel
  refine ⟨_, ⟨_, _, _, l, ⟨rfl, rfl, rfl⟩, rfl, fun e he => r.keys e (by simpa using he), r.pairs, (by show (propNames.map (fun x => (.inr x : Key))).Nodup; decide +kernel)⟩, fun j hj => ?_⟩
  have hp : propNames[j]? = some (propNames.getD j noName) := (qd0 hj).1
  have hu : untolds[j]? = some (untolds.getD j 0) := (show ∀ j, j < 13 → untolds[j]? = some (untolds.getD j 0) by decide +kernel) j hj
  obtain ⟨t, ht⟩ : ∃ t, ([tv0, tv1, tv2, tv3, tv4, tv5, tv6, tv7, tv8, tv9, tv10, tv11, tv12] : List Tok)[j]? = some t := ⟨_, List.getElem?_eq_getElem (show j < 13 from hj)⟩
  refine ⟨t, val_at nd hp ?_⟩
  rw [List.getElem?_map, show (untolds.zip [tv0, tv1, tv2, tv3, tv4, tv5, tv6, tv7, tv8, tv9, tv10, tv11, tv12])[j]? = some (untolds.getD j 0, t) from List.getElem?_zip_eq_some.mpr ⟨hu, ht⟩]
  rfl
theorem us_s {n : Nat} {us : List Value} (h : us.length = n + 1) : ∃ u r, us = u :: r ∧ r.length = n := by
  cases us with
  | nil => cases h
  | cons u r => exact ⟨u, r, rfl, Nat.succ.inj h⟩
theorem us0 {us : List Value} (h : us.length = 0) : us = [] := List.eq_nil_of_length_eq_zero h
theorem us1 {us : List Value} (h : us.length = 1) : ∃ u0 : Value, us = [u0] := by
  obtain ⟨u0, r, rfl, h1⟩ := us_s h
  obtain rfl := us0 h1
  exact ⟨u0, rfl⟩
theorem us2 {us : List Value} (h : us.length = 2) : ∃ u0 u1 : Value, us = [u0, u1] := by
  obtain ⟨u0, r, rfl, h1⟩ := us_s h
  obtain ⟨u1, rfl⟩ := us1 h1
  exact ⟨u0, u1, rfl⟩
theorem us3 {us : List Value} (h : us.length = 3) : ∃ u0 u1 u2 : Value, us = [u0, u1, u2] := by
  obtain ⟨u0, r, rfl, h1⟩ := us_s h
  obtain ⟨u1, u2, rfl⟩ := us2 h1
  exact ⟨u0, u1, u2, rfl⟩
theorem us4 {us : List Value} (h : us.length = 4) : ∃ u0 u1 u2 u3 : Value, us = [u0, u1, u2, u3] := by
  obtain ⟨u0, r, rfl, h1⟩ := us_s h
  obtain ⟨u1, u2, u3, rfl⟩ := us3 h1
  exact ⟨u0, u1, u2, u3, rfl⟩
theorem us5 {us : List Value} (h : us.length = 5) : ∃ u0 u1 u2 u3 u4 : Value, us = [u0, u1, u2, u3, u4] := by
  obtain ⟨u0, r, rfl, h1⟩ := us_s h
  obtain ⟨u1, u2, u3, u4, rfl⟩ := us4 h1
  exact ⟨u0, u1, u2, u3, u4, rfl⟩
theorem all_mk {l : PySem.W.OpenLaw} {w : World} {K : PySem.W.Frag} {h : Heap} {mg : Str → Option Value} {fa f1 f2 f3 f4 f5 cW f6 f7 f8 f9 f10 f11 f12 f13 f14 f15 f16 f17 f18 f19 f20 f21 f22 f23 f24 f25 f26 f27 f28 f29 f30 f31 f32 f33 f34 : Addr} (X : K.In h) (G : h.Ns mainGlobals mg) (hfa : mg "law" = some (.ref fa))
    {od1 an1 od2 an2 od3 an3 od4 an4 od5 an5 od6 an6 od7 an7 od8 an8 od9 an9 od10 an10 od11 an11 od12 an12 od13 an13 od14 an14 od15 an15 od16 an16 od17 an17 od18 an18 od19 an19 od20 an20 od21 an21 od22 an22 od23 an23 od24 an24 od25 an25 od26 an26 od27 an27 od28 an28 od29 an29 od30 an30 od31 an31 od32 an32 od33 an33 od34 an34 : Option Addr} {sl1 sl2 sl3 sl4 sl5 sl6 sl7 sl8 sl9 sl10 sl11 sl12 sl13 sl14 sl15 sl16 sl17 sl18 sl19 sl20 sl21 sl22 sl23 sl24 sl25 sl26 sl27 sl28 sl29 sl30 sl31 sl32 sl33 sl34 : Array (Option Value)} {oc1 kV1 dc1 pm1 cd1 ct1 oc2 kV2 dc2 pm2 cd2 ct2 oc3 kV3 dc3 pm3 cd3 ct3 oc4 kV4 dc4 pm4 cd4 ct4 oc5 kV5 dc5 pm5 ct5 oc6 kV6 dc6 pm6 cd6 ct6 oc7 kV7 dc7 pm7 cd7 ct7 oc8 kV8 dc8 pm8 cd8 ct8 oc9 kV9 dc9 pm9 cd9 ct9 oc10 kV10 dc10 pm10 cd10 ct10 oc11 kV11 dc11 pm11 cd11 ct11 oc12 kV12 dc12 pm12 cd12 ct12 oc13 kV13 dc13 pm13 cd13 ct13 oc14 kV14 dc14 pm14 cd14 ct14 oc15 kV15 dc15 pm15 cd15 ct15 oc16 kV16 dc16 pm16 cd16 ct16 oc17 kV17 dc17 pm17 cd17 ct17 oc18 kV18 dc18 pm18 cd18 ct18 oc19 kV19 dc19 pm19 cd19 ct19 oc20 kV20 dc20 pm20 cd20 ct20 oc21 kV21 dc21 pm21 cd21 ct21 oc22 kV22 dc22 pm22 cd22 ct22 oc23 kV23 dc23 pm23 cd23 ct23 oc24 kV24 dc24 pm24 cd24 ct24 oc25 kV25 dc25 pm25 cd25 ct25 oc26 kV26 dc26 pm26 cd26 ct26 oc27 kV27 dc27 pm27 cd27 ct27 oc28 kV28 dc28 pm28 cd28 ct28 oc29 kV29 dc29 pm29 cd29 ct29 oc30 kV30 dc30 pm30 cd30 ct30 oc31 kV31 dc31 pm31 cd31 ct31 oc32 kV32 dc32 pm32 cd32 ct32 oc33 kV33 dc33 pm33 cd33 ct33 oc34 kV34 dc34 pm34 cd34 ct34 : Value} {t_ELDER t_KIND t_MARKS t_RANK t_OF_KIND t_WITHIN t_MARK t_SETS t_WORD t_VALUE t_NODE t_WHY : Tok} {Pt : Addr} {q_PROPERTIES q_HANDED q_UNTOLD : Addr} {tk_H0 tk_H1 tk_P0 tk_P1 tk_P2 tk_P3 tk_P4 tk_P5 tk_P6 tk_P7 tk_P8 tk_P9 tk_P10 tk_P11 tk_P12 tk_U0 tk_U1 tk_U2 tk_U3 tk_U4 tk_U5 tk_U6 tk_U7 tk_U8 tk_U9 tk_U10 tk_U11 tk_U12 tv_U0 tv_U1 tv_U2 tv_U3 tv_U4 tv_U5 tv_U6 tv_U7 tv_U8 tv_U9 tv_U10 tv_U11 tv_U12 : Tok} {n_PROPERTIES_ n_HANDED n_UNTOLD : Nat} {od_HANDED : Option Addr} {sl_PROPERTIES sl_HANDED : Array (Option Value)}
    (a1 : PySem.W.nsIn K mainGlobals "elders_of" = some (some (.ref f1)))
    (l1 : K.lookup f1 = some ⟨oc1, od1, .func (PySem.W.fnOf "elders_of" "elders_of" (qav sElders) (qat sElders) (qag sElders) .none kV1 dc1 pm1 an1 cd1 ct1), sl1⟩)
    (e1 : PySem.W.codeIn K cd1 "elders_of" = true)
    (k1 : PySem.W.keepIn K (.ref f1) = true)
    (a2 : PySem.W.nsIn K mainGlobals "fits" = some (some (.ref f2)))
    (l2 : K.lookup f2 = some ⟨oc2, od2, .func (PySem.W.fnOf "fits" "fits" (qav sFits) (qat sFits) (qag sFits) .none kV2 dc2 pm2 an2 cd2 ct2), sl2⟩)
    (e2 : PySem.W.codeIn K cd2 "fits" = true)
    (k2 : PySem.W.keepIn K (.ref f2) = true)
    (a3 : PySem.W.nsIn K mainGlobals "count_conditions" = some (some (.ref f3)))
    (l3 : K.lookup f3 = some ⟨oc3, od3, .func (PySem.W.fnOf "count_conditions" "count_conditions" (qav sCond) (qat sCond) (qag sCond) .none kV3 dc3 pm3 an3 cd3 ct3), sl3⟩)
    (e3 : PySem.W.codeIn K cd3 "count_conditions" = true)
    (k3 : PySem.W.keepIn K (.ref f3) = true)
    (a4 : PySem.W.nsIn K mainGlobals "winners" = some (some (.ref f4)))
    (l4 : K.lookup f4 = some ⟨oc4, od4, .func (PySem.W.fnOf "winners" "winners" (qav sWinners) (qat sWinners) (qag sWinners) .none kV4 dc4 pm4 an4 cd4 ct4), sl4⟩)
    (e4 : PySem.W.codeIn K cd4 "winners" = true)
    (k4 : PySem.W.keepIn K (.ref f4) = true)
    (a5 : PySem.W.nsIn K mainGlobals "winner_of" = some (some (.ref f5)))
    (l5 : K.lookup f5 = some ⟨oc5, od5, .func (PySem.W.fnOf "winner_of" "winner_of" (qav sWinnerOf) (qat sWinnerOf) (qag sWinnerOf) .none kV5 dc5 pm5 an5 (.ref cW) ct5), sl5⟩)
    (e5 : PySem.W.codeIn K (.ref cW) "winner_of" = true)
    (k5 : PySem.W.keepIn K (.ref f5) = true)
    (a6 : PySem.W.nsIn K mainGlobals "precedence" = some (some (.ref f6)))
    (l6 : K.lookup f6 = some ⟨oc6, od6, .func (PySem.W.fnOf "precedence" "precedence" (qav sPrec) (qat sPrec) (qag sPrec) .none kV6 dc6 pm6 an6 cd6 ct6), sl6⟩)
    (e6 : PySem.W.codeIn K cd6 "precedence" = true)
    (k6 : PySem.W.keepIn K (.ref f6) = true)
    (a7 : PySem.W.nsIn K mainGlobals "untold_of" = some (some (.ref f7)))
    (l7 : K.lookup f7 = some ⟨oc7, od7, .func (PySem.W.fnOf "untold_of" "untold_of" (qav sUntold) (qat sUntold) (qag sUntold) .none kV7 dc7 pm7 an7 cd7 ct7), sl7⟩)
    (e7 : PySem.W.codeIn K cd7 "untold_of" = true)
    (k7 : PySem.W.keepIn K (.ref f7) = true)
    (a8 : PySem.W.nsIn K mainGlobals "winners_hold" = some (some (.ref f8)))
    (l8 : K.lookup f8 = some ⟨oc8, od8, .func (PySem.W.fnOf "winners_hold" "winners_hold" (qav sHold) (qat sHold) (qag sHold) .none kV8 dc8 pm8 an8 cd8 ct8), sl8⟩)
    (e8 : PySem.W.codeIn K cd8 "winners_hold" = true)
    (k8 : PySem.W.keepIn K (.ref f8) = true)
    (a9 : PySem.W.nsIn K mainGlobals "headings" = some (some (.ref f9)))
    (l9 : K.lookup f9 = some ⟨oc9, od9, .func (PySem.W.fnOf "headings" "headings" (qav sHeadings) (qat sHeadings) (qag sHeadings) .none kV9 dc9 pm9 an9 cd9 ct9), sl9⟩)
    (e9 : PySem.W.codeIn K cd9 "headings" = true)
    (k9 : PySem.W.keepIn K (.ref f9) = true)
    (a10 : PySem.W.nsIn K mainGlobals "row_holds" = some (some (.ref f10)))
    (l10 : K.lookup f10 = some ⟨oc10, od10, .func (PySem.W.fnOf "row_holds" "row_holds" (qav sRowH) (qat sRowH) (qag sRowH) .none kV10 dc10 pm10 an10 cd10 ct10), sl10⟩)
    (e10 : PySem.W.codeIn K cd10 "row_holds" = true)
    (k10 : PySem.W.keepIn K (.ref f10) = true)
    (a11 : PySem.W.nsIn K mainGlobals "names_the_winner" = some (some (.ref f11)))
    (l11 : K.lookup f11 = some ⟨oc11, od11, .func (PySem.W.fnOf "names_the_winner" "names_the_winner" (qav sNames) (qat sNames) (qag sNames) .none kV11 dc11 pm11 an11 cd11 ct11), sl11⟩)
    (e11 : PySem.W.codeIn K cd11 "names_the_winner" = true)
    (k11 : PySem.W.keepIn K (.ref f11) = true)
    (a12 : PySem.W.nsIn K mainGlobals "_law_stream" = some (some (.ref f12)))
    (l12 : K.lookup f12 = some ⟨oc12, od12, .func (PySem.W.fnOf "_law_stream" "_law_stream" (qav sStream) (qat sStream) (qag sStream) .none kV12 dc12 pm12 an12 cd12 ct12), sl12⟩)
    (e12 : PySem.W.codeIn K cd12 "_law_stream" = true)
    (k12 : PySem.W.keepIn K (.ref f12) = true)
    (a13 : PySem.W.nsIn K mainGlobals "_law_take" = some (some (.ref f13)))
    (l13 : K.lookup f13 = some ⟨oc13, od13, .func (PySem.W.fnOf "_law_take" "_law_take" (qav sTake) (qat sTake) (qag sTake) .none kV13 dc13 pm13 an13 cd13 ct13), sl13⟩)
    (e13 : PySem.W.codeIn K cd13 "_law_take" = true)
    (k13 : PySem.W.keepIn K (.ref f13) = true)
    (a14 : PySem.W.nsIn K mainGlobals "_law_word" = some (some (.ref f14)))
    (l14 : K.lookup f14 = some ⟨oc14, od14, .func (PySem.W.fnOf "_law_word" "_law_word" (qav sWord) (qat sWord) (qag sWord) .none kV14 dc14 pm14 an14 cd14 ct14), sl14⟩)
    (e14 : PySem.W.codeIn K cd14 "_law_word" = true)
    (k14 : PySem.W.keepIn K (.ref f14) = true)
    (a15 : PySem.W.nsIn K mainGlobals "_law_name" = some (some (.ref f15)))
    (l15 : K.lookup f15 = some ⟨oc15, od15, .func (PySem.W.fnOf "_law_name" "_law_name" (qav sName) (qat sName) (qag sName) .none kV15 dc15 pm15 an15 cd15 ct15), sl15⟩)
    (e15 : PySem.W.codeIn K cd15 "_law_name" = true)
    (k15 : PySem.W.keepIn K (.ref f15) = true)
    (a16 : PySem.W.nsIn K mainGlobals "_law_pieces" = some (some (.ref f16)))
    (l16 : K.lookup f16 = some ⟨oc16, od16, .func (PySem.W.fnOf "_law_pieces" "_law_pieces" (qav sPieces) (qat sPieces) (qag sPieces) .none kV16 dc16 pm16 an16 cd16 ct16), sl16⟩)
    (e16 : PySem.W.codeIn K cd16 "_law_pieces" = true)
    (k16 : PySem.W.keepIn K (.ref f16) = true)
    (a17 : PySem.W.nsIn K mainGlobals "_law_own" = some (some (.ref f17)))
    (l17 : K.lookup f17 = some ⟨oc17, od17, .func (PySem.W.fnOf "_law_own" "_law_own" (qav sOwn) (qat sOwn) (qag sOwn) .none kV17 dc17 pm17 an17 cd17 ct17), sl17⟩)
    (e17 : PySem.W.codeIn K cd17 "_law_own" = true)
    (k17 : PySem.W.keepIn K (.ref f17) = true)
    (a18 : PySem.W.nsIn K mainGlobals "_law_add" = some (some (.ref f18)))
    (l18 : K.lookup f18 = some ⟨oc18, od18, .func (PySem.W.fnOf "_law_add" "_law_add" (qav sAdd) (qat sAdd) (qag sAdd) .none kV18 dc18 pm18 an18 cd18 ct18), sl18⟩)
    (e18 : PySem.W.codeIn K cd18 "_law_add" = true)
    (k18 : PySem.W.keepIn K (.ref f18) = true)
    (a19 : PySem.W.nsIn K mainGlobals "_law_text" = some (some (.ref f19)))
    (l19 : K.lookup f19 = some ⟨oc19, od19, .func (PySem.W.fnOf "_law_text" "_law_text" (qav sText) (qat sText) (qag sText) .none kV19 dc19 pm19 an19 cd19 ct19), sl19⟩)
    (e19 : PySem.W.codeIn K cd19 "_law_text" = true)
    (k19 : PySem.W.keepIn K (.ref f19) = true)
    (a20 : PySem.W.nsIn K mainGlobals "_law_item" = some (some (.ref f20)))
    (l20 : K.lookup f20 = some ⟨oc20, od20, .func (PySem.W.fnOf "_law_item" "_law_item" (qav sItem) (qat sItem) (qag sItem) .none kV20 dc20 pm20 an20 cd20 ct20), sl20⟩)
    (e20 : PySem.W.codeIn K cd20 "_law_item" = true)
    (k20 : PySem.W.keepIn K (.ref f20) = true)
    (a21 : PySem.W.nsIn K mainGlobals "_law_book" = some (some (.ref f21)))
    (l21 : K.lookup f21 = some ⟨oc21, od21, .func (PySem.W.fnOf "_law_book" "_law_book" (qav sBook) (qat sBook) (qag sBook) .none kV21 dc21 pm21 an21 cd21 ct21), sl21⟩)
    (e21 : PySem.W.codeIn K cd21 "_law_book" = true)
    (k21 : PySem.W.keepIn K (.ref f21) = true)
    (a22 : PySem.W.nsIn K mainGlobals "_law_table" = some (some (.ref f22)))
    (l22 : K.lookup f22 = some ⟨oc22, od22, .func (PySem.W.fnOf "_law_table" "_law_table" (qav sTable) (qat sTable) (qag sTable) .none kV22 dc22 pm22 an22 cd22 ct22), sl22⟩)
    (e22 : PySem.W.codeIn K cd22 "_law_table" = true)
    (k22 : PySem.W.keepIn K (.ref f22) = true)
    (a23 : PySem.W.nsIn K mainGlobals "_law_rule" = some (some (.ref f23)))
    (l23 : K.lookup f23 = some ⟨oc23, od23, .func (PySem.W.fnOf "_law_rule" "_law_rule" (qav sRule) (qat sRule) (qag sRule) .none kV23 dc23 pm23 an23 cd23 ct23), sl23⟩)
    (e23 : PySem.W.codeIn K cd23 "_law_rule" = true)
    (k23 : PySem.W.keepIn K (.ref f23) = true)
    (a24 : PySem.W.nsIn K mainGlobals "_law_few" = some (some (.ref f24)))
    (l24 : K.lookup f24 = some ⟨oc24, od24, .func (PySem.W.fnOf "_law_few" "_law_few" (qav sFew) (qat sFew) (qag sFew) .none kV24 dc24 pm24 an24 cd24 ct24), sl24⟩)
    (e24 : PySem.W.codeIn K cd24 "_law_few" = true)
    (k24 : PySem.W.keepIn K (.ref f24) = true)
    (a25 : PySem.W.nsIn K mainGlobals "_law_rules" = some (some (.ref f25)))
    (l25 : K.lookup f25 = some ⟨oc25, od25, .func (PySem.W.fnOf "_law_rules" "_law_rules" (qav sRules) (qat sRules) (qag sRules) .none kV25 dc25 pm25 an25 cd25 ct25), sl25⟩)
    (e25 : PySem.W.codeIn K cd25 "_law_rules" = true)
    (k25 : PySem.W.keepIn K (.ref f25) = true)
    (a26 : PySem.W.nsIn K mainGlobals "_law_fits" = some (some (.ref f26)))
    (l26 : K.lookup f26 = some ⟨oc26, od26, .func (PySem.W.fnOf "_law_fits" "_law_fits" (qav sLawFits) (qat sLawFits) (qag sLawFits) .none kV26 dc26 pm26 an26 cd26 ct26), sl26⟩)
    (e26 : PySem.W.codeIn K cd26 "_law_fits" = true)
    (k26 : PySem.W.keepIn K (.ref f26) = true)
    (a27 : PySem.W.nsIn K mainGlobals "_law_told" = some (some (.ref f27)))
    (l27 : K.lookup f27 = some ⟨oc27, od27, .func (PySem.W.fnOf "_law_told" "_law_told" (qav sTold) (qat sTold) (qag sTold) .none kV27 dc27 pm27 an27 cd27 ct27), sl27⟩)
    (e27 : PySem.W.codeIn K cd27 "_law_told" = true)
    (k27 : PySem.W.keepIn K (.ref f27) = true)
    (a28 : PySem.W.nsIn K mainGlobals "_law_set" = some (some (.ref f28)))
    (l28 : K.lookup f28 = some ⟨oc28, od28, .func (PySem.W.fnOf "_law_set" "_law_set" (qav sSet) (qat sSet) (qag sSet) .none kV28 dc28 pm28 an28 cd28 ct28), sl28⟩)
    (e28 : PySem.W.codeIn K cd28 "_law_set" = true)
    (k28 : PySem.W.keepIn K (.ref f28) = true)
    (a29 : PySem.W.nsIn K mainGlobals "_law_winner" = some (some (.ref f29)))
    (l29 : K.lookup f29 = some ⟨oc29, od29, .func (PySem.W.fnOf "_law_winner" "_law_winner" (qav sWinL) (qat sWinL) (qag sWinL) .none kV29 dc29 pm29 an29 cd29 ct29), sl29⟩)
    (e29 : PySem.W.codeIn K cd29 "_law_winner" = true)
    (k29 : PySem.W.keepIn K (.ref f29) = true)
    (a30 : PySem.W.nsIn K mainGlobals "_law_paper" = some (some (.ref f30)))
    (l30 : K.lookup f30 = some ⟨oc30, od30, .func (PySem.W.fnOf "_law_paper" "_law_paper" (qav sPaper) (qat sPaper) (qag sPaper) .none kV30 dc30 pm30 an30 cd30 ct30), sl30⟩)
    (e30 : PySem.W.codeIn K cd30 "_law_paper" = true)
    (k30 : PySem.W.keepIn K (.ref f30) = true)
    (a31 : PySem.W.nsIn K mainGlobals "_law_why" = some (some (.ref f31)))
    (l31 : K.lookup f31 = some ⟨oc31, od31, .func (PySem.W.fnOf "_law_why" "_law_why" (qav sWhyL) (qat sWhyL) (qag sWhyL) .none kV31 dc31 pm31 an31 cd31 ct31), sl31⟩)
    (e31 : PySem.W.codeIn K cd31 "_law_why" = true)
    (k31 : PySem.W.keepIn K (.ref f31) = true)
    (a32 : PySem.W.nsIn K mainGlobals "_law_row" = some (some (.ref f32)))
    (l32 : K.lookup f32 = some ⟨oc32, od32, .func (PySem.W.fnOf "_law_row" "_law_row" (qav sRowL) (qat sRowL) (qag sRowL) .none kV32 dc32 pm32 an32 cd32 ct32), sl32⟩)
    (e32 : PySem.W.codeIn K cd32 "_law_row" = true)
    (k32 : PySem.W.keepIn K (.ref f32) = true)
    (a33 : PySem.W.nsIn K mainGlobals "_law_bent" = some (some (.ref f33)))
    (l33 : K.lookup f33 = some ⟨oc33, od33, .func (PySem.W.fnOf "_law_bent" "_law_bent" (qav sBent) (qat sBent) (qag sBent) .none kV33 dc33 pm33 an33 cd33 ct33), sl33⟩)
    (e33 : PySem.W.codeIn K cd33 "_law_bent" = true)
    (k33 : PySem.W.keepIn K (.ref f33) = true)
    (a34 : PySem.W.nsIn K mainGlobals "law" = some (some (.ref f34)))
    (l34 : K.lookup f34 = some ⟨oc34, od34, .func (PySem.W.fnOf "law" "law" (qav sLaw) (qat sLaw) (qag sLaw) .none kV34 dc34 pm34 an34 cd34 ct34), sl34⟩)
    (e34 : PySem.W.codeIn K cd34 "law" = true)
    (k34 : PySem.W.keepIn K (.ref f34) = true)
    (x_PROPERTIES : PySem.W.nsIn K mainGlobals "PROPERTIES" = some (some (.ref q_PROPERTIES)))
    (l_PROPERTIES : K.lookup q_PROPERTIES = some ⟨.type "tuple", none, .seq #[.str (Str.ofString "face") tk_P0, .str (Str.ofString "align") tk_P1, .str (Str.ofString "above") tk_P2, .str (Str.ofString "inset") tk_P3, .str (Str.ofString "weight") tk_P4, .str (Str.ofString "least") tk_P5, .str (Str.ofString "most") tk_P6, .str (Str.ofString "columns") tk_P7, .str (Str.ofString "span") tk_P8, .str (Str.ofString "deep") tk_P9, .str (Str.ofString "side") tk_P10, .str (Str.ofString "wide") tk_P11, .str (Str.ofString "fresh") tk_P12] n_PROPERTIES_, sl_PROPERTIES⟩)
    (x_HANDED : PySem.W.nsIn K mainGlobals "HANDED_DOWN" = some (some (.ref q_HANDED)))
    (l_HANDED : K.lookup q_HANDED = some ⟨.type "tuple", od_HANDED, .seq #[.str (Str.ofString "face") tk_H0, .str (Str.ofString "align") tk_H1] n_HANDED, sl_HANDED⟩)
    (x_UNTOLD : PySem.W.nsIn K mainGlobals "UNTOLD" = some (some (.ref q_UNTOLD)))
    (l_UNTOLD : K.lookup q_UNTOLD = some ⟨.type "dict", none, .dict #[⟨PyData.keyHash w.params (Str.ofString "face"), .str (Str.ofString "face") tk_U0, .int 0 tv_U0⟩, ⟨PyData.keyHash w.params (Str.ofString "align"), .str (Str.ofString "align") tk_U1, .int 0 tv_U1⟩, ⟨PyData.keyHash w.params (Str.ofString "above"), .str (Str.ofString "above") tk_U2, .int 0 tv_U2⟩, ⟨PyData.keyHash w.params (Str.ofString "inset"), .str (Str.ofString "inset") tk_U3, .int 0 tv_U3⟩, ⟨PyData.keyHash w.params (Str.ofString "weight"), .str (Str.ofString "weight") tk_U4, .int 1 tv_U4⟩, ⟨PyData.keyHash w.params (Str.ofString "least"), .str (Str.ofString "least") tk_U5, .int 0 tv_U5⟩, ⟨PyData.keyHash w.params (Str.ofString "most"), .str (Str.ofString "most") tk_U6, .int 4000 tv_U6⟩, ⟨PyData.keyHash w.params (Str.ofString "columns"), .str (Str.ofString "columns") tk_U7, .int 2 tv_U7⟩, ⟨PyData.keyHash w.params (Str.ofString "span"), .str (Str.ofString "span") tk_U8, .int 1 tv_U8⟩, ⟨PyData.keyHash w.params (Str.ofString "deep"), .str (Str.ofString "deep") tk_U9, .int 1 tv_U9⟩, ⟨PyData.keyHash w.params (Str.ofString "side"), .str (Str.ofString "side") tk_U10, .int 0 tv_U10⟩, ⟨PyData.keyHash w.params (Str.ofString "wide"), .str (Str.ofString "wide") tk_U11, .int 100 tv_U11⟩, ⟨PyData.keyHash w.params (Str.ofString "fresh"), .str (Str.ofString "fresh") tk_U12, .int 0 tv_U12⟩] n_UNTOLD, #[]⟩)
    (hPt : Pt ≠ mainGlobals)
    (hC : PySem.W.codeHdIn K cW Pt = true)
    (n_isinstance : PySem.W.nsIn K mainGlobals "isinstance" = some none)
    (n_len : PySem.W.nsIn K mainGlobals "len" = some none)
    (n_range : PySem.W.nsIn K mainGlobals "range" = some none)
    (n_sorted : PySem.W.nsIn K mainGlobals "sorted" = some none)
    (n_int : PySem.W.nsIn K mainGlobals "int" = some none)
    (n_bool : PySem.W.nsIn K mainGlobals "bool" = some none)
    (n_list : PySem.W.nsIn K mainGlobals "list" = some none)
    (n_tuple : PySem.W.nsIn K mainGlobals "tuple" = some none)
    (n_str : PySem.W.nsIn K mainGlobals "str" = some none)
    (n_set : PySem.W.nsIn K mainGlobals "set" = some none)
    (n_enumerate : PySem.W.nsIn K mainGlobals "enumerate" = some none)
    (n_all : PySem.W.nsIn K mainGlobals "all" = some none)
    (n_ValueError : PySem.W.nsIn K mainGlobals "ValueError" = some none)
    (n_any : PySem.W.nsIn K mainGlobals "any" = some none)
    (n_min : PySem.W.nsIn K mainGlobals "min" = some none)
    (n_max : PySem.W.nsIn K mainGlobals "max" = some none)
    (n_sum : PySem.W.nsIn K mainGlobals "sum" = some none)
    (n_zip : PySem.W.nsIn K mainGlobals "zip" = some none)
    (n_dict : PySem.W.nsIn K mainGlobals "dict" = some none)
    (i_ELDER : PySem.W.nsIn K mainGlobals "ELDER" = some (some (.int 0 t_ELDER)))
    (i_KIND : PySem.W.nsIn K mainGlobals "KIND" = some (some (.int 1 t_KIND)))
    (i_MARKS : PySem.W.nsIn K mainGlobals "MARKS" = some (some (.int 3 t_MARKS)))
    (i_RANK : PySem.W.nsIn K mainGlobals "RANK" = some (some (.int 0 t_RANK)))
    (i_OF_KIND : PySem.W.nsIn K mainGlobals "OF_KIND" = some (some (.int 1 t_OF_KIND)))
    (i_WITHIN : PySem.W.nsIn K mainGlobals "WITHIN" = some (some (.int 2 t_WITHIN)))
    (i_MARK : PySem.W.nsIn K mainGlobals "MARK" = some (some (.int 3 t_MARK)))
    (i_SETS : PySem.W.nsIn K mainGlobals "SETS" = some (some (.int 4 t_SETS)))
    (i_WORD : PySem.W.nsIn K mainGlobals "WORD" = some (some (.int 1 t_WORD)))
    (i_VALUE : PySem.W.nsIn K mainGlobals "VALUE" = some (some (.int 3 t_VALUE)))
    (i_NODE : PySem.W.nsIn K mainGlobals "NODE" = some (some (.int 0 t_NODE)))
    (i_WHY : PySem.W.nsIn K mainGlobals "WHY" = some (some (.int 2 t_WHY)))
    : ∃ fd : FuncData, (∀ (s : Shared) (v : Value), BindsTo s fd ⟨[v], []⟩ [("_law_script", v)]) ∧ ∀ base : Heap, K.In base → base.Ns mainGlobals mg → base.BuiltinsAt mg Pt → FnOk l.prog w K mg base CX0 12 fa fd ["_law_script"] (qeB Pt K) := by
  have e0 := hfa.symm.trans (PySem.W.mg_of X G a34)
  cases e0
  have F1 := qaF (st := sElders) l1 e1 k1
  have b1 := F1.binds (ps := ["book", "node"]) fun _ _ _ _ _ _ us hl => by (obtain ⟨u0, u1, rfl⟩ := us2 hl; rfl)
  have m1 := PySem.W.mg_of X G a1
  have F2 := qaF (st := sFits) l2 e2 k2
  have b2 := F2.binds (ps := ["book", "rule", "node"]) fun _ _ _ _ _ _ us hl => by (obtain ⟨u0, u1, u2, rfl⟩ := us3 hl; rfl)
  have m2 := PySem.W.mg_of X G a2
  have F3 := qaF (st := sCond) l3 e3 k3
  have b3 := F3.binds (ps := ["rule"]) fun _ _ _ _ _ _ us hl => by (obtain ⟨u0, rfl⟩ := us1 hl; rfl)
  have m3 := PySem.W.mg_of X G a3
  have F4 := qaF (st := sWinners) l4 e4 k4
  have b4 := F4.binds (ps := ["book", "rules"]) fun _ _ _ _ _ _ us hl => by (obtain ⟨u0, u1, rfl⟩ := us2 hl; rfl)
  have m4 := PySem.W.mg_of X G a4
  have F5 := qaF (st := sWinnerOf) l5 e5 k5
  have b5 := F5.binds (ps := ["rules", "fitting", "word"]) fun _ _ _ _ _ _ us hl => by (obtain ⟨u0, u1, u2, rfl⟩ := us3 hl; rfl)
  have m5 := PySem.W.mg_of X G a5
  have F6 := qaF (st := sPrec) l6 e6 k6
  have b6 := F6.binds (ps := ["rules", "number"]) fun _ _ _ _ _ _ us hl => by (obtain ⟨u0, u1, rfl⟩ := us2 hl; rfl)
  have m6 := PySem.W.mg_of X G a6
  have F7 := qaF (st := sUntold) l7 e7 k7
  have b7 := F7.binds (ps := ["book", "paper", "node", "word"]) fun _ _ _ _ _ _ us hl => by (obtain ⟨u0, u1, u2, u3, rfl⟩ := us4 hl; rfl)
  have m7 := PySem.W.mg_of X G a7
  have F8 := qaF (st := sHold) l8 e8 k8
  have b8 := F8.binds (ps := ["book", "rules", "paper"]) fun _ _ _ _ _ _ us hl => by (obtain ⟨u0, u1, u2, rfl⟩ := us3 hl; rfl)
  have m8 := PySem.W.mg_of X G a8
  have F9 := qaF (st := sHeadings) l9 e9 k9
  have b9 := F9.binds (ps := ["book"]) fun _ _ _ _ _ _ us hl => by (obtain ⟨u0, rfl⟩ := us1 hl; rfl)
  have m9 := PySem.W.mg_of X G a9
  have F10 := qaF (st := sRowH) l10 e10 k10
  have b10 := F10.binds (ps := ["book", "rules", "fitting", "paper", "row"]) fun _ _ _ _ _ _ us hl => by (obtain ⟨u0, u1, u2, u3, u4, rfl⟩ := us5 hl; rfl)
  have m10 := PySem.W.mg_of X G a10
  have F11 := qaF (st := sNames) l11 e11 k11
  have b11 := F11.binds (ps := ["rules", "setting", "row"]) fun _ _ _ _ _ _ us hl => by (obtain ⟨u0, u1, u2, rfl⟩ := us3 hl; rfl)
  have m11 := PySem.W.mg_of X G a11
  have F12 := qaF (st := sStream) l12 e12 k12
  have b12 := F12.binds (ps := ["_law_script", "_law_k"]) fun _ _ _ _ _ _ us hl => by (obtain ⟨u0, u1, rfl⟩ := us2 hl; rfl)
  have m12 := PySem.W.mg_of X G a12
  have F13 := qaF (st := sTake) l13 e13 k13
  have b13 := F13.binds (ps := ["_law_stream_here", "_law_most"]) fun _ _ _ _ _ _ us hl => by (obtain ⟨u0, u1, rfl⟩ := us2 hl; rfl)
  have m13 := PySem.W.mg_of X G a13
  have F14 := qaF (st := sWord) l14 e14 k14
  have b14 := F14.binds (ps := ["_law_stream_here", "_law_most"]) fun _ _ _ _ _ _ us hl => by (obtain ⟨u0, u1, rfl⟩ := us2 hl; rfl)
  have m14 := PySem.W.mg_of X G a14
  have F15 := qaF (st := sName) l15 e15 k15
  have b15 := F15.binds (ps := ["_law_stream_here", "_law_many"]) fun _ _ _ _ _ _ us hl => by (obtain ⟨u0, u1, rfl⟩ := us2 hl; rfl)
  have m15 := PySem.W.mg_of X G a15
  have F16 := qaF (st := sPieces) l16 e16 k16
  have b16 := F16.binds (ps := ["_law_stream_here", "_law_notes", "_law_names"]) fun _ _ _ _ _ _ us hl => by (obtain ⟨u0, u1, u2, rfl⟩ := us3 hl; rfl)
  have m16 := PySem.W.mg_of X G a16
  have F17 := qaF (st := sOwn) l17 e17 k17
  have b17 := F17.binds (ps := ["_law_nodes", "_law_stream_here"]) fun _ _ _ _ _ _ us hl => by (obtain ⟨u0, u1, rfl⟩ := us2 hl; rfl)
  have m17 := PySem.W.mg_of X G a17
  have F18 := qaF (st := sAdd) l18 e18 k18
  have b18 := F18.binds (ps := ["_law_nodes", "_law_elder", "_law_kind", "_law_stuff", "_law_stream_here"]) fun _ _ _ _ _ _ us hl => by (obtain ⟨u0, u1, u2, u3, u4, rfl⟩ := us5 hl; rfl)
  have m18 := PySem.W.mg_of X G a18
  have F19 := qaF (st := sText) l19 e19 k19
  have b19 := F19.binds (ps := ["_law_nodes", "_law_elder", "_law_kind", "_law_stream_here"]) fun _ _ _ _ _ _ us hl => by (obtain ⟨u0, u1, u2, u3, rfl⟩ := us4 hl; rfl)
  have m19 := PySem.W.mg_of X G a19
  have F20 := qaF (st := sItem) l20 e20 k20
  have b20 := F20.binds (ps := ["_law_nodes", "_law_elder", "_law_level", "_law_room", "_law_stream_here"]) fun _ _ _ _ _ _ us hl => by (obtain ⟨u0, u1, u2, u3, u4, rfl⟩ := us5 hl; rfl)
  have m20 := PySem.W.mg_of X G a20
  have F21 := qaF (st := sBook) l21 e21 k21
  have b21 := F21.binds (ps := ["_law_stream_here", "_law_many", "_law_room"]) fun _ _ _ _ _ _ us hl => by (obtain ⟨u0, u1, u2, rfl⟩ := us3 hl; rfl)
  have m21 := PySem.W.mg_of X G a21
  have F22 := qaF (st := sTable) l22 e22 k22
  have b22 := F22.binds (ps := []) fun _ _ _ _ _ _ us hl => by (obtain rfl := us0 hl; rfl)
  have m22 := PySem.W.mg_of X G a22
  have F23 := qaF (st := sRule) l23 e23 k23
  have b23 := F23.binds (ps := ["_law_stream_here"]) fun _ _ _ _ _ _ us hl => by (obtain ⟨u0, rfl⟩ := us1 hl; rfl)
  have m23 := PySem.W.mg_of X G a23
  have F24 := qaF (st := sFew) l24 e24 k24
  have b24 := F24.binds (ps := ["_law_stream_here"]) fun _ _ _ _ _ _ us hl => by (obtain ⟨u0, rfl⟩ := us1 hl; rfl)
  have m24 := PySem.W.mg_of X G a24
  have F25 := qaF (st := sRules) l25 e25 k25
  have b25 := F25.binds (ps := ["_law_stream_here", "_law_long"]) fun _ _ _ _ _ _ us hl => by (obtain ⟨u0, u1, rfl⟩ := us2 hl; rfl)
  have m25 := PySem.W.mg_of X G a25
  have F26 := qaF (st := sLawFits) l26 e26 k26
  have b26 := F26.binds (ps := ["_law_book_here", "_law_rule_here", "_law_node"]) fun _ _ _ _ _ _ us hl => by (obtain ⟨u0, u1, u2, rfl⟩ := us3 hl; rfl)
  have m26 := PySem.W.mg_of X G a26
  have F27 := qaF (st := sTold) l27 e27 k27
  have b27 := F27.binds (ps := ["_law_rule_here"]) fun _ _ _ _ _ _ us hl => by (obtain ⟨u0, rfl⟩ := us1 hl; rfl)
  have m27 := PySem.W.mg_of X G a27
  have F28 := qaF (st := sSet) l28 e28 k28
  have b28 := F28.binds (ps := ["_law_rule_here", "_law_word_here"]) fun _ _ _ _ _ _ us hl => by (obtain ⟨u0, u1, rfl⟩ := us2 hl; rfl)
  have m28 := PySem.W.mg_of X G a28
  have F29 := qaF (st := sWinL) l29 e29 k29
  have b29 := F29.binds (ps := ["_law_book_here", "_law_rules_here", "_law_node", "_law_word_here"]) fun _ _ _ _ _ _ us hl => by (obtain ⟨u0, u1, u2, u3, rfl⟩ := us4 hl; rfl)
  have m29 := PySem.W.mg_of X G a29
  have F30 := qaF (st := sPaper) l30 e30 k30
  have b30 := F30.binds (ps := ["_law_book_here", "_law_rules_here"]) fun _ _ _ _ _ _ us hl => by (obtain ⟨u0, u1, rfl⟩ := us2 hl; rfl)
  have m30 := PySem.W.mg_of X G a30
  have F31 := qaF (st := sWhyL) l31 e31 k31
  have b31 := F31.binds (ps := ["_law_stream_here", "_law_why_here", "_law_many", "_law_node"]) fun _ _ _ _ _ _ us hl => by (obtain ⟨u0, u1, u2, u3, rfl⟩ := us4 hl; rfl)
  have m31 := PySem.W.mg_of X G a31
  have F32 := qaF (st := sRowL) l32 e32 k32
  have b32 := F32.binds (ps := ["_law_stream_here", "_law_row_here", "_law_many"]) fun _ _ _ _ _ _ us hl => by (obtain ⟨u0, u1, u2, rfl⟩ := us3 hl; rfl)
  have m32 := PySem.W.mg_of X G a32
  have F33 := qaF (st := sBent) l33 e33 k33
  have b33 := F33.binds (ps := ["_law_stream_here", "_law_paper_here", "_law_many"]) fun _ _ _ _ _ _ us hl => by (obtain ⟨u0, u1, u2, rfl⟩ := us3 hl; rfl)
  have m33 := PySem.W.mg_of X G a33
  have F34 := qaF (st := sLaw) l34 e34 k34
  have b34 := F34.binds (ps := ["_law_script"]) fun _ _ _ _ _ _ us hl => by (obtain ⟨u0, rfl⟩ := us1 hl; rfl)
  have m34 := PySem.W.mg_of X G a34
  have z_isinstance := PySem.W.mg_none_of X G n_isinstance
  have z_len := PySem.W.mg_none_of X G n_len
  have z_range := PySem.W.mg_none_of X G n_range
  have z_sorted := PySem.W.mg_none_of X G n_sorted
  have z_int := PySem.W.mg_none_of X G n_int
  have z_bool := PySem.W.mg_none_of X G n_bool
  have z_list := PySem.W.mg_none_of X G n_list
  have z_tuple := PySem.W.mg_none_of X G n_tuple
  have z_str := PySem.W.mg_none_of X G n_str
  have z_set := PySem.W.mg_none_of X G n_set
  have z_enumerate := PySem.W.mg_none_of X G n_enumerate
  have z_all := PySem.W.mg_none_of X G n_all
  have z_ValueError := PySem.W.mg_none_of X G n_ValueError
  have z_any := PySem.W.mg_none_of X G n_any
  have z_min := PySem.W.mg_none_of X G n_min
  have z_max := PySem.W.mg_none_of X G n_max
  have z_sum := PySem.W.mg_none_of X G n_sum
  have z_zip := PySem.W.mg_none_of X G n_zip
  have z_dict := PySem.W.mg_none_of X G n_dict
  have j_ELDER := PySem.W.mg_of X G i_ELDER
  have j_KIND := PySem.W.mg_of X G i_KIND
  have j_MARKS := PySem.W.mg_of X G i_MARKS
  have j_RANK := PySem.W.mg_of X G i_RANK
  have j_OF_KIND := PySem.W.mg_of X G i_OF_KIND
  have j_WITHIN := PySem.W.mg_of X G i_WITHIN
  have j_MARK := PySem.W.mg_of X G i_MARK
  have j_SETS := PySem.W.mg_of X G i_SETS
  have j_WORD := PySem.W.mg_of X G i_WORD
  have j_VALUE := PySem.W.mg_of X G i_VALUE
  have j_NODE := PySem.W.mg_of X G i_NODE
  have j_WHY := PySem.W.mg_of X G i_WHY
  have T : Bn mg := ⟨z_isinstance, z_len, z_range, z_sorted, z_int, z_bool, z_list, z_tuple, z_str, z_set, z_enumerate, z_all, z_ValueError⟩
  have TD : BnD mg := ⟨⟨T, z_any, z_min, z_max, z_sum, z_zip⟩, z_dict⟩
  have PT : PropT K q_PROPERTIES := ⟨fun H => qeQ (vs := propNames.map V.str) l_PROPERTIES (by show 13 ≤ sizeLine; decide) (.cons ⟨_, rfl⟩ (.cons ⟨_, rfl⟩ (.cons ⟨_, rfl⟩ (.cons ⟨_, rfl⟩ (.cons ⟨_, rfl⟩ (.cons ⟨_, rfl⟩ (.cons ⟨_, rfl⟩ (.cons ⟨_, rfl⟩ (.cons ⟨_, rfl⟩ (.cons ⟨_, rfl⟩ (.cons ⟨_, rfl⟩ (.cons ⟨_, rfl⟩ (.cons ⟨_, rfl⟩ (.nil)))))))))))))), ⟨_, l_PROPERTIES, rfl, rfl⟩⟩
  have mg_PROPERTIES := PySem.W.mg_of X G x_PROPERTIES
  have HD : ∀ H : Hp, SqT K H q_HANDED (handed.map V.str) := fun H => qeQ (vs := handed.map V.str) l_HANDED (by show 2 ≤ sizeLine; decide) (.cons ⟨_, rfl⟩ (.cons ⟨_, rfl⟩ (.nil)))
  have mg_HANDED := PySem.W.mg_of X G x_HANDED
  have mg_UNTOLD := PySem.W.mg_of X G x_UNTOLD
  have UD : UnD l.prog w K q_UNTOLD := un_of l_UNTOLD
  have U : NumsR mg := ⟨⟨_, j_ELDER⟩, ⟨_, j_KIND⟩, ⟨_, j_MARKS⟩, ⟨_, j_OF_KIND⟩, ⟨_, j_WITHIN⟩, ⟨_, j_MARK⟩⟩
  refine ⟨PySem.W.fnOf "law" "law" (qav sLaw) (qat sLaw) (qag sLaw) .none kV34 dc34 pm34 an34 cd34 ct34, fun s v => .of_eq rfl, fun base KB GB hB => ?_⟩
  have X_stream : Fx l.prog w K mg base CX0 1 "_law_stream" ["_law_script", "_law_k"] (qcV K) := ⟨_, _, ok_stream F12 T, b12, k12, m12⟩
  have X_take : Fx l.prog w K mg base CX0 1 "_law_take" ["_law_stream_here", "_law_most"] spTake := ⟨_, _, ok_take F13, b13, k13, m13⟩
  have X_word : Fx l.prog w K mg base CX0 2 "_law_word" ["_law_stream_here", "_law_most"] spWord := ⟨_, _, ok_word F14 T X_take, b14, k14, m14⟩
  have X_name : Fx l.prog w K mg base CX0 2 "_law_name" ["_law_stream_here", "_law_many"] spName := ⟨_, _, ok_name F15 T X_take, b15, k15, m15⟩
  have X_pieces : Fx l.prog w K mg base CX0 3 "_law_pieces" ["_law_stream_here", "_law_notes", "_law_names"] spPieces := ⟨_, _, ok_pieces F16 T X_take X_word, b16, k16, m16⟩
  have X_own : Fx l.prog w K mg base CX0 3 "_law_own" ["_law_nodes", "_law_stream_here"] spOwn := ⟨_, _, ok_own F17 T X_take X_name, b17, k17, m17⟩
  have X_add : Fx l.prog w K mg base CX0 4 "_law_add" ["_law_nodes", "_law_elder", "_law_kind", "_law_stuff", "_law_stream_here"] spAdd := ⟨_, _, ok_add F18 T X_own, b18, k18, m18⟩
  have X_text : Fx l.prog w K mg base CX0 5 "_law_text" ["_law_nodes", "_law_elder", "_law_kind", "_law_stream_here"] spText := ⟨_, _, ok_text F19 T X_take X_pieces X_add, b19, k19, m19⟩
  have X_item0 : Fx l.prog w K mg base CX0 (6 + 0) "_law_item" ["_law_nodes", "_law_elder", "_law_level", "_law_room", "_law_stream_here"] (qbM 0) := .none b20 k20 m20 item_none
  have X_item1 : Fx l.prog w K mg base CX0 (6 + 1) "_law_item" ["_law_nodes", "_law_elder", "_law_level", "_law_room", "_law_stream_here"] (qbM 1) := ⟨_, _, qcS F20 T X_take X_add X_text X_item0, b20, k20, m20⟩
  have X_item2 : Fx l.prog w K mg base CX0 (6 + 2) "_law_item" ["_law_nodes", "_law_elder", "_law_level", "_law_room", "_law_stream_here"] (qbM 2) := ⟨_, _, qcS F20 T X_take X_add X_text X_item1, b20, k20, m20⟩
  have X_item3 : Fx l.prog w K mg base CX0 (6 + 3) "_law_item" ["_law_nodes", "_law_elder", "_law_level", "_law_room", "_law_stream_here"] (qbM 3) := ⟨_, _, qcS F20 T X_take X_add X_text X_item2, b20, k20, m20⟩
  have X_item4 : Fx l.prog w K mg base CX0 (6 + 4) "_law_item" ["_law_nodes", "_law_elder", "_law_level", "_law_room", "_law_stream_here"] (qbM 4) := ⟨_, _, qcS F20 T X_take X_add X_text X_item3, b20, k20, m20⟩
  have X_book : Fx l.prog w K mg base CX0 11 "_law_book" ["_law_stream_here", "_law_many", "_law_room"] spBook := ⟨_, _, ok_book F21 T X_text X_item4, b21, k21, m21⟩
  have X_elders_of : Fx l.prog w K mg base CX0 1 "elders_of" ["book", "node"] spElders := ⟨_, _, ok_elders_of F1 U.elder, b1, k1, m1⟩
  have X_fits : Fx l.prog w K mg base CX0 2 "fits" ["book", "rule", "node"] spFits := ⟨_, _, ok_fits F2 U X_elders_of, b2, k2, m2⟩
  have X_count_conditions : Fx l.prog w K mg base CX0 1 "count_conditions" ["rule"] spCond := ⟨_, _, ok_cond F3 TD U.ofk U.within U.mark, b3, k3, m3⟩
  have X_precedence : Fx l.prog w K mg base CX0 2 "precedence" ["rules", "number"] spPrec := ⟨_, _, ok_prec F6 ⟨_, j_RANK⟩ X_count_conditions, b6, k6, m6⟩
  obtain ⟨fp, dp, Fp, hbp, kpp, hmp⟩ := id X_precedence
  have X_winner_of : Fx l.prog w K mg base CX0 5 "winner_of" ["rules", "fitting", "word"] (qcW Pt) := ⟨_, _, ok_winner l5 e5 TD ⟨_, j_SETS⟩ hC hPt hB Fp hbp kpp hmp, b5, k5, m5⟩
  have X_untold_of : Fx l.prog w K mg base CX0 1 "untold_of" ["book", "paper", "node", "word"] spUntold := ⟨_, _, ok_untold F7 TD U.elder ⟨_, j_VALUE⟩ mg_PROPERTIES PT mg_HANDED HD mg_UNTOLD UD, b7, k7, m7⟩
  have X_winners : Fx l.prog w K mg base CX0 6 "winners" ["book", "rules"] (qca Pt) := ⟨_, _, ok_winners F4 TD ⟨_, j_SETS⟩ mg_PROPERTIES PT X_fits X_winner_of X_untold_of, b4, k4, m4⟩
  have X_headings : Fx l.prog w K mg base CX0 1 "headings" ["book"] spHeadings := ⟨_, _, ok_headings F9 TD mg_PROPERTIES PT, b9, k9, m9⟩
  have X_names_the_winner : Fx l.prog w K mg base CX0 3 "names_the_winner" ["rules", "setting", "row"] spNames := ⟨_, _, ok_names F11 TD ⟨_, j_WORD⟩ ⟨_, j_WHY⟩ ⟨_, j_VALUE⟩ ⟨_, j_SETS⟩ X_precedence, b11, k11, m11⟩
  have X_row_holds : Fx l.prog w K mg base CX0 4 "row_holds" ["book", "rules", "fitting", "paper", "row"] spRowH := ⟨_, _, ok_rowH F10 TD ⟨_, j_NODE⟩ ⟨_, j_WORD⟩ ⟨_, j_WHY⟩ ⟨_, j_SETS⟩ X_untold_of X_names_the_winner, b10, k10, m10⟩
  have X_winners_hold : Fx l.prog w K mg base CX0 5 "winners_hold" ["book", "rules", "paper"] spHold := ⟨_, _, ok_hold F8 TD ⟨_, j_WHY⟩ mg_PROPERTIES PT X_headings X_fits X_row_holds, b8, k8, m8⟩
  have X_table : Fx l.prog w K mg base CX0 1 "_law_table" [] spTable := ⟨_, _, ok_table F22, b22, k22, m22⟩
  have X_rule : Fx l.prog w K mg base CX0 2 "_law_rule" ["_law_stream_here"] spRule := ⟨_, _, ok_rule F23 T X_take X_table, b23, k23, m23⟩
  have X_few : Fx l.prog w K mg base CX0 2 "_law_few" ["_law_stream_here"] spRule := ⟨_, _, ok_few F24 T X_take X_table, b24, k24, m24⟩
  have X_rules : Fx l.prog w K mg base CX0 3 "_law_rules" ["_law_stream_here", "_law_long"] spRules := ⟨_, _, ok_rules F25 T X_take X_few X_rule, b25, k25, m25⟩
  have X_law_fits : Fx l.prog w K mg base CX0 1 "_law_fits" ["_law_book_here", "_law_rule_here", "_law_node"] spFits := ⟨_, _, ok_law_fits F26, b26, k26, m26⟩
  have X_told : Fx l.prog w K mg base CX0 1 "_law_told" ["_law_rule_here"] spCond := ⟨_, _, ok_told F27 TD, b27, k27, m27⟩
  have X_set : Fx l.prog w K mg base CX0 1 "_law_set" ["_law_rule_here", "_law_word_here"] spSet := ⟨_, _, ok_set F28, b28, k28, m28⟩
  have X_winner : Fx l.prog w K mg base CX0 2 "_law_winner" ["_law_book_here", "_law_rules_here", "_law_node", "_law_word_here"] spWinL := ⟨_, _, ok_winL F29 TD X_set X_law_fits X_told, b29, k29, m29⟩
  have X_paper : Fx l.prog w K mg base CX0 3 "_law_paper" ["_law_book_here", "_law_rules_here"] spPaperL := ⟨_, _, ok_paper F30 TD X_table X_winner X_set, b30, k30, m30⟩
  have X_why : Fx l.prog w K mg base CX0 2 "_law_why" ["_law_stream_here", "_law_why_here", "_law_many", "_law_node"] spWhyL := ⟨_, _, ok_whyL F31 TD X_take, b31, k31, m31⟩
  have X_row : Fx l.prog w K mg base CX0 3 "_law_row" ["_law_stream_here", "_law_row_here", "_law_many"] spRowL := ⟨_, _, ok_rowL F32 TD X_take X_table X_why, b32, k32, m32⟩
  have X_bent : Fx l.prog w K mg base CX0 4 "_law_bent" ["_law_stream_here", "_law_paper_here", "_law_many"] spBent := ⟨_, _, ok_bent F33 TD X_take X_row, b33, k33, m33⟩
  exact ok_law F34 TD X_stream X_take X_book X_rules X_paper X_winners X_winners_hold X_bent
theorem walk {l : PySem.W.OpenLaw} {q : Program} {loose : List Str} {XP : (Str → Option Value) → Heap → Prop} {YP : World → Heap → Prop} {d : DefRec} {K : Params → PySem.W.Frag} {c Pt : Addr} (hn : l.most = some 63) (hdf : d.params.defaults = [])
    (hY : ∀ (w : World) (h : Heap), YP w h → (K w.params).In h ∧ h.get? Pt = some (PySem.W.tabObj #[])) (hC : ∀ w : World, PySem.W.codeHdIn (K w.params) c Pt = true) (hKP : ∀ w : World, (K w.params).lookup Pt = none)
    (F : ∀ (w : World) (mg : Str → Option Value) (fa : Addr) (h : Heap), (K w.params).In h → h.Ns mainGlobals mg → mg d.name = some (.ref fa) →
      ∃ fd : FuncData, (∀ (s : Shared) (u : Value), BindsTo s fd ⟨[u], []⟩ [("_law_script", u)]) ∧ ∀ base : Heap, (K w.params).In base → base.Ns mainGlobals mg → base.BuiltinsAt mg Pt → FnOk l.prog w (K w.params) mg base CX0 12 fa fd ["_law_script"] (qeB Pt (K w.params))) :
    PySem.W.WalkO q loose XP YP l.row.toRowW d [] (fun f vs => PySem.call f vs) :=
  L2.walk_ofT (n := 63) (k := 12) (x := "_law_script") (c := c) (Pt := Pt) (CX := fun _ => CX0) (sp := fun w => qeB Pt (K w.params)) hn (by decide) hdf ⟨rfl, by decide, by decide⟩ hY hC hKP F (fun _ _ a ns hl hO hS => ⟨a, ns, rfl, hS, hl, ⟨#[], hO.1, trivial, .inl rfl⟩, fun _ => rfl⟩) fun _ _ _ _ _ z => z
end K14
theorem PySem.W.Fast.te11546742425064269952 : True := trivial
def PySem.W.Fast.tw11546742425064269952 : Unit := ()
def PySem.W.Fast.tw15702515524916153138 : PySem.Program := PySem.Challenge.pw_leafpress_k14_whole_winners_hold
theorem PySem.W.Fast.te15702515524916153138 : PySem.Challenge.pw_leafpress_k14_whole_winners_hold = PySem.W.Fast.tw15702515524916153138 := rfl
open PySem PySem.W PyProof.Rows
set_option maxRecDepth 100000 in
set_option maxHeartbeats 0 in
theorem PySem.Challenge.cw_leafpress_k14_whole_winners_hold_holds : PySem.Challenge.rw_leafpress_k14_whole_winners_hold.Holds := by
  w_on; o_law; k_head; (case hw => w_witness2)
  k_fill
  refine K14.walk (l := PySem.Challenge.rw_leafpress_k14_whole_winners_hold) (c := 43) (Pt := 41) rfl rfl (fun w h Y => ⟨PySem.W.km_in_of Y, PySem.W.km_tabs_of Y _ (by simp)⟩) (fun w => by first | k_is | kernel_rfl) (fun w => by first | kernel_rfl | k_is) ?F
  case F =>
    intro w mg fa h KX G hmg
    refine' K14.all_mk KX G hmg ?a1 ?l1 ?e1 ?k1 ?a2 ?l2 ?e2 ?k2 ?a3 ?l3 ?e3 ?k3 ?a4 ?l4 ?e4 ?k4 ?a5 ?l5 ?e5 ?k5 ?a6 ?l6 ?e6 ?k6 ?a7 ?l7 ?e7 ?k7 ?a8 ?l8 ?e8 ?k8 ?a9 ?l9 ?e9 ?k9 ?a10 ?l10 ?e10 ?k10 ?a11 ?l11 ?e11 ?k11 ?a12 ?l12 ?e12 ?k12 ?a13 ?l13 ?e13 ?k13 ?a14 ?l14 ?e14 ?k14 ?a15 ?l15 ?e15 ?k15 ?a16 ?l16 ?e16 ?k16 ?a17 ?l17 ?e17 ?k17 ?a18 ?l18 ?e18 ?k18 ?a19 ?l19 ?e19 ?k19 ?a20 ?l20 ?e20 ?k20 ?a21 ?l21 ?e21 ?k21 ?a22 ?l22 ?e22 ?k22 ?a23 ?l23 ?e23 ?k23 ?a24 ?l24 ?e24 ?k24 ?a25 ?l25 ?e25 ?k25 ?a26 ?l26 ?e26 ?k26 ?a27 ?l27 ?e27 ?k27 ?a28 ?l28 ?e28 ?k28 ?a29 ?l29 ?e29 ?k29 ?a30 ?l30 ?e30 ?k30 ?a31 ?l31 ?e31 ?k31 ?a32 ?l32 ?e32 ?k32 ?a33 ?l33 ?e33 ?k33 ?a34 ?l34 ?e34 ?k34 ?x_PROPERTIES ?l_PROPERTIES ?x_HANDED ?l_HANDED ?x_UNTOLD ?l_UNTOLD ?hPt ?hC ?n_isinstance ?n_len ?n_range ?n_sorted ?n_int ?n_bool ?n_list ?n_tuple ?n_str ?n_set ?n_enumerate ?n_all ?n_ValueError ?n_any ?n_min ?n_max ?n_sum ?n_zip ?n_dict ?i_ELDER ?i_KIND ?i_MARKS ?i_RANK ?i_OF_KIND ?i_WITHIN ?i_MARK ?i_SETS ?i_WORD ?i_VALUE ?i_NODE ?i_WHY
    (case a1 => k_is)
    (case l1 => k_is)
    (case e1 => k_is)
    (case k1 => k_is)
    (case a2 => k_is)
    (case l2 => k_is)
    (case e2 => k_is)
    (case k2 => k_is)
    (case a3 => k_is)
    (case l3 => k_is)
    (case e3 => k_is)
    (case k3 => k_is)
    (case a4 => k_is)
    (case l4 => k_is)
    (case e4 => k_is)
    (case k4 => k_is)
    (case a5 => k_is)
    (case l5 => k_is)
    (case e5 => k_is)
    (case k5 => k_is)
    (case a6 => k_is)
    (case l6 => k_is)
    (case e6 => k_is)
    (case k6 => k_is)
    (case a7 => k_is)
    (case l7 => k_is)
    (case e7 => k_is)
    (case k7 => k_is)
    (case a8 => k_is)
    (case l8 => k_is)
    (case e8 => k_is)
    (case k8 => k_is)
    (case a9 => k_is)
    (case l9 => k_is)
    (case e9 => k_is)
    (case k9 => k_is)
    (case a10 => k_is)
    (case l10 => k_is)
    (case e10 => k_is)
    (case k10 => k_is)
    (case a11 => k_is)
    (case l11 => k_is)
    (case e11 => k_is)
    (case k11 => k_is)
    (case a12 => k_is)
    (case l12 => k_is)
    (case e12 => k_is)
    (case k12 => k_is)
    (case a13 => k_is)
    (case l13 => k_is)
    (case e13 => k_is)
    (case k13 => k_is)
    (case a14 => k_is)
    (case l14 => k_is)
    (case e14 => k_is)
    (case k14 => k_is)
    (case a15 => k_is)
    (case l15 => k_is)
    (case e15 => k_is)
    (case k15 => k_is)
    (case a16 => k_is)
    (case l16 => k_is)
    (case e16 => k_is)
    (case k16 => k_is)
    (case a17 => k_is)
    (case l17 => k_is)
    (case e17 => k_is)
    (case k17 => k_is)
    (case a18 => k_is)
    (case l18 => k_is)
    (case e18 => k_is)
    (case k18 => k_is)
    (case a19 => k_is)
    (case l19 => k_is)
    (case e19 => k_is)
    (case k19 => k_is)
    (case a20 => k_is)
    (case l20 => k_is)
    (case e20 => k_is)
    (case k20 => k_is)
    (case a21 => k_is)
    (case l21 => k_is)
    (case e21 => k_is)
    (case k21 => k_is)
    (case a22 => k_is)
    (case l22 => k_is)
    (case e22 => k_is)
    (case k22 => k_is)
    (case a23 => k_is)
    (case l23 => k_is)
    (case e23 => k_is)
    (case k23 => k_is)
    (case a24 => k_is)
    (case l24 => k_is)
    (case e24 => k_is)
    (case k24 => k_is)
    (case a25 => k_is)
    (case l25 => k_is)
    (case e25 => k_is)
    (case k25 => k_is)
    (case a26 => k_is)
    (case l26 => k_is)
    (case e26 => k_is)
    (case k26 => k_is)
    (case a27 => k_is)
    (case l27 => k_is)
    (case e27 => k_is)
    (case k27 => k_is)
    (case a28 => k_is)
    (case l28 => k_is)
    (case e28 => k_is)
    (case k28 => k_is)
    (case a29 => k_is)
    (case l29 => k_is)
    (case e29 => k_is)
    (case k29 => k_is)
    (case a30 => k_is)
    (case l30 => k_is)
    (case e30 => k_is)
    (case k30 => k_is)
    (case a31 => k_is)
    (case l31 => k_is)
    (case e31 => k_is)
    (case k31 => k_is)
    (case a32 => k_is)
    (case l32 => k_is)
    (case e32 => k_is)
    (case k32 => k_is)
    (case a33 => k_is)
    (case l33 => k_is)
    (case e33 => k_is)
    (case k33 => k_is)
    (case a34 => k_is)
    (case l34 => k_is)
    (case e34 => k_is)
    (case k34 => k_is)
    (case x_PROPERTIES => k_is)
    (case l_PROPERTIES => k_is)
    (case x_HANDED => k_is)
    (case l_HANDED => k_is)
    (case x_UNTOLD => k_is)
    (case l_UNTOLD => k_is)
    (case hPt => decide)
    (case hC => first | k_is | kernel_rfl)
    (case n_isinstance => k_is)
    (case n_len => k_is)
    (case n_range => k_is)
    (case n_sorted => k_is)
    (case n_int => k_is)
    (case n_bool => k_is)
    (case n_list => k_is)
    (case n_tuple => k_is)
    (case n_str => k_is)
    (case n_set => k_is)
    (case n_enumerate => k_is)
    (case n_all => k_is)
    (case n_ValueError => k_is)
    (case n_any => k_is)
    (case n_min => k_is)
    (case n_max => k_is)
    (case n_sum => k_is)
    (case n_zip => k_is)
    (case n_dict => k_is)
    (case i_ELDER => k_is)
    (case i_KIND => k_is)
    (case i_MARKS => k_is)
    (case i_RANK => k_is)
    (case i_OF_KIND => k_is)
    (case i_WITHIN => k_is)
    (case i_MARK => k_is)
    (case i_SETS => k_is)
    (case i_WORD => k_is)
    (case i_VALUE => k_is)
    (case i_NODE => k_is)
    (case i_WHY => k_is)

